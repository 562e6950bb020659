import PyProof.Rows.All
import Wide.All
import OpenK.AllK
import Wide.FinOn
import HandS.ForMost
import HandS.Wide
import HandS.WideBits
import HandS.RaiseMore
import HandS.Star
import HandS.ClsMeth
import HandS.IsInst
import HandS.Zip
import HandS.TupAny
import HandS.Property
import HandS.Walk
import HandS.Exc
import HandS.ExcOwn
import HandS.ExcInit
import HandS.ExcIs
import HandS.ExcField
import KE.KIsAll
import KE.KTryMore
import HandS.WordsExc
import KE.GoesEnum
import OpenK.KMeth
import KE.KOpsOwn
import PyProof.InstNe
import KE.KDictItemsList
import KE.KDictZip
import HandS.Gcd
import PyProof.ReprRoads
import HandS.Small
import PyProof.Rows.ReprOcc
import HandS.Style
import PyProof.Rows.IntBool
import HandS.GenList
import HandS.MapObj
import HandS.EndTab
import KE.KNestM
import HandS.Text
import HandS.StrMore
import PyProof.StrBlock2
import HandS.Conv
import HandS.SortInts
import PySem.Challenge.RW_rulerkeep_k43_texts_that_are_no_rules
set_option Elab.async false
set_option linter.all false
set_option maxRecDepth 100000
namespace Rk
open PySem PySem.Spec PyProof.Rows L2

/-! ### powers of great bases -/
def CPowB (i j : Int) : Prop := 0 ≤ j ∧ (Builtin.Int.intBits i : Int) * j ≤ 2 ^ 27
section
variable {X : Cx}
theorem op_powB : OpR X (binaryOp .Pow) (rI CPowB fun i j => .int (i ^ j.toNat)) :=
  opI fun _ _ _ _ _ _ _ hc q => pow_int hc.1 hc.2 q

/-! ### repr of plain values -/
def plainD : V → Option PyData
  | .non => some .none
  | .bl b => some (.bool b)
  | .int i => some (.int i)
  | .str x => some (.str x)
  | _ => none
theorem call_repr0 : CallR X (.builtin "repr") (fun xs H Q => ∃ x d, xs = [x] ∧ plainD x = some d ∧ d.showable = true ∧ d.shown.length ≤ sizeLine ∧ Q (.str d.shown) H) := by
  intro pins s σ H xs us Q I r h
  obtain ⟨x, d, rfl, hd, hs, hl, q⟩ := h
  obtain ⟨u, rfl, rx⟩ := vals1 r
  cases x with
  | non =>
    cases rx
    cases hd
    exact PySem.P.repr_of_none ⟨.str _, H, I.tok _, ⟨_, rfl⟩, q⟩
  | bl b =>
    cases rx
    cases hd
    exact PySem.P.repr_of_bool ⟨.str _, H, I.tok _, ⟨_, rfl⟩, q⟩
  | int i =>
    obtain ⟨t, rfl⟩ := rx
    cases hd
    exact PySem.P.repr_of_int (by simpa [PyData.showable] using hs) ⟨.str _, H, I.tok _, ⟨_, rfl⟩, q⟩
  | str z =>
    obtain ⟨t, rfl⟩ := rx
    cases hd
    exact PySem.P.repr_of_str (hsz := hl) ⟨.str _, H, I.tok _, ⟨_, rfl⟩, q⟩
  | _ => cases hd
end
end Rk
namespace Rk
open PySem PySem.Spec PyProof.Rows L2

/-! ### defs that are called where no repr is under way: with that, repr of tuples and lists is known -/
structure FnG (P : Program) (w : World) (K : PySem.W.Frag) (mg : Str → Option Value) (base : Heap) (k : Nat) (f : Addr) (fd : FuncData) (ps : List Str) (sp : Sp) : Prop where
  len : ∀ vs H Q E, sp vs H Q E → vs.length = ps.length
  run : ∀ (A : Around) (outer : List Env) (s : Shared) (H : Hp) (args : Args) (us : List Value) (vs : List V) (Q : VK) (E : XK), A.guards = some [] →
    Room k A → Env0 P w K mg base A outer s H → BindsTo s fd args (ps.zip us) → Vals vs us → sp vs H Q E →
    codeAny (model P w) A (.call (.ref f) args) (CR CX0 outer P w H s Q E) s
section
variable {P : Program} {w : World} {K : PySem.W.Frag} {mg : Str → Option Value} {base : Heap} {k : Nat} {f : Addr} {fd : FuncData} {ps N : List Str} {sp : Sp}
theorem FnG.of (F : FnOk P w K mg base CX0 k f fd ps sp) : FnG P w K mg base k f fd ps sp :=
  ⟨F.len, fun A o s H a us vs Q E _ => F.run A o s H a us vs Q E⟩
theorem FnG.mono {j : Nat} (F : FnG P w K mg base j f fd ps sp) (h : j ≤ k) : FnG P w K mg base k f fd ps sp :=
  ⟨F.len, fun A o s H a us vs Q E hg hr => F.run A o s H a us vs Q E hg (hr.mono h)⟩

theorem FnG.body {x qual : Str} {st : Stmt} (F : Fun K x qual st f fd) (S : FnScope N ps (defScope st)) (len : ∀ vs H Q E, sp vs H Q E → vs.length = ps.length)
    (bd : ∀ (cdv : Value) (A : Around) (outer : List Env) (s : Shared) (H : Hp) (vs : List V) (Q : VK) (E : XK), A.guards = some [] → Room k (A.deeper (envOfC qual (defScope st) s.heap.objs.size f cdv)) → sp vs H Q E →
      ∃ t, PSs (cxOf CX0 P w K mg base N qual (defScope st) f cdv A outer s H E).nox (defBody st) t ∧ t { nx := fun _ H' => Q .non H', rt := Q } (start N vs) H) :
    FnG P w K mg base (k + 1) f fd ps sp := by
  obtain ⟨oc, od, kV, doc, pm, an, cdv, ct, osl, efd, lk, hcd⟩ := F.ex
  subst efd
  refine ⟨len, ?_⟩
  intro A outer s H args us vs Q E gd hr e0 hb r hsp
  have kin : K.In s.heap := e0.mod.kin.keeps (fun b o e => And.left (e0.bs b o e))
  have nol : s.heap.NoLimit := e0.mod.nolimit.keeps (fun b o e => And.left (e0.bs b o e))
  have kinds : ∀ y ∈ ps.zip us, (defScope st).names.lookup y.1 = some .local ∨ ((defScope st).names.lookup y.1 = some .cell ∧ ((cellsFrom (s.heap.objs.size + 1) (defScope st).names []).lookup y.1).isSome = true) := by
    rintro ⟨n, v⟩ hy
    rcases S.par n (List.of_mem_zip hy).1 with q | q
    · exact Or.inl q
    · exact Or.inr ⟨q, PySem.W.cellsFrom_some _ _ _ (Or.inl q)⟩
  refine codeAny_call_function hr.depth (kin _ _ lk) rfl S.co S.gen rfl (PySem.W.codeRec_of kin hcd) (hb _ _ _ _ (wpAny_newFunctionEnv_cells S.kind kinds ?_))
  intro env he s1 x
  subst he
  refine ⟨nol.keeps x.toInCall.keep, codeAny_func ?_⟩
  obtain ⟨t, ht, hq⟩ := bd cdv A outer s H vs Q E gd (hr.deeper _) hsp
  have I : Inv (cxOf CX0 P w K mg base N qual (defScope st) f cdv A outer s H E) [] (start N vs) H s1 := inv_start S hr.hd e0 (len _ _ _ _ hsp) r x
  refine wpAny_mono (ht.nox.run [] s1 (start N vs) H _ I hq) ?_ (fun _ _ z => z)
  intro fl s' hs
  cases fl with
  | brk => exact hs.elim fun _ z => z.elim fun _ z => z.2.elim
  | cont => exact hs.elim fun _ z => z.elim fun _ z => z.2.elim
  | next =>
    obtain ⟨σ', H', J, q⟩ := hs
    exact ⟨V.non, H', J.os, J.bare, J.base, J.hok, rfl, q⟩
  | ret u =>
    obtain ⟨v, σ', H', J, rv, q⟩ := hs
    exact ⟨v, H', J.os, J.bare, J.base, J.hok, rv, q⟩
end

/-! ### a def of the text by its name -/
structure Df (K : PySem.W.Frag) (mg : Str → Option Value) (x : Str) (st : Stmt) (ps : List Str) : Prop where
  ex : ∃ (f : Addr) (fd : FuncData), Fun K x x st f fd ∧ mg x = some (.ref f) ∧ Binds K fd ps []
/-- the def of this name keeps the promise -/
def Has (P : Program) (w : World) (K : PySem.W.Frag) (mg : Str → Option Value) (base : Heap) (k : Nat) (x : Str) (ps : List Str) (sp : Sp) : Prop :=
  ∃ (f : Addr) (fd : FuncData), mg x = some (.ref f) ∧ PySem.W.keepIn K (.ref f) = true ∧ Binds K fd ps [] ∧ FnG P w K mg base k f fd ps sp
section
variable {P : Program} {w : World} {K : PySem.W.Frag} {mg : Str → Option Value} {base : Heap} {k : Nat} {x : Str} {ps N : List Str} {sp : Sp} {st : Stmt}
theorem Df.has (D : Df K mg x st ps) (S : FnScope N ps (defScope st)) (len : ∀ vs H Q E, sp vs H Q E → vs.length = ps.length)
    (bd : ∀ (f : Addr) (cdv : Value) (A : Around) (outer : List Env) (s : Shared) (H : Hp) (vs : List V) (Q : VK) (E : XK), A.guards = some [] → Room k (A.deeper (envOfC x (defScope st) s.heap.objs.size f cdv)) → sp vs H Q E →
      ∃ t, PSs (cxOf CX0 P w K mg base N x (defScope st) f cdv A outer s H E).nox (defBody st) t ∧ t { nx := fun _ H' => Q .non H', rt := Q } (start N vs) H) :
    Has P w K mg base (k + 1) x ps sp := by
  obtain ⟨f, fd, F, m, b⟩ := D.ex
  exact ⟨f, fd, m, F.kp, b, FnG.body F S len (bd f)⟩
end

section
variable {X : Cx} {k : Nat} {ps : List Str} {sp : Sp} {x : Str} {p pos : Pos} {e : Expr} {es : List Expr} {t : TA}
/-- f(e, ..), f a def of the text -/
theorem pe_has (h : Has X.prog X.w X.K X.mg X.base k x ps sp) (hg : X.A.guards = some []) (hr : Room k X.A) (gx : Gl X x) (ha : PA X (e :: es) t) (hdb : (x == ("__debug__" : Str)) = false := by decide)
    (he : starEach (e :: es) X.env = (false, eval e X.env) :: starEach es X.env := by rfl) (hpl : (backTo pos (starEach es X.env)).any (·.1) = false := by rfl) :
    PE X (.Call (.Name x p) (e :: es) [] pos) (tCall sp [] E0 t) := by
  obtain ⟨f, fd, m, kp, b, F⟩ := h
  constructor
  intro pins s σ H Q I hq
  refine wpAny_Call_Name_kw (ld_glob I gx m ?_ hdb)
  refine PySem.W.callWith_K (h₀ := X.base) I.ok.mod.kin kp (thn (ha.run pos pins s σ H _ I hq) ?_) he hpl
  rintro us s1 ⟨vs, H1, I1, r, q⟩
  refine ⟨I1.kIn, ?_⟩
  have q' : sp vs H1 Q E0 := by
    rw [List.append_nil] at q
    exact q
  have hl : us.length = ps.length := r.length.symm.trans (F.len _ _ _ _ q')
  have hb := b s1 us I1.kIn (by rw [List.append_nil]; exact hl)
  rw [List.append_nil] at hb
  refine wpAny_call (codeAny_mono (F.run X.A X.stack s1 H1 ⟨us, []⟩ us vs Q E0 hg hr I1.env0 hb r q') ?_)
  intro res s' z
  cases res with
  | error e => exact z.elim
  | ok fl =>
    cases fl with
    | ret u => exact I1.after z
    | _ => exact z.elim
end

/-! ### repr of data -/
section
variable {X : Cx}
def rRepr (K : PySem.W.Frag) : List V → Hp → VK → Prop := fun xs H Q => ∃ x d, xs = [x] ∧ Dp K H x d ∧ d.showable = true ∧ d.hasDict = false ∧ d.depth ≤ 60 ∧ d.shown.length ≤ sizeLine ∧ Q (.str d.shown) H
theorem call_reprD (hg : X.A.guards = some []) (hu : X.A.units + 64 < cLine) : CallR X (.builtin "repr") (rRepr X.K) := by
  intro pins s σ H xs us Q I r h
  obtain ⟨x, d, rfl, hd, hs, hn, hdp, hl, q⟩ := h
  obtain ⟨u, rfl, rx⟩ := vals1 r
  cases hd with
  | non =>
    cases rx
    exact PySem.P.repr_of_none ⟨.str _, H, I.tok _, ⟨_, rfl⟩, q⟩
  | bl b =>
    cases rx
    exact PySem.P.repr_of_bool ⟨.str _, H, I.tok _, ⟨_, rfl⟩, q⟩
  | int i =>
    obtain ⟨t, rfl⟩ := rx
    exact PySem.P.repr_of_int (by simpa [PyData.showable] using hs) ⟨.str _, H, I.tok _, ⟨_, rfl⟩, q⟩
  | str z =>
    obtain ⟨t, rfl⟩ := rx
    exact PySem.P.repr_of_str (hsz := hl) ⟨.str _, H, I.tok _, ⟨_, rfl⟩, q⟩
  | lst h1 h2 =>
    obtain ⟨as, rd⟩ := Dp.reads I _ _ _ (.lst h1 h2) rx
    cases rx
    exact repr_of_reads' rd hs (PyData.noDict_hsm hn) hg (by omega) (fun _ _ e => e) (fun h' u tk hk => ⟨.str _, H, I.kept (t' := tk) hk, ⟨_, rfl⟩, q⟩) hl
  | tup h1 h2 =>
    obtain ⟨as, rd⟩ := Dp.reads I _ _ _ (.tup h1 h2) rx
    cases rx
    exact repr_of_reads' rd hs (PyData.noDict_hsm hn) hg (by omega) (fun _ _ e => e) (fun h' u tk hk => ⟨.str _, H, I.kept (t' := tk) hk, ⟨_, rfl⟩, q⟩) hl
end
end Rk
namespace Rk
open PySem PySem.Spec PyProof.Rows L2

/-! ### the law's own call -/
/-- from a heap H that tracks the script at most -/
theorem enterG {P : Program} {w : World} {K : PySem.W.Frag} {mg mb : Str → Option Value} {k : Nat} {fa a : Addr} {nm x : Str} {sp : Sp} {s₁ : Shared} {vs : List Value} {H : Hp}
    (KX : K.In s₁.heap) (hns : s₁.heap.Ns mainGlobals mg) (hb : s₁.heap.Ns builtinsNs mb) (hbb : ∀ x : Str, x ≠ "__name__" → mb x = bootBuiltins x) (hlim : s₁.heap.NoLimit) (hg : s₁.gens = #[])
    (ha : s₁.heap.get? a = some { cls := .type "list", data := .seq vs.toArray }) (hr : Room k callerA)
    (F : ∀ base : Heap, K.In base → base.Ns mainGlobals mg → Has P w K mg base k nm [x] sp) (hfa : mg nm = some (.ref fa))
    (hO : Only H) (ok : HOk P w H s₁.heap) (hA : ∀ b, H b ≠ none → b = a) (hK : H a ≠ none → K.lookup a = none) (hsp : sp [.ref a] H (fun v _ => v = .bl true) E0) :
    codeAny (model P w) callerA (.call (.ref fa) ⟨[.ref a], []⟩) (fun r s' => r = .ok (.ret (.bool true)) ∧ OldK s₁.heap s'.heap ∧ s'.os = s₁.os ∧ AllBare s'.gens) s₁ := by
  have dictFree : ∀ {b : Addr} {o : Obj} {es : Array DictEntry} {ep : Nat}, s₁.heap.get? b = some o → o.data = .dict es ep → H b = none := by
    intro b o es ep e d
    cases q : H b with
    | none => rfl
    | some u =>
      have z := hA b (by rw [q]; simp)
      subst z
      rw [ha] at e
      cases e
      exact absurd (show Data.seq vs.toArray _ = Data.dict es ep from d) (fun z => by cases z)
  have nsH : ∀ {b : Addr} {m : Str → Option Value}, s₁.heap.Ns b m → (hidT s₁.heap H).Ns b m := by
    rintro b m ⟨o, es, ep, e, d, r⟩
    exact ⟨o, es, ep, hidT_get e (dictFree e d), d, r⟩
  have kinH : K.In (hidT s₁.heap H) := by
    intro b o e
    refine hidT_get (KX b o e) ?_
    cases q : H b with
    | none => rfl
    | some u =>
      have z := hA b (by rw [q]; simp)
      subst z
      have n := hK (by rw [q]; simp)
      rw [n] at e
      cases e
  obtain ⟨mc, l1, l2⟩ := hlim
  have e0 : Env0 P w K mg (hidT s₁.heap H) callerA [] s₁ H := by
    refine ⟨rfl, ⟨kinH, nsH hns, ⟨mb, nsH hb, hbb⟩, mc, nsH l1, l2⟩, fun b o e => of_hidT e, Nat.le_of_eq (hidT_size _ _), trivial, ?_, ok, .of_eq hg⟩
    intro b z
    exact absurd (show b ∈ ([] : List Addr) from z) (by simp)
  obtain ⟨f, fd, m, kp, bd, F1⟩ := F _ kinH (nsH hns)
  have ef := Option.some.inj (m.symm.trans hfa)
  cases ef
  have run := F1.run callerA [] s₁ H ⟨[.ref a], []⟩ [.ref a] [.ref a] _ _ rfl hr e0 (bd s₁ [.ref a] KX rfl) (.cons rfl .nil) hsp
  refine codeAny_mono run ?_
  intro r s' h
  cases r with
  | error e => exact h.elim
  | ok fl =>
    cases fl with
    | ret u =>
      obtain ⟨v, H', os, bare, un, hok', r', q⟩ := h
      have q' : v = .bl true := q
      subst q'
      obtain rfl : u = Value.bool true := r'
      refine ⟨rfl, OldK.of_keep ?_, os, bare⟩
      intro b o e
      rcases hO b with z | ⟨ob, xs, z⟩
      · exact un.keep b o e z (fun y => absurd (show b ∈ ([] : List Addr) from y) (by simp)) (by simp)
      · have z2 := un.frzs b ob _ z
        have e1 := (ok b _ z).1
        have e2 := (hok' b _ z2).1
        rw [e] at e1
        cases e1
        exact e2
    | _ => exact h.elim

theorem law_callG {P : Program} {w : World} {K : PySem.W.Frag} {mg mb : Str → Option Value} {k : Nat} {fa a : Addr} {nm x : Str} {sp : Sp} {s₁ : Shared} {vs : List Value} {ns : List Int}
    (KX : K.In s₁.heap) (hns : s₁.heap.Ns mainGlobals mg) (hb : s₁.heap.Ns builtinsNs mb) (hbb : ∀ x : Str, x ≠ "__name__" → mb x = bootBuiltins x) (hlim : s₁.heap.NoLimit) (hg : s₁.gens = #[])
    (ha : s₁.heap.get? a = some { cls := .type "list", data := .seq vs.toArray }) (hi : IntsAre vs ns) (hl : ns.length ≤ sizeLine) (hr : Room k callerA)
    (F : ∀ base : Heap, K.In base → base.Ns mainGlobals mg → Has P w K mg base k nm [x] sp) (hfa : mg nm = some (.ref fa))
    (hsp : ∀ H : Hp, Only H → SqL K H a (ns.map V.int) → sp [.ref a] H (fun v _ => v = .bl true) E0) :
    codeAny (model P w) callerA (.call (.ref fa) ⟨[.ref a], []⟩) (fun r s' => r = .ok (.ret (.bool true)) ∧ OldK s₁.heap s'.heap ∧ s'.os = s₁.os ∧ AllBare s'.gens) s₁ := by
  have rv : Vals (ns.map V.int) vs := vals_ints hi
  have lenV : vs.length = ns.length := hi.length
  cases hk : K.lookup a with
  | some o =>
    have e := KX a o hk
    rw [ha] at e
    cases e
    have O : Only (fun _ => none) := fun _ => Or.inl rfl
    refine enterG (H := fun _ => none) KX hns hb hbb hlim hg ha hr F hfa O ?_ (fun b z => absurd rfl z) (fun z => absurd rfl z) (hsp _ O (Or.inr ⟨_, vs.toArray, _, hk, rfl, rfl, rfl, ?_, ?_⟩))
    · intro b u z
      exact absurd (show (none : Option HO) = some u from z) (fun y => by cases y)
    · rw [List.size_toArray, lenV]
      exact hl
    · simpa using rv
  | none =>
    let H : Hp := fun b => if b = a then some (.frz { cls := .type "list", data := .seq vs.toArray } (.lst (ns.map V.int))) else none
    have Ha : H a = some (.frz { cls := .type "list", data := .seq vs.toArray } (.lst (ns.map V.int))) := if_pos rfl
    have Hn : ∀ b, b ≠ a → H b = none := fun b z => if_neg z
    have O : Only H := by
      intro b
      by_cases z : b = a
      · subst z
        exact Or.inr ⟨_, _, Ha⟩
      · exact Or.inl (Hn b z)
    refine enterG (H := H) KX hns hb hbb hlim hg ha hr F hfa O ?_ ?_ (fun _ => hk) (hsp _ O (Or.inl (Or.inr ⟨_, Ha⟩)))
    · intro b u z
      by_cases y : b = a
      · subst y
        rw [Ha] at z
        cases z
        exact ⟨ha, by rw [List.length_map]; exact hl, vs, _, rv, ha⟩
      · rw [Hn b y] at z
        cases z
    · intro b z
      by_cases y : b = a
      · exact y
      · exact absurd (Hn b y) z

theorem walkG {l : PySem.W.OpenLaw} {n k : Nat} {q : Program} {loose : List Str} {XP : (Str → Option Value) → Heap → Prop} {YP : World → Heap → Prop} {d : DefRec} {K : Params → PySem.W.Frag} {sp : PySem.W.Frag → Sp} {x : Str}
    (hn : l.most = some n) (hn2 : n ≤ sizeLine) (hdf : d.params.defaults = []) (hr : Room k callerA) (hY : ∀ (w : World) (h : Heap), YP w h → (K w.params).In h)
    (F : ∀ (w : World) (mg : Str → Option Value) (h : Heap), (K w.params).In h → h.Ns mainGlobals mg → ∀ base : Heap, (K w.params).In base → base.Ns mainGlobals mg → Has l.prog w (K w.params) mg base k d.name [x] (sp (K w.params)))
    (hsp : ∀ (K : PySem.W.Frag) (H : Hp) (a : Addr) (ns : List Int), ns.length ≤ n → Only H → SqL K H a (ns.map V.int) → sp K [.ref a] H (fun v _ => v = .bl true) E0) :
    PySem.W.WalkO q loose XP YP l.row.toRowW d [] (fun f vs => PySem.call f vs) := by
  refine Att.attach_call hn hdf ?_
  intro w s₀ s₁ mg mb fa o pm cd doc a vs ns G Y ho hd hcd hmg hobj hints hlen hg
  exact law_callG (hY w _ Y) G.T.g G.T.b G.T.builtins G.T.nolimit hg hobj hints (Nat.le_trans hlen hn2) hr (F w mg _ (hY w _ Y) G.T.g) hmg (fun H hO hS => hsp _ H a ns hlen hO hS)

/-- the facts of a def of the text, as the head tells them -/
theorem df_mk {K : PySem.W.Frag} {h : Heap} {mg : Str → Option Value} {x : Str} {st : Stmt} {ps : List Str} {f : Addr} {oc : Value} {od an : Option Addr} {osl : Array (Option Value)} {kV doc pm cdv ct : Value} (X : K.In h) (G : h.Ns mainGlobals mg)
    (a : PySem.W.nsIn K mainGlobals x = some (some (.ref f))) (l : K.lookup f = some ⟨oc, od, .func (PySem.W.fnOf x x (defArgs st) (defBody st) (defScope st) .none kV doc pm an cdv ct), osl⟩)
    (c : PySem.W.codeIn K cdv x = true) (k : PySem.W.keepIn K (.ref f) = true)
    (b : ∀ (kV doc pm : Value) (an : Option Addr) (cdv ct : Value) (us : List Value), us.length = ps.length → bindArgs (PySem.W.fnOf x x (defArgs st) (defBody st) (defScope st) .none kV doc pm an cdv ct) ⟨us, []⟩ = pure (ps.zip us)) : Df K mg x st ps :=
  ⟨f, _, fun_mk l c k, PySem.W.mg_of X G a, (fun_mk l c k).binds b⟩
end Rk
namespace Rk
open PySem PySem.Spec PyProof.Rows L2
theorem same_upd {H : Hp} {p : Addr} {o : HO} (hp : H p = none) : Same H (upd H p o) := fun b u e => by
  rw [upd_ne (ne_of_none e hp)]
  exact e
/-! ### zeros at the end -/
def tz (n : Nat) : Nat := if h : n = 0 then 0 else if n % 2 = 0 then tz (n / 2) + 1 else 0
termination_by n
decreasing_by omega
theorem tz_even {n : Nat} (h0 : 0 < n) (h : n % 2 = 0) : tz n = tz (n / 2) + 1 := by
  rw [tz, dif_neg (by omega), if_pos h]
theorem tz_odd {n : Nat} (h : n % 2 = 1) : tz n = 0 := by
  rw [tz, dif_neg (by omega), if_neg (by omega)]
theorem tz_le : ∀ n : Nat, 0 < n → 2 ^ tz n ≤ n := by
  intro n
  induction n using Nat.strongRecOn with
  | ind n ih =>
    intro h0
    by_cases h : n % 2 = 0
    · rw [tz_even h0 h, Nat.pow_succ]
      have := ih (n / 2) (by omega) (by omega)
      omega
    · rw [tz_odd (by omega)]
      omega
theorem tz_lt {n k : Nat} (h0 : 0 < n) (h : n < 2 ^ k) : tz n < k := by
  have h1 := tz_le n h0
  exact (Nat.pow_lt_pow_iff_right (by decide : 1 < 2)).mp (Nat.lt_of_le_of_lt h1 h)
theorem low_bit : ∀ n : Nat, 0 < n → n - (n &&& (n - 1)) = 2 ^ tz n := by
  intro n
  induction n using Nat.strongRecOn with
  | ind n ih =>
    intro h0
    have a1 : (n &&& (n - 1)) / 2 = (n / 2) &&& ((n - 1) / 2) := Nat.and_div_two
    have a3 : ¬ (n &&& (n - 1)) % 2 = 1 := by
      rw [Nat.and_mod_two_eq_one]
      omega
    by_cases h : n % 2 = 0
    · have i := ih (n / 2) (by omega) (by omega)
      rw [tz_even h0 h, Nat.pow_succ, ← i]
      have a2 : (n - 1) / 2 = n / 2 - 1 := by omega
      have le : (n / 2) &&& (n / 2 - 1) ≤ n / 2 := Nat.and_le_left
      rw [a2] at a1
      omega
    · rw [tz_odd (by omega)]
      have a2 : (n - 1) / 2 = n / 2 := by omega
      rw [a2, Nat.and_self] at a1
      omega
theorem low_int {p : Int} (h : 0 < p) : Builtin.bitAnd p (-p) = ((2 ^ tz p.toNat : Nat) : Int) := by
  have e1 : decide (0 ≤ p) = true := decide_eq_true (by omega)
  have e2 : decide (0 ≤ -p) = false := decide_eq_false (by omega)
  have e3 : (Builtin.bitNot (-p)).toNat = p.toNat - 1 := by
    unfold Builtin.bitNot
    omega
  have l := low_bit p.toNat (by omega)
  have le : p.toNat &&& (p.toNat - 1) ≤ p.toNat := Nat.and_le_left
  unfold Builtin.bitAnd
  rw [e1, e2]
  show p - ((p.toNat &&& (Builtin.bitNot (-p)).toNat : Nat) : Int) = _
  rw [e3, ← l]
  omega
theorem bits_pow (k : Nat) : Builtin.Int.intBits ((2 ^ k : Nat) : Int) = k + 1 := by
  have h0 : 0 < 2 ^ k := Nat.pow_pos (by decide)
  unfold Builtin.Int.intBits
  have hz : ¬ (((2 ^ k : Nat) : Int) == 0) = true := by
    intro z
    have := of_decide_eq_true z
    omega
  rw [if_neg hz, Int.natAbs_natCast, Nat.log2_two_pow]
theorem tz_60 {p : Int} (h : 0 < p) (h2 : p ≤ 10 ^ 18) : tz p.toNat < 60 := tz_lt (by omega) (by
  have : p.toNat ≤ 10 ^ 18 := by omega
  exact Nat.lt_of_le_of_lt this (by decide))
theorem SqT.same {K : PySem.W.Frag} {H H' : Hp} {a : Addr} {xs : List V} (e : Same H H') (h : SqT K H a xs) : SqT K H' a xs := by
  rcases h with (h | ⟨o, h⟩) | h
  · exact .inl (.inl (e _ _ h))
  · exact .inl (.inr ⟨o, e _ _ h⟩)
  · exact .inr h
theorem map_at {α : Type} {f : α → V} {xs : List α} {i : Nat} {x : V} (h : (xs.map f)[i]? = some x) : ∃ n, xs[i]? = some n ∧ x = f n := by
  rw [List.getElem?_map] at h
  cases e : xs[i]? with
  | none => rw [e] at h; cases h
  | some n =>
    rw [e] at h
    exact ⟨n, rfl, (Option.some.inj h).symm⟩
end Rk
namespace Rk
open PySem PySem.Spec PyProof.Rows L2

/-! ### static methods, read off the class -/
structure SMet (K : PySem.W.Frag) (C : Addr) (mc : Value) (m : Str) (p f : Addr) : Prop where
  at_ : PySem.W.findCls K (.ref C) mc m = some (.get (.builtin "staticmethod.__get__") (.ref p) .none (.ref C))
  rc : ∃ rest, PySem.W.recIn K p "staticmethod" = some (.ref f :: rest)
  hi : PySem.W.handedIn (.ref f) = true
  kp : PySem.W.keepIn K (.ref f) = true
def tStatic (C : Addr) (sp : Sp) (ta : TE) (t : TA) : TE := fun σ H Q => ta σ H fun x H1 => x = .ref C ∧ t σ H1 fun vs H2 => sp vs H2 Q E0
section
variable {X : Cx} {k : Nat} {C p f : Addr} {mc : Value} {fd : FuncData} {ps : List Str} {sp : Sp} {o e : Expr} {es : List Expr} {m : Str} {pos apos : Pos} {ta : TE} {t : TA} {pl : Sem Bool}
theorem pe_static (he : PE X o ta) (r : ClX.CRead X.K C mc) (c : SMet X.K C mc m p f) (F : FnOk X.prog X.w X.K X.mg X.base CX0 k f fd ps sp) (hb : Binds X.K fd ps []) (hr : Room k X.A) (ha : PA X (e :: es) t)
    (hst : starEach (e :: es) X.env = (false, eval e X.env) :: starEach es X.env := by rfl) (hpl : (backTo pos (starEach es X.env)).any (·.1) = false := by rfl)
    (ht : eval (.Call (.Attribute o m apos) (e :: es) [] pos) X.env = (do
      let ov ← eval o X.env; standAt apos.atName
      let (f, first) ← holding [ov] (getMethod ov m pl); callWith pos f first (backTo pos (starEach (e :: es) X.env)) (backToKw pos (keywordEach [] X.env))) := by rfl) :
    PE X (.Call (.Attribute o m apos) (e :: es) [] pos) (tStatic C sp ta t) := by
  constructor
  intro pins s σ H Q I h
  refine PySem.W.methodCall_KW (pl := pl) (thn (he.run pins s σ H _ I h) ?_) ht
  rintro u s1 ⟨x, H1, I1, rx, ex, q⟩
  subst ex
  obtain rfl : u = Value.ref C := rx
  obtain ⟨rest, hp⟩ := c.rc
  refine PySem.W.method_cls I1.kIn r.ga (PySem.W.cls_bind I1.kIn r.rd c.at_ (wpAny_call (PySem.W.sm_get (s := { s1 with toks := s1.toks + 1 }) I1.kIn hp (PySem.W.handed_on c.hi ?_))))
  have I2 : Inv X pins σ H1 { s1 with toks := s1.toks + 1 } := I1.tok _
  refine PySem.W.callWith_K (first := []) (h₀ := X.base) I2.ok.mod.kin c.kp (thn (ha.run pos pins _ σ H1 _ I2 q) ?_) hst hpl
  rintro us s3 ⟨vs, H2, I3, rv, q2⟩
  exact ⟨I3.kIn, run_fn F hr hb .nil pass0 I3 rv (by rw [List.append_nil]; exact q2)⟩
end

/-! ### C(*y) -/
section
variable {X : Cx} {k : Nat} {f C : Addr} {sp : Sp} {x : Str} {e : Expr} {te : TE} {p sp_ pos : Pos}
def tMakeS (K : PySem.W.Frag) (C : Addr) (sp : Sp) (te : TE) : TE := fun σ H Q => te σ H fun y H1 => ∃ a xs, y = V.ref a ∧ (SqT K H1 a xs ∨ SqL K H1 a xs) ∧ ∀ x dx, H1 x = Option.none → H1 dx = Option.none → dx ≠ x →
  sp (V.ref x :: xs) (upd (upd H1 dx (.own x)) x (.ins C dx [])) (fun v H2 => v = .non ∧ Q (.ref x) H2) E0
theorem pe_makeS (M : Mk X.K C f) (F : FnR X.prog X.w X.K X.mg X.base CX0 k f sp) (hr : Room (k + 1) X.A) (hg : Gl X x) (hm : X.mg x = some (.ref C)) (he : PE X e te) (hd : (x == ("__debug__" : Str)) = false := by decide)
    (hst : starEach [.Starred e sp_] X.env = [(true, eval e X.env)] := by rfl) : PE X (.Call (.Name x p) [.Starred e sp_] [] pos) (tMakeS X.K C sp te) := by
  constructor
  intro pins s σ H Q I h
  refine wpAny_Call_Name_kw (ld_glob I hg hm ?_ hd)
  refine PySem.W.callWith_S (h₀ := X.base) I.ok.mod.kin M.kp (thn (he.run pins s σ H _ I h) ?_) hst
  rintro v s1 ⟨y, H1, I1, ry, a, xs, ey, hxs, q⟩
  subst ey
  obtain rfl : v = Value.ref a := ry
  exact StX.star_any I1 hxs fun us s2 I2 rv => ⟨I2.kIn, StX.run_makeR M F hr pass0 I2 rv q⟩
end

/-! ### program defs, called from anywhere -/
def HasO (P : Program) (w : World) (K : PySem.W.Frag) (mg : Str → Option Value) (base : Heap) (k : Nat) (x : Str) (ps : List Str) (sp : Sp) : Prop :=
  ∃ (f : Addr) (fd : FuncData), mg x = some (.ref f) ∧ PySem.W.keepIn K (.ref f) = true ∧ Binds K fd ps [] ∧ FnOk P w K mg base CX0 k f fd ps sp
section
variable {P : Program} {w : World} {K : PySem.W.Frag} {mg : Str → Option Value} {base : Heap} {k : Nat} {x : Str} {ps N : List Str} {sp : Sp} {st : Stmt}
theorem Df.hasO (D : Df K mg x st ps) (S : FnScope N ps (defScope st)) (len : ∀ vs H Q E, sp vs H Q E → vs.length = ps.length)
    (bd : ∀ (f : Addr) (cdv : Value) (A : Around) (outer : List Env) (s : Shared) (H : Hp) (vs : List V) (Q : VK) (E : XK), Room k (A.deeper (envOfC x (defScope st) s.heap.objs.size f cdv)) → sp vs H Q E →
      ∃ t, PSs (cxOf CX0 P w K mg base N x (defScope st) f cdv A outer s H E).nox (defBody st) t ∧ t { nx := fun _ H' => Q .non H', rt := Q } (start N vs) H) :
    HasO P w K mg base (k + 1) x ps sp := by
  obtain ⟨f, fd, F, m, b⟩ := D.ex
  exact ⟨f, fd, m, F.kp, b, F.ok S len (bd f)⟩
end
section
variable {X : Cx} {k : Nat} {ps : List Str} {sp : Sp} {x : Str} {p pos : Pos} {e : Expr} {es : List Expr} {t : TA}
theorem pe_hasO (h : HasO X.prog X.w X.K X.mg X.base k x ps sp) (hr : Room k X.A) (gx : Gl X x) (ha : PA X (e :: es) t) (hdb : (x == ("__debug__" : Str)) = false := by decide)
    (he : starEach (e :: es) X.env = (false, eval e X.env) :: starEach es X.env := by rfl) (hpl : (backTo pos (starEach es X.env)).any (·.1) = false := by rfl) :
    PE X (.Call (.Name x p) (e :: es) [] pos) (tCall sp [] E0 t) := by
  obtain ⟨f, fd, m, kp, b, F⟩ := h
  exact pe_call F hr gx m kp b .nil pass0 ha hdb he hpl
end
end Rk
set_option maxHeartbeats 4000000
namespace Rk
open PySem PySem.Spec PyProof.Rows L2
/-! an exception that was caught and is kept in a variable: tracked, with its class and its dict -/
def ExK (cls : Value) (d : Option Addr) (a : Addr) : HO := .ext fun h => ∃ (oe : Obj) (vs : Array Value), h.get? a = some oe ∧ Zc cls d oe ∧ oe.data = .fields vs
theorem exK_ok {P : Program} {w : World} {H : Hp} {h : Heap} {a : Addr} {cls : Value} {d : Option Addr} {oe : Obj} {vs : Array Value} (e : h.get? a = some oe) (z : Zc cls d oe) (dd : oe.data = .fields vs) : ObjOk P w H h a (ExK cls d a) :=
  ⟨⟨oe, vs, e, z, dd⟩, ⟨oe, e⟩, fun _ _ q k => by
    obtain ⟨o, v, q1, q2, q3⟩ := q
    exact ⟨o, v, k _ q1, q2, q3⟩⟩
theorem exK_at {P : Program} {w : World} {H : Hp} {h : Heap} {a : Addr} {cls : Value} {d : Option Addr} (hok : HOk P w H h) (e : H a = some (ExK cls d a)) : ∃ (oe : Obj) (vs : Array Value), h.get? a = some oe ∧ Zc cls d oe ∧ oe.data = .fields vs := by
  have z : ObjOk P w H h a (.ext fun h => ∃ (oe : Obj) (vs : Array Value), h.get? a = some oe ∧ Zc cls d oe ∧ oe.data = .fields vs) := hok a _ e
  exact z.1
section
variable {X : Cx} {pins : List (Addr × Obj)} {σ : L2.St} {H : Hp} {sI s' : Shared} {B : Heap}
/-- landed, and the exception's object tracked from now on -/
theorem landK {a : Addr} {o : HO} (I : Inv X pins σ H sI) (nb : ∀ b o, sI.heap.get? b = some o → b ∉ frs X.stack → B.get? b = some o) (st : B.StaysIn s'.heap) (up : sI.heap.UpToSlots s'.heap) (os : s'.os = sI.os) (ag : AllBare s'.gens)
    (hB : B.get? a = none) (hF : a ∉ frs X.stack) (hn : H a = none) (new : ObjOk X.prog X.w (upd H a o) s'.heap a o) : Inv X pins σ (upd H a o) s' := by
  have I2 := I.landed nb st up os ag
  have nI : sI.heap.get? a = none := by
    cases e : sI.heap.get? a with
    | none => rfl
    | some u =>
      have z := nb a u e hF
      rw [hB] at z
      cases z
  have ne : ∀ b u, sI.heap.get? b = some u → b ≠ a := fun b u e z => by rw [z, nI] at e; cases e
  have nf : ∀ b ∈ frs X.stack, ∀ u, sI.heap.get? b = some u → ∃ sl, s'.heap.get? b = some { u with slots := sl } := fun b hb u e => by
    obtain ⟨_, u', e', hd⟩ := I.stack.mem hb
    rw [e] at e'
    cases e'
    exact up b u e hd
  refine I.call' (ch := []) os ⟨fun b u e _ hb _ => st b u (nb b u e hb), fun b u e _ hb _ => nf b hb u e, fun b u e n _ => by rw [upd_ne (ne b u e)]; exact n, fun b u e _ => ?_, fun b xs e => by rw [upd_ne (ne_of_none e hn)]; exact e, fun b u xs e => by rw [upd_ne (ne_of_none e hn)]; exact e, fun b ps e => ⟨#[], by rw [upd_ne (ne_of_none e hn), e]; simp⟩⟩ (fun b u e => ?_) ag (fun _ z => nomatch z)
  · by_cases hb : b ∈ frs X.stack
    · obtain ⟨sl, q⟩ := nf b hb u e
      exact ⟨_, q⟩
    · exact ⟨u, st b u (nb b u e hb)⟩
  · by_cases hb : b = a
    · subst hb
      rw [upd_same] at e
      cases e
      exact new
    · rw [upd_ne hb] at e
      exact (I2.hok b u e).stay (fun _ _ _ q => q) (fun c q => by rw [upd_ne (ne_of_none q hn)]; exact q) fun c xs q => by rw [upd_ne (ne_of_none q hn)]; exact q
theorem inSuite {a : Addr} (I : Inv X pins σ H s') : Inv (X.suite a (X.pn ++ pins)) [] σ H s' :=
  ⟨I.ok.suite _ _, I.os, I.bare, I.base, I.loc, I.cell, I.free, I.freeC, fun p hp => I.pin p (by rw [List.append_nil] at hp; exact hp), I.hok, I.len⟩
theorem outSuite {a : Addr} {pn' : List (Addr × Obj)} (I : Inv (X.suite a (X.pn ++ pins)) pn' σ H s') (ok : X.Ok) : Inv X pins σ H s' :=
  ⟨ok, I.os, I.bare, I.base, I.loc, I.cell, I.free, I.freeC, fun p hp => I.pin p (List.mem_append_left _ hp), I.hok, I.len⟩
end
/-- what `except x as n: suite` wishes, the caught exception tracked in the suite and behind it: slot i is n's -/
def wKp (K : PySem.W.Frag) (c : Value) (i : Nat) (ts : TS) (Wout : WX) (D : Ends) : WX := fun cls d σ H =>
  ∃ b, PySem.W.exmOne K cls c = some b ∧ (b = true → ∀ a, H a = none → ts { nx := fun σ' H' => D.nx (σ'.set i none) H', rt := D.rt, bk := fun σ' H' => D.bk (σ'.set i none) H', ct := fun σ' H' => D.ct (σ'.set i none) H' } (σ.set i (some (.ref a))) (upd H a (ExK cls d a))) ∧
    (b = false → Wout cls d σ H)
section
variable {X : Cx} {x n : Str} {c : Value} {i : Nat} {body suite : List Stmt} {b₀ : Stmt} {np pos pos' : Pos} {tb : WX → TS} {ts : TS} {Wout : WX}
theorem ps_try_keep (hs : X.stack = X.env :: X.outer) (hf : X.env.frame = some X.env.locals) (hN : X.N.Nodup) (hi : X.N[i]? = some n) (hln : X.env.kindOf n = some .local) (hc : Names X x c) (tk : Takes X Wout)
    (hb : ∀ (W : WX) (pn : List (Addr × Obj)) (xe : Value → Shared → Prop), Takes (X.tr pn xe) W → PassesOwn (model X.prog X.w) X.A X.env xe → PSs (X.tr pn xe) body (tb W))
    (hsu : ∀ (a : Addr) (pn : List (Addr × Obj)), PSs (X.suite a pn) (b₀ :: suite) ts) :
    PS X (.Try body [.ExceptHandler (some (.Name x np)) (some n) (b₀ :: suite) pos'] [] [] pos) (fun D σ H => tb (wKp X.K c i ts Wout D) D σ H) := by
  refine ⟨fun pins s σ H D I h => ?_⟩
  have ok := I.ok
  have hfr : X.A.frames = some (X.env :: X.outer) := by rw [ok.frames, hs]
  have lo : Loc X.env.scope n := .inl hln
  refine wpAny_Try_except ?_
  refine wpAny_mono ((hb (wKp X.K c i ts Wout D) (X.pn ++ pins) (fun e s₁ => wpAny (model X.prog X.w) X.A (noteFrame e X.env) (fun _ s₂ => wpAny (model X.prog X.w) X.A (setFlight e none) (fun _ s₃ =>
    wpAny (model X.prog X.w) X.A (handleBy e X.env [.ExceptHandler (some (.Name x np)) (some n) (b₀ :: suite) pos']) (SP X pins D) X.xe s₃) X.xe s₂) X.xe s₁) (fun u s' xx => ?_) PassesOwn.looking).run [] s σ H D (I.toTry _) h) (fun f s1 hsp => ?_) (fun e s1 he => he)
  rotate_left
  · cases f with
    | next =>
      obtain ⟨σ', H', J, q⟩ := hsp
      exact wpAny_execs_nil ⟨σ', H', J.ofTry ok, q⟩
    | ret u =>
      obtain ⟨v, σ', H', J, r, q⟩ := hsp
      exact ⟨v, σ', H', J.ofTry ok, r, q⟩
    | brk =>
      obtain ⟨σ', H', J, q⟩ := hsp
      exact ⟨σ', H', J.ofTry ok, q⟩
    | cont =>
      obtain ⟨σ', H', J, q⟩ := hsp
      exact ⟨σ', H', J.ofTry ok, q⟩
  obtain ⟨a, B, sI, pins', σ', H', cls, d, rfl, J', nb, up, sky, na, os, ag, b, hb1, hyes, hno⟩ := xx
  have J : Inv X pins σ' H' sI := J'.ofTry ok
  have sky' : Sky B (X.env :: X.outer) a (Zc cls d) X.env.locals s'.heap := by rw [← hs]; exact sky
  show wpAny (model X.prog X.w) X.A (noteFrame (.ref a) X.env) _ _ _
  refine Sky.land Zc.steady hfr hf sky' fun h3 fl3 up3 => ?_
  obtain ⟨oe3, vs3, he3, hz3, hd3⟩ := fl3.there
  have nfr : a ∉ frs X.stack := fun hm => by
    rw [hs] at hm
    obtain ⟨_, o', e', hnf⟩ := fl3.2.2.1.mem hm
    rw [he3] at e'
    cases e'
    exact hnf _ hd3
  have K3 : Inv X pins σ' (upd H' a (ExK cls d a)) { s' with heap := h3 } := landK J nb fl3.1 (up.trans up3) os ag fl3.2.1 nfr na (exK_ok he3 hz3 hd3)
  have S3 := inSuite (a := a) K3
  refine wpAny_handleBy_cons (codeAny_handlers_test ?_) (by intro q; cases q)
  have LT : PySem.W.Looks (model X.prog X.w) h3 (typeOf (.ref a)) cls := fun A Q E s k q => wpAny_typeOf_ref (k _ _ he3) (by rw [hz3.1]; exact q)
  have LM := PySem.W.exm_one (M := model X.prog X.w) (K3.kIn) LT hb1
  have test : ∀ {Q : Value → Shared → Prop} {E : Value → Shared → Prop}, Q c { s' with heap := h3 } → wpAny (model X.prog X.w) (X.A.mark (some (.ref a))) (eval (.Name x np) X.env) Q E { s' with heap := h3 } := fun {Q E} q => by
    obtain ⟨hg, hdbg, hm | ⟨hm, hv, hnn⟩⟩ := hc
    · exact ld_glob (X := X.suite a (X.pn ++ pins)) S3 hg hm q hdbg
    · exact ld_blt (X := X.suite a (X.pn ++ pins)) S3 hg hm hv q hnn hdbg
  refine test (LM.here ?_)
  cases b with
  | true =>
    refine codeAny_handlers_suite_as ?_
    refine HandSPX.lands_againZ fl3 fun h4 fl4 up4 => ?_
    obtain ⟨oe4, vs4, he4, hz4, hd4⟩ := fl4.there
    have K4 : Inv X pins σ' (upd H' a (ExK cls d a)) { s' with heap := h4 } := landK J nb fl4.1 ((up.trans up3).trans up4) os ag fl4.2.1 nfr na (exK_ok he4 hz4 hd4)
    refine store_ok (X := X.suite a (X.pn ++ pins)) (v := .ref a) (inSuite (a := a) K4) hN hi lo rfl (fun s5 S5 => ?_) (.inr hln)
    refine wpAny_mono ((hsu a (X.pn ++ pins)).run [] s5 _ _ _ S5 (hyes rfl a na)) (fun f s6 hsp => ?_) (fun _ _ z => False.elim z)
    have gone : ∀ {σ6 : L2.St} {H6 : Hp} {Q : Shared → Prop}, Inv (X.suite a (X.pn ++ pins)) [] σ6 H6 s6 → (∀ s7, Inv X pins (σ6.set i none) H6 s7 → Q s7) →
        wpAny (model X.prog X.w) X.A (do bindName X.env n .none; unbindBehindTheSuite X.env n pos') (fun _ s7 => Q s7) X.xe s6 := fun {σ6 H6 Q} S6 hq => gone_ok (outSuite S6 ok) hN hi hln hq
    cases f with
    | next =>
      obtain ⟨σ6, H6, S6, q6⟩ := hsp
      exact gone S6 fun s7 J7 => ⟨_, _, J7, q6⟩
    | brk =>
      obtain ⟨σ6, H6, S6, q6⟩ := hsp
      exact gone S6 fun s7 J7 => ⟨_, _, J7, q6⟩
    | cont =>
      obtain ⟨σ6, H6, S6, q6⟩ := hsp
      exact gone S6 fun s7 J7 => ⟨_, _, J7, q6⟩
    | ret u =>
      obtain ⟨v6, σ6, H6, S6, r6, q6⟩ := hsp
      exact gone S6 fun s7 J7 => ⟨_, _, _, J7, r6, q6⟩
  | false =>
    show wpAny _ X.A (handleBy (.ref a) X.env []) _ _ _
    refine wpAny_handleBy_nil ?_
    obtain ⟨_, _, _, oe, vs, T, oT, ts', he, hz, hd, h1, hr⟩ := id fl3
    unfold PySem.passOn
    refine wpAny_bind (wpAny_field he hd h1 ?_)
    rw [if_neg (show ¬ ((Value.ref T == Value.none) = true) from by simp)]
    have fin : wpAny (model X.prog X.w) X.A (setFlight (.ref a) X.env.frame) (fun _ s4 => wpAny (model X.prog X.w) X.A (throw (.ref a) : Sem Flow) (SP X pins D) X.xe s4) X.xe { s' with heap := h3 } := by
      rw [hf]
      refine HandSPX.setFlight_upZ fl3 fun h4 hh4 up4 => wpAny_throw (tk _ _ ?_)
      exact ⟨a, B, sI, pins, σ', H', cls, d, rfl, J, nb, (up.trans up3).trans up4, .inr (.inr (by rw [hs]; exact hh4)), na, os, ag, hno rfl⟩
    first
      | exact wpAny_bind (wpAny_pure (wpAny_bind fin))
      | exact wpAny_bind fin
end
end Rk
set_option maxHeartbeats 4000000
namespace Rk
open PySem PySem.Spec PyProof.Rows L2
/-! isinstance and a field of an exception that was kept; the base's own __init__ read off a class of ours -/
section
variable {prog : Program} {w : World} {A : Around} {E : Value → Shared → Prop} {s : Shared} {K : PySem.W.Frag} {x D : Addr} {ox : Obj} {od : Option Obj}
theorem cls_ofE (C : ExcC K D) {Q : Option Value → Shared → Prop} (X : K.In s.heap) (I : PySem.W.InstAt s.heap x ox D od) (h : Q (some (.ref D)) { s with toks := s.toks + 1 }) : wpAny (model prog w) A (getAttr? (.ref x) "__class__") Q E s := by
  have hf : PySem.W.findObj K D od "__class__" = some (.bind (.builtin "getset_descriptor.__get__") (.builtin "object.__class__")) := by
    obtain ⟨cd, hc, _⟩ := PySem.W.any_some C.hd
    unfold PySem.W.findObj
    rw [hc, Option.bind_some, C.ha, Option.bind_some]
    simp [C.hn, C.ht]
  obtain ⟨hp, g, d, t, os⟩ := s
  have L0 := I.type (M := model prog w)
  have L1 := PySem.W.looks_findIn (M := model prog w) X C.hg
  have L2' := PySem.W.looks_findIn (M := model prog w) X C.hk
  have L3 := PySem.W.looks_find (M := model prog w) X I hf
  have sub : PySem.W.Looks (model prog w) hp (isInstance (.ref x) (.type "BaseException")) true := L0.andThen (PySem.W.looks_subIn X C.hs)
  have n2 : (Value.builtin "BaseException.__getattribute__" == Value.builtin "object.__getattribute__") = false := by decide +kernel
  have n1 : (onTheHeap (Value.ref D) && Value.builtin "BaseException.__getattribute__" == Value.builtin "object.__getattribute__") = false := by rw [n2]; rfl
  have n0 : (false && onTheHeap (Value.builtin "BaseException.__getattribute__")) = false := rfl
  unfold getAttr? getAttrBy? getAttrBy
  refine wpAny_bind (wpAny_mkText (wpAny_bind (wpAny_attempt (wpAny_holding (wpAny_bind (L0.at (wpAny_bind (L1.at ?_))))))))
  show wpAny _ _ (if (onTheHeap (Value.ref D) && Value.builtin "BaseException.__getattribute__" == Value.builtin "object.__getattribute__") = true then _ else _) _ _ _
  rw [n1, if_neg Bool.false_ne_true]
  unfold getAttrByItsOwn hookBefore
  refine wpAny_bind ?_
  rw [if_pos (show onTheHeap (Value.ref D) = true from rfl)]
  refine L2'.at ?_
  refine wpAny_bind (wpAny_attempt (wpAny_holding ?_))
  unfold callGetattribute
  rw [n0, if_neg Bool.false_ne_true]
  unfold boundAndCalled
  rw [PySem.F.excAttr_ValueError.ga.bind (.ref x)]
  refine wpAny_bind (wpAny_pure ?_)
  show wpAny _ _ (call (.builtin "BaseException.__getattribute__") [.ref x, .str "__class__" t]) _ _ _
  refine wpAny_call (codeAny_call_builtin PySem.F.excAttr_ValueError.ga.plain PySem.F.entry_bexc_ga ?_)
  refine @PySem.W.check_slot (model prog w) _ _ ⟨hp, g, d, t + 1, os⟩ "BaseException.__getattribute__" "BaseException" "__getattribute__" (.ref x) [.str "__class__" t] [] _ (by decide +kernel) (by decide +kernel) sub (PySem.F.args_bexc_ga (.ref x) (.str "__class__" t)) ?_
  unfold Builtin.«object.__getattribute__»
  refine wpAny_bind (wpAny_of_eq (a := ((Value.ref x : Value), [Value.str "__class__" t])) (by first | rfl | (simp only [slotArgs]; rfl)) ?_)
  refine wpAny_bind (wpAny_pure (wpAny_bind (L0.at (wpAny_bind (L3.at ?_)))))
  show wpAny _ _ (holding [Value.builtin "object.__class__"] (call (.builtin "getset_descriptor.__get__") [.builtin "object.__class__", .ref x, .ref D]) >>= ret) _ _ _
  refine wpAny_bind (wpAny_holding (wpAny_call (PySem.W.class_get (s := ⟨hp, g, d, t + 1, os⟩) (ox := ox) (od := od) X I C.hm ?_)))
  refine wpAny_pure ?_
  show wpAny _ _ (handedOut (.ref D)) _ _ _
  rw [PySem.W.handedOut_of (v := .ref D) rfl]
  first
    | exact wpAny_pure (wpAny_pure h)
    | exact wpAny_pure h
    | exact wpAny_pure (wpAny_bind (wpAny_pure (wpAny_pure h)))
theorem kitxE (C : ExcC K D) : PySem.W.KitX K (.ref x) (.ref D) (fun h => PySem.W.InstAt h x ox D od) where
  ty := fun _ _ _ I => I.type
  it := fun _ _ X _ => by
    obtain ⟨cd, hcd, _⟩ := PySem.W.any_some C.hd
    unfold PySem.W.clsIn at hcd
    split at hcd
    · rename_i c' d' cd' sl' ho
      intro A' Q' E' s' k q
      unfold isType loadHead
      exact wpAny_bind (wpAny_loadPart (k _ _ (X _ _ ho)) (wpAny_pure q))
    · cases hcd
  ne := fun h tp dd its n sl X htp => by
    obtain ⟨cd, hcd, _⟩ := PySem.W.any_some C.hd
    refine Bool.eq_false_iff.mpr fun q => ?_
    have e : D = tp := Value.ref.inj (beq_iff_eq.mp q)
    subst e
    unfold PySem.W.clsIn at hcd
    split at hcd
    · rename_i c' d' cd' sl' ho
      have z := (X _ _ ho).symm.trans htp
      cases z
    · cases hcd
  ca := fun X I k => cls_ofE C X I k
end
/-- the object of a kept exception with a dict of fields -/
theorem keptE {X : Cx} {pins : List (Addr × Obj)} {σ : L2.St} {H : Hp} {s : Shared} {a D dd : Addr} {fs : List (Str × V)} (I : Inv X pins σ H s) (e : H a = some (ExK (.ref D) (some dd) a)) (ed : H dd = some (.xd fs)) :
    ∃ ox od mA, PySem.W.InstAt s.heap a ox D (some od) ∧ s.heap.get? dd = some od ∧ s.heap.Ns1 dd mA ∧ ∀ f, RelO (fs.lookup f) (mA f) := by
  obtain ⟨oe, vs, ho, hz, hd⟩ := exK_at I.hok e
  have hx : ObjOk X.prog X.w H s.heap dd (.xd fs) := I.hok dd _ ed
  obtain ⟨mA, hns, hr⟩ := hx
  obtain ⟨od, es, ep, hod, r⟩ := id hns
  exact ⟨oe, od, mA, ⟨ho, hz.1, by unfold PySem.W.notCls; rw [hd] <;> rfl, by rw [hz.2]; exact hod⟩, hod, hns, hr⟩
/-- isinstance(e, c), e a kept exception -/
def rIsK (K : PySem.W.Frag) : List V → Hp → VK → Prop := fun xs H Q => ∃ (a D dd : Addr) (fs : List (Str × V)) (c : V) (cv : Value) (b : Bool), xs = [.ref a, c] ∧ H a = some (ExK (.ref D) (some dd) a) ∧ H dd = some (.xd fs) ∧ ExcC K D ∧ (∀ u, RelV c u → u = cv) ∧ PySem.W.kitOne K (.ref D) cv = some b ∧ Q (.bl b) H
theorem call_isK {X : Cx} : CallR X (.builtin "isinstance") (rIsK X.K) := by
  intro pins s σ H xs us Q I r h
  obtain ⟨a, D, dd, fs, c, cv, b, ex, ha, hdd, C, hcv, e, q⟩ := h
  subst ex
  cases r with
  | cons rx rr =>
    cases rr with
    | cons rt rr =>
      cases rr
      cases rx
      have ec := hcv _ rt
      subst ec
      obtain ⟨ox, od, mA, J, _⟩ := keptE I ha hdd
      exact PySem.W.kia_one (kitxE C) I.kIn J e (fun z => nomatch z) fun tk => ⟨.bl b, H, I.kept (t' := tk) fun _ _ z => z, rfl, q⟩
theorem callR_or {X : Cx} {f : Value} {R1 R2 : List V → Hp → VK → Prop} (h1 : CallR X f R1) (h2 : CallR X f R2) : CallR X f (fun xs H Q => R1 xs H Q ∨ R2 xs H Q) := by
  intro pins s σ H xs us Q I r h
  rcases h with h | h
  · exact h1 pins s σ H xs us Q I r h
  · exact h2 pins s σ H xs us Q I r h
/-- e.f, e a kept exception -/
def tXk (K : PySem.W.Frag) (f : Str) (te : TE) : TE := fun σ H Q => te σ H fun x H1 => ∃ (a D dd : Addr) (fs : List (Str × V)) (v : V), x = .ref a ∧ H1 a = some (ExK (.ref D) (some dd) a) ∧ XfC K D ∧ PySem.W.findIn K (.ref D) f = some none ∧ H1 dd = some (.xd fs) ∧ fs.lookup f = some v ∧ Q v H1
theorem pe_xk {X : Cx} {e : Expr} {te : TE} {n : Str} {pos : Pos} (he : PE X e te) (hb : attributeBase e n X.env (eval e X.env) = eval e X.env := by rfl) : PE X (.Attribute e n pos) (tXk X.K n te) := by
  refine ⟨fun pins s σ H Q I h => ?_⟩
  refine attr_of hb (thn (he.run pins s σ H _ I h) fun u s1 hh => ?_)
  obtain ⟨x, H1, I1, rx, a, D, dd, fs, v, ex, ea, T, hno, ed, l, q⟩ := hh
  subst ex
  obtain rfl : u = Value.ref a := rx
  obtain ⟨ox, od, mA, J, hod, hns, hr⟩ := keptE I1 ea ed
  obtain ⟨od2, ho2, hl⟩ := lookIn_ns hns
  obtain rfl : od2 = od := Option.some.inj (ho2.symm.trans hod)
  obtain ⟨u, hu, ru⟩ := RelO.some_of (v := v) (o := mA n) (by rw [← l]; exact hr n)
  exact HandSPX.exc_get I1.kIn J T.ga T.gg T.exC (PySem.W.findObj_own T.hdC hno rfl (by rw [hl, hu])) (handed_of ru) ⟨v, H1, I1.tok _, ru, q⟩
/-- KeepError.__init__(self, ..): the base's own, read off a class of ours -/
theorem pe_kinit {X : Cx} {C : Addr} {mc : Value} {o e : Expr} {es : List Expr} {to : TE} {ta : TA} {p2 pos : Pos} {pl : Sem Bool} (ho : PE X o to) (r : ClX.CRead X.K C mc) (vV : PySem.W.findCls X.K (.ref C) mc "__init__" = some (.val (.builtin "ValueError.__init__"))) (ha : PA X (e :: es) ta)
    (hc : eval (.Call (.Attribute o "__init__" p2) (e :: es) [] pos) X.env = (do
      let ov ← eval o X.env
      standAt p2.atName
      let (f, first) ← holding [ov] (getMethod ov "__init__" pl)
      callWith pos f first (backTo pos (starEach (e :: es) X.env)) (backToKw pos (keywordEach [] X.env))) := by rfl)
    (he : starEach (e :: es) X.env = (false, eval e X.env) :: starEach es X.env := by rfl) (hpl : (backTo pos (starEach es X.env)).any (·.1) = false := by rfl) :
    PE X (.Call (.Attribute o "__init__" p2) (e :: es) [] pos) (fun σ H Q => to σ H fun x H1 => x = .ref C ∧ tVeI X.K ta σ H1 Q) := by
  refine ⟨fun pins s σ H Q I h => ?_⟩
  refine PySem.W.methodCall_KW (pl := pl) (thn (ho.run pins s σ H _ I h) ?_) hc
  rintro u s1 ⟨x, H1, I1, rx, ex, q⟩
  subst ex
  obtain rfl : u = Value.ref C := rx
  refine PySem.W.method_cls I1.kIn r.ga (PySem.W.cls_value I1.kIn r.rd vV rfl ?_)
  show wpAny _ _ (callWith pos (Value.builtin "ValueError.__init__") [] (backTo pos (starEach (e :: es) X.env)) []) _ _ _
  refine PyProof.Rows.callWith_method1 (thn (ha.run pos pins _ σ H1 _ (I1.tok _) q) fun us s2 ⟨vs, H2, I2, r1, a, D, ws, ev, hl, T, ea, q2⟩ => ?_) he hpl
  subst ev
  cases r1 with
  | @cons _ u0 _ ur ra rw' =>
    obtain rfl : u0 = Value.ref a := ra
    have hlen : ur.length ≤ sizeLine := by
      rw [← Paired.length rw', sizeLine_eq]
      omega
    exact oinit_ok T I2 ea hlen fun s' J => ⟨.non, H2, J, rfl, q2⟩
end Rk
set_option maxHeartbeats 4000000
namespace Rk
open PySem PySem.Spec PyProof.Rows L2
/-! own errors with one field "value", made by an __init__ that calls the base's -/
/-- what the text's top has made of the base class of our errors -/
structure KeepT (K : PySem.W.Frag) (mg : Str → Option Value) (CK : Addr) (mcK : Value) : Prop where
  m : mg "KeepError" = some (.ref CK)
  rd : ClX.CRead K CK mcK
  ini : PySem.W.findCls K (.ref CK) mcK "__init__" = some (.val (.builtin "ValueError.__init__"))
/-- .. of an error's class at CB, its __init__ at fB -/
structure BadT (K : PySem.W.Frag) (CB fB : Addr) : Prop where
  oex : OexC K CB
  nv : PySem.W.findIn K (.ref CB) "value" = some none
  ini : PySem.W.findIn K (.ref CB) "__init__" = some (some (.ref fB))
  ty : PySem.W.typeIn K (.ref fB) = some (.type "function")
  exc : ExcC K CB
  xf : XfC K CB
def spBad (CB : Addr) : Sp := fun vs H Q _ => ∃ (a : Addr) (v : V), vs = [.ref a, v] ∧ H a = some (exo a CB none) ∧ ∀ d, H d = none → d ≠ a → Q .non (upd (upd H d (exd d [("value", v)])) a (exo a CB (some d)))
/-- BadX(v): for every new dict the way out -/
theorem mkBad {CB : Addr} {v : V} {H : Hp} {Q : XK} (k : ∀ d, H d = none → Q (.ref CB) (some d) (upd H d (.xd [("value", v)]))) : [v].length ≤ 1000 ∧ ∀ a, H a = none → spBad CB (.ref a :: ([v] ++ [])) (upd H a (exo a CB none))
    (fun u H2 => u = .non ∧ ∃ (d : Addr) (fs : List (Str × V)), H2 a = some (exo a CB (some d)) ∧ H2 d = some (exd d fs) ∧ H d = none ∧ Q (.ref CB) (some d) (upd (L2.del H2 a) d (.xd fs))) (fun _ _ _ => False) := by
  refine ⟨by show 1 ≤ 1000; decide, fun a ha => ⟨a, v, rfl, upd_same, fun d hd hda => ⟨rfl, d, [("value", v)], upd_same, ?_, ?_, ?_⟩⟩⟩
  · rw [upd_ne hda, upd_same]
  · rw [upd_ne hda] at hd
    exact hd
  · have hd0 : H d = none := by
      rw [upd_ne hda] at hd
      exact hd
    have e : upd (L2.del (upd (upd (upd H a (exo a CB none)) d (exd d [("value", v)])) a (exo a CB (some d))) a) d (.xd [("value", v)]) = upd H d (.xd [("value", v)]) := by
      funext b
      by_cases hb : b = d
      · rw [hb, upd_same, upd_same]
      · rw [upd_ne hb, upd_ne hb]
        by_cases hba : b = a
        · rw [hba, L2.del_same, ha]
        · rw [L2.del_ne hba, upd_ne hba, upd_ne hb, upd_ne hba]
    rw [e]
    exact k d hd0
/-- a def that may let an error out -/
def HasX (P : Program) (w : World) (K : PySem.W.Frag) (mg : Str → Option Value) (base : Heap) (k : Nat) (x : Str) (ps : List Str) (sp : Sp) : Prop :=
  ∃ (f : Addr) (fd : FuncData), mg x = some (.ref f) ∧ PySem.W.keepIn K (.ref f) = true ∧ Binds K fd ps [] ∧ FnOk P w K mg base (L2.CX P w) k f fd ps sp
section
variable {X : Cx} {k : Nat} {ps : List Str} {sp : Sp} {x : Str} {p pos : Pos} {e : Expr} {es : List Expr} {t : TA} {W : WX}
/-- its call where W takes what it lets out -/
theorem pe_hasX (h : HasX X.prog X.w X.K X.mg X.base k x ps sp) (hr : Room k X.A) (gx : Gl X x) (tk : Takes X W) (ha : PA X (e :: es) t) (hdb : (x == ("__debug__" : Str)) = false := by decide)
    (he : starEach (e :: es) X.env = (false, eval e X.env) :: starEach es X.env := by rfl) (hpl : (backTo pos (starEach es X.env)).any (·.1) = false := by rfl) :
    PE X (.Call (.Name x p) (e :: es) [] pos) (tCallS sp (WE W) t) := by
  obtain ⟨f, fd, m, kp, b, F⟩ := h
  exact pe_callS F hr gx m kp b (fun σ => passAt tk σ) ha hdb he hpl
end
section
variable {P : Program} {w : World} {K : PySem.W.Frag} {mg : Str → Option Value} {base : Heap} {k : Nat} {x : Str} {ps N : List Str} {sp : Sp} {st : Stmt}
theorem Df.hasX (D : Df K mg x st ps) (S : FnScope N ps (defScope st)) (len : ∀ vs H Q E, sp vs H Q E → vs.length = ps.length)
    (bd : ∀ (f : Addr) (cdv : Value) (A : Around) (outer : List Env) (s : Shared) (H : Hp) (vs : List V) (Q : VK) (E : XK), Room k (A.deeper (envOfC x (defScope st) s.heap.objs.size f cdv)) → sp vs H Q E →
      ∃ t, PSs (cxOf (L2.CX P w) P w K mg base N x (defScope st) f cdv A outer s H E) (defBody st) t ∧ t { nx := fun _ H' => Q .non H', rt := Q } (start N vs) H) :
    HasX P w K mg base (k + 1) x ps sp := by
  obtain ⟨f, fd, F, m, b⟩ := D.ex
  exact ⟨f, fd, m, F.kp, b, F.okX S len (fun cdv A outer s H vs Q E hr h => bd f cdv A outer s H vs Q E hr h)⟩
end
/-- an error of the class at D, which stands under S, is what «except S» names -/
theorem exm_of {K : PySem.W.Frag} {D S : Addr} (b : PySem.W.subIn K (.ref S) (.type "BaseException") = some true) (c : PySem.W.isClsIn K S = true) (t : PySem.W.typeIn K (.ref S) = some (.type "type")) (u : PySem.W.subIn K (.ref D) (.ref S) = some true) :
    PySem.W.exmOne K (.ref D) (.ref S) = some true := by
  have z1 : (PySem.W.subIn K (.ref S) (.type "BaseException") == some true) = true := by rw [b]; rfl
  have z2 : ((PySem.W.clsIn K S).isSome && PySem.W.typeIn K (.ref S) == some (.type "type")) = true := by
    have c' : (PySem.W.clsIn K S).isSome = true := c
    rw [c', t]
    rfl
  refine (if_pos z1).trans ?_
  refine (if_pos z2).trans ?_
  exact u
end Rk
namespace Rk
open PySem PySem.Spec PyProof.Rows L2

/-! ### lives as data -/
def lv : Option Int → V
  | none => .non
  | some i => .int i
theorem lv_inj {x y : Option Int} (h : lv x = lv y) : x = y := by
  cases x <;> cases y <;> simp_all [lv]
def leO : Option Int → Option Int → Bool
  | _, none => true
  | none, some _ => false
  | some a, some b => decide (a ≤ b)
/-- without the last ones that repeat -/
def cutN (ls : List (Option Int)) : Nat → Nat
  | 0 => 0
  | 1 => 1
  | n + 2 => if ls[n + 1]? = ls[n]? then cutN ls (n + 1) else n + 2
def short (ls : List (Option Int)) : List (Option Int) := ls.take (cutN ls ls.length)
theorem cutN_le (ls : List (Option Int)) : ∀ n, cutN ls n ≤ n
  | 0 => Nat.le_refl _
  | 1 => Nat.le_refl _
  | n + 2 => by
    unfold cutN
    split
    · exact Nat.le_succ_of_le (cutN_le ls (n + 1))
    · exact Nat.le_refl _
theorem cutN_pos (ls : List (Option Int)) : ∀ n, 0 < n → 0 < cutN ls n
  | 0, h => h
  | 1, _ => Nat.one_pos
  | n + 2, _ => by
    unfold cutN
    split
    · exact cutN_pos ls (n + 1) (by omega)
    · omega
theorem cutN_eq {ls : List (Option Int)} {n : Nat} (h : ls[n + 1]? = ls[n]?) : cutN ls (n + 2) = cutN ls (n + 1) := by
  conv => lhs; unfold cutN
  rw [if_pos h]
theorem cutN_ne {ls : List (Option Int)} {n : Nat} (h : ¬ ls[n + 1]? = ls[n]?) : cutN ls (n + 2) = n + 2 := by
  conv => lhs; unfold cutN
  rw [if_neg h]
/-- the least rank from j on whose life is old enough -/
def due : Nat → List (Option Int) → Int → Option Int
  | _, [], _ => none
  | j, l :: r, a => if leO (some (a + 2 ^ j)) l = true then some (2 ^ j - 1) else due (j + 1) r a
theorem due_snoc {a : Int} {l : Option Int} : ∀ (xs : List (Option Int)) (j : Nat), xs.getLast? = some l → due j (xs ++ [l]) a = due j xs a
  | [], _, h => by simp at h
  | [x], j, h => by
    have e : x = l := by simpa using h
    subst e
    show (if leO (some (a + 2 ^ j)) x = true then some (2 ^ j - 1) else due (j + 1) [x] a) = (if leO (some (a + 2 ^ j)) x = true then some (2 ^ j - 1) else due (j + 1) [] a)
    by_cases h : leO (some (a + 2 ^ j)) x = true
    · rw [if_pos h, if_pos h]
    · rw [if_neg h, if_neg h]
      show (if leO (some (a + 2 ^ (j + 1))) x = true then some (2 ^ (j + 1) - 1) else none) = none
      rw [if_neg]
      cases x with
      | none => exact absurd rfl h
      | some i =>
        have h1 : ¬ a + 2 ^ j ≤ i := fun z => h (decide_eq_true z)
        have h2 : (0 : Int) < 2 ^ j := Int.pow_pos (by decide)
        intro z
        have z' : a + 2 ^ (j + 1) ≤ i := of_decide_eq_true z
        rw [Int.pow_succ] at z'
        omega
  | x :: y :: r, j, h => by
    have h' : (y :: r).getLast? = some l := by simpa [List.getLast?_cons_cons] using h
    have ih := due_snoc (a := a) (y :: r) (j + 1) h'
    show (if leO (some (a + 2 ^ j)) x = true then some (2 ^ j - 1) else due (j + 1) ((y :: r) ++ [l]) a) = (if leO (some (a + 2 ^ j)) x = true then some (2 ^ j - 1) else due (j + 1) (y :: r) a)
    rw [ih]
theorem due_take {ls : List (Option Int)} {a : Int} : ∀ n, n ≤ ls.length → due 0 (ls.take (cutN ls n)) a = due 0 (ls.take n) a
  | 0, _ => rfl
  | 1, _ => rfl
  | n + 2, hn => by
    by_cases h : ls[n + 1]? = ls[n]?
    · rw [cutN_eq h, due_take (n + 1) (by omega)]
      have h1 : n + 1 < ls.length := by omega
      have e : ls.take (n + 2) = ls.take (n + 1) ++ [ls[n + 1]] := (List.take_append_getElem h1).symm
      rw [e]
      symm
      apply due_snoc
      rw [List.getLast?_eq_getElem?, List.length_take, Nat.min_eq_left (by omega)]
      show (ls.take (n + 1))[n]? = some ls[n + 1]
      rw [List.getElem?_take_of_lt (by omega), ← h, List.getElem?_eq_getElem h1]
    · rw [cutN_ne h]
theorem due_short (ls : List (Option Int)) (a : Int) : due 0 (short ls) a = due 0 ls a := by
  unfold short
  rw [due_take _ (Nat.le_refl _), List.take_length]
/-- what lives are: from 0 to 10 ** 18, none less than the one ahead, the last one perhaps None -/
structure Good (ls : List (Option Int)) : Prop where
  pos : 0 < ls.length
  most : ls.length ≤ 61
  init : ∃ (is : List Int) (l : Option Int), ls = is.map some ++ [l] ∧ (∀ i ∈ is, 0 ≤ i ∧ i ≤ 10 ^ 18) ∧ (∀ i, l = some i → 0 ≤ i ∧ i ≤ 10 ^ 18)
  asc : ∀ (i : Nat) (x y : Option Int), ls[i]? = some x → ls[i + 1]? = some y → leO x y = true

/-! ### slices of tuples, whole or not -/
def rSlB (K : PySem.W.Frag) : V → Option Int → Option Int → Hp → VK → Prop := fun x lo hi H Q => ∃ a xs, x = .ref a ∧ SqT K H a xs ∧
  ∀ r H', (r = a ∧ H' = H ∧ cutV xs lo hi = xs) ∨ (H r = none ∧ H' = upd H r (.tup (cutV xs lo hi))) → Q (.ref r) H'
section
variable {X : Cx}
theorem sl_tupB : SlR X (rSlB X.K) := by
  intro pins s σ H x v vl vu lo hi sl Q I rx hs pl pu h
  obtain ⟨a, xs, e, hx, q⟩ := h
  refine sl_tupA pins s σ H x v vl vu lo hi sl Q I rx hs pl pu ⟨a, xs, e, hx, fun w => q a H (Or.inl ⟨rfl, rfl, ?_⟩), fun w p hp => q p _ (Or.inr ⟨hp, rfl⟩)⟩
  unfold cutV
  rw [w.1, w.2]
  simp
end
theorem rSlB_same {H H' : Hp} {a r : Addr} {xs : List V} {lo hi : Option Int} (h : (r = a ∧ H' = H ∧ cutV xs lo hi = xs) ∨ (H r = none ∧ H' = upd H r (.tup (cutV xs lo hi)))) : Same H H' := by
  rcases h with ⟨_, e, _⟩ | ⟨n, e⟩
  · rw [e]
    exact Same.refl _
  · rw [e]
    intro b u z
    rw [upd_ne (ne_of_none z n)]
    exact z
theorem rSlB_at {K : PySem.W.Frag} {H H' : Hp} {a r : Addr} {xs : List V} {lo hi : Option Int} (hx : SqT K H a xs) (h : (r = a ∧ H' = H ∧ cutV xs lo hi = xs) ∨ (H r = none ∧ H' = upd H r (.tup (cutV xs lo hi)))) : SqT K H' r (cutV xs lo hi) := by
  rcases h with ⟨e1, e, ec⟩ | ⟨n, e⟩
  · rw [e, e1, ec]
    exact hx
  · rw [e]
    exact SqT.of upd_same
theorem cut_init (xs : List V) (v : V) : cutV (xs ++ [v]) none (some (-1)) = xs := by
  have h : HT.sIx (xs ++ [v]).length (xs ++ [v]).length (some (-1)) = xs.length := by
    rw [List.length_append, List.length_singleton]
    unfold HT.sIx
    simp
    omega
  have h0 : HT.sIx (xs ++ [v]).length 0 none = 0 := by
    unfold HT.sIx
    simp
  unfold cutV
  rw [h, h0]
  simp
theorem cut_take (xs : List V) (n : Nat) (h : n ≤ xs.length) : cutV xs none (some (n : Int)) = xs.take n := by
  have h0 : HT.sIx xs.length 0 none = 0 := by
    unfold HT.sIx
    simp
  have h1 : HT.sIx xs.length xs.length (some (n : Int)) = n := by
    rw [HT.sIx_nat]
    omega
  unfold cutV
  rw [h1, h0]
  simp
theorem cut_drop (xs : List V) : cutV xs (some 1) none = xs.drop 1 := by
  have h0 : HT.sIx xs.length xs.length none = xs.length := by
    unfold HT.sIx
    simp
  have h1 : HT.sIx xs.length 0 (some 1) = min 1 xs.length := HT.sIx_nat _ _ 1
  unfold cutV
  rw [h1, h0]
  cases xs with
  | nil => rfl
  | cons x r =>
    have e : min 1 (x :: r).length = 1 := by rw [List.length_cons]; omega
    rw [e]
    simp
end Rk
namespace Rk
open PySem PySem.Spec PyProof.Rows L2
open Sem (wp)
open AutoSeq1 (wpAny_loadPart')

theorem meets_enum1 {v : Value} {o : Obj} {H : Heap → Prop} (B : Begins v o H) :
    Meets (Builtin.«enumerate.__new__» ⟨[.type "enumerate", v], []⟩) (fun _ R s => H s.heap ∧ R (.ok (.ret (.ref (s.heap.push o).objs.size)))
      { s with heap := (s.heap.push o).push { cls := .type "enumerate", data := .fields #[.none, .bool false, .ref s.heap.objs.size, rawInt 0, .none, .none] } }) :=
  .of_wp fun prog w A R s h => by
    obtain ⟨hp, g, d, tk, os⟩ := s
    obtain ⟨hl, h⟩ := h
    have hsub := sub_enumerate
    have hi : ∀ {A2 : Around} {E2 : Value → Shared → Prop} {R2 : Value → Shared → Prop}, R2 (.ref hp.objs.size) ⟨hp.push o, g, d, tk, os⟩ →
        wpAny (model prog w) A2 (pyIter v) R2 E2 ⟨hp, g, d, tk, os⟩ := by
      intro A2 E2 R2 z
      exact B.iter prog w A2 E2 ⟨hp, g, d, tk, os⟩ R2 hl z
    wp_walk
    refine wpAny_stack_any fun st => wpAny_pure ?_
    split
    · rename_i c _ _ _ _ _
      cases (c == Value.type "enumerate")
      · wp_walk using hi
        exact ⟨_, rfl, h⟩
      · wp_walk using hi
        exact ⟨_, rfl, h⟩
    · wp_walk using hi
      exact ⟨_, rfl, h⟩
section
variable {prog : Program} {w : World} {A : Around} {E : Value → Shared → Prop} {s : Shared}
theorem enum_tup {a : Addr} {items : Array Value} {Q : Value → Shared → Prop} (hT : s.heap.IsTuple a items)
    (h : ∀ h', IsEnum h' (s.heap.objs.size + 1) s.heap.objs.size 0 .none → h'.IsTupleIter s.heap.objs.size a 0 → h'.objs.size = s.heap.objs.size + 2 →
      (∀ b o, s.heap.get? b = some o → h'.get? b = some o) → Q (.ref (s.heap.objs.size + 1)) { s with heap := h' }) : wpAny (model prog w) A (call (.type "enumerate") [.ref a]) Q E s := by
  have B := begins_tuple a items
  refine callType_new F.called_enumerate (by decide) (F.typeCall_enumerate_1 _) (F.newCall_enumerate_1 _) (fun obj => F.args_object_init_2 obj _) F.entry_enumerate_new (meets_enum1 B) ⟨hT, ?_⟩
  generalize eo : ({ cls := .type "tuple_iterator", data := .fields #[.ref a, .int 0 0] } : Obj) = oi
  have fr : oi.isFreed = false := by rw [← eo]; rfl
  generalize ee : ({ cls := .type "enumerate", data := .fields #[.none, .bool false, .ref s.heap.objs.size, rawInt 0, .none, .none] } : Obj) = oe
  have fe : oe.isFreed = false := by rw [← ee]; rfl
  have z1 : (s.heap.push oi).objs.size = s.heap.objs.size + 1 := Heap.size_push _ _
  have g1 : (s.heap.push oi).get? s.heap.objs.size = some oi := Heap.get?_push_size _ fr
  have g2 : ((s.heap.push oi).push oe).get? (s.heap.objs.size + 1) = some oe := by
    rw [← z1]
    exact Heap.get?_push_size _ fe
  show _ ∧ _
  rw [z1]
  refine ⟨⟨oe, g2, by rw [← ee]⟩, h _ (by rw [← ee] at g2 ⊢; exact g2) ?_ (by rw [Heap.size_push, z1]) (fun b o x => Heap.get?_push_of_some _ (Heap.get?_push_of_some _ x))⟩
  exact ⟨oi, Heap.get?_push_of_some _ g1, by rw [← eo], by rw [← eo]; rfl⟩
end
/-- the tuple at a as it stands at each turn, each item in a new pair -/
def IteT (K : PySem.W.Frag) (a : Addr) : It :=
  ⟨fun i H => ∃ (xs : List V) (x : V), SqT K H a xs ∧ xs[i]? = some x, fun i H v H' => ∃ t x, v = .ref t ∧ H t = none ∧ H' = upd H t (.tup [.int (i : Nat), x]) ∧ ∀ xs, SqT K H a xs → xs[i]? = some x, fun i H => ∃ xs : List V, SqT K H a xs ∧ xs.length ≤ i⟩
theorem turn_enumT {P : Program} {w : World} {K : PySem.W.Frag} {elts : List Expr} {kk : Nat} {tpos : Pos} (a e it : Addr) :
    Turn P w K (.Tuple elts kk tpos) (IteT K a) [e, it] e (fun i h => (∃ old, IsEnum h e it ((i : Nat) : Int) old) ∧ h.IsTupleIter it a i ∧ e ≠ it) where
  mem := List.mem_cons_self
  obj := by
    rintro i h ⟨⟨old, he⟩, ⟨o, ho, hc, hd⟩, _⟩ b hb
    rcases List.mem_cons.mp hb with z | z
    · subst z
      exact ⟨_, he, fun v q => nomatch q⟩
    · obtain rfl : b = it := List.mem_singleton.mp z
      exact ⟨o, ho, fun v q => by rw [hd] at q; cases q⟩
  keep := by
    rintro i h h' ⟨⟨old, he⟩, hi, hne⟩ k
    exact ⟨⟨old, k e List.mem_cons_self _ he⟩, hi.at fun o q => k it (List.mem_cons_of_mem _ List.mem_cons_self) o q, hne⟩
  item := by
    intro X hP hw hK hc i pins s σ H E I hf st hg
    subst hP hw hK
    obtain ⟨⟨old, he⟩, hit, hne⟩ := st
    obtain ⟨xs, x, hq, hx⟩ := hg
    obtain ⟨its, rv, p, hz⟩ := I.tuple hq
    obtain ⟨u, hu, ru⟩ := rv.get hx
    have tl : s.heap.IsTuple a its.toArray := p
    have la : a < s.heap.objs.size := by obtain ⟨_, q, _⟩ := tl; exact Heap.lt_size q
    have le : e < s.heap.objs.size := Heap.lt_size he
    have li : it < s.heap.objs.size := by obtain ⟨_, q, _⟩ := hit; exact Heap.lt_size q
    have cls : ∀ {b : Addr}, (∃ o, s.heap.get? b = some o ∧ o.cls ≠ .type "tuple") → a ≠ b := by
      rintro b ⟨o, ho, hn⟩ z
      subst z
      obtain ⟨o2, h2, c2, _⟩ := tl
      rw [ho] at h2
      cases h2
      exact hn c2
    have ae : a ≠ e := cls ⟨_, he, by intro z; injection z with z; exact absurd z (by decide)⟩
    have ai : a ≠ it := cls (by obtain ⟨o, ho, hc', _⟩ := hit; exact ⟨o, ho, by rw [hc']; intro z; injection z with z; exact absurd z (by decide)⟩)
    have hn : i < its.toArray.size := by
      have := (List.getElem?_eq_some_iff.mp hu).1
      simpa using this
    refine wpAny_pyNext_enum_itemD (Draws.tuple (A := X.A.in1) (I.ok.hd hc) it a ai its.toArray) he ⟨hit, tl⟩ hn hne (by
      intro z
      rcases List.mem_cons.mp z with z | z
      · exact hne z
      · exact ae (List.mem_singleton.mp z).symm) ?_
    intro u' h' tk hx' ho hst hT hsz hk
    obtain rfl : u' = u := by
      have q : its[i]? = some u' := by simpa using hx'
      rw [hu] at q
      exact (Option.some.inj q).symm
    refine ⟨_, rfl, wpAny_letOwnedTupleGo_enum (s := { s with heap := h', toks := tk + 1 }) ho fun h'' he' sb => ?_⟩
    have hT2 : h''.get? s.heap.objs.size = some { cls := .type "tuple", data := .seq #[.int i tk, u'] } := (sb.2 _ (Nat.ne_of_gt le)).trans hT
    have new : ObjOk X.prog X.w (upd H s.heap.objs.size (.tup [.int (i : Nat), x])) h'' s.heap.objs.size (.tup [.int (i : Nat), x]) :=
      ⟨by show 2 ≤ sizeLine; decide, [.int i tk, u'], .cons ⟨_, rfl⟩ (.cons ru .nil), ⟨_, hT2, rfl, _, rfl⟩⟩
    have I1 : Inv X pins σ (upd H s.heap.objs.size (.tup [.int (i : Nat), x])) { s with heap := h'', toks := tk + 1 } := by
      refine I.turnedNew (ch := [e, it]) ?_ hf (Nat.le_refl _) new
      intro b ob hb q
      have be : b ≠ e := fun z => hb (by rw [z]; exact List.mem_cons_self)
      have bi : b ≠ it := fun z => hb (by rw [z]; exact List.mem_cons_of_mem _ List.mem_cons_self)
      exact (sb.2 b be).trans (hk b ob be bi q)
    refine ⟨.ref s.heap.objs.size, _, I1, rfl, ⟨_, x, rfl, I.hok.fresh (Nat.le_refl _), rfl, fun ys hy => by rw [I.tuple_inj hy hq]; exact hx⟩, ⟨⟨u', ?_⟩, hst.1.at fun o q => (sb.2 it (Ne.symm hne)).trans q, hne⟩, ?_⟩
    · have e1 : ((i + 1 : Nat) : Int) = (i : Int) + 1 := by omega
      rw [e1]
      exact he'
    · intro b hb
      have lb : b < s.heap.objs.size := by
        rcases List.mem_cons.mp hb with z | z
        · rw [z]; exact le
        · rw [List.mem_singleton.mp z]; exact li
      rw [upd_ne (Nat.ne_of_lt lb)]
      exact (hf b hb).1
  done := by
    intro X hP hw hK hc i pins s σ H E I hf st hg
    subst hP hw hK
    obtain ⟨⟨old, he⟩, hit, hne⟩ := st
    obtain ⟨xs, hq, hx⟩ := hg
    obtain ⟨its, rv, p, hz⟩ := I.tuple hq
    have tl : s.heap.IsTuple a its.toArray := p
    obtain ⟨f0, f1, f2, f3, f4, f5⟩ := hf it (List.mem_cons_of_mem _ List.mem_cons_self)
    have hl := rv.length
    have none : its.toArray[i]? = Option.none := by
      rw [List.getElem?_toArray]
      exact List.getElem?_eq_none (by omega)
    have D : Draws X.prog X.w X.A.in1 it [it, a] 0 (fun _ _ => False) (fun _ h => h.IsTupleIter it a i ∧ h.IsTuple a its.toArray) :=
      { live := fun _ _ z => let ⟨o, ho, _⟩ := z.1; ⟨o, ho⟩
        frame := fun _ _ _ z k => ⟨z.1.at fun o q => k it List.mem_cons_self o q, z.2.at fun o q => k a (List.mem_cons_of_mem _ List.mem_cons_self) o q⟩
        item := fun _ _ _ _ z => absurd z (Nat.not_lt_zero _)
        done := fun _ _ _ z hE => wpAny_nextOf_tuple_end (I.ok.hd hc) z.1 z.2 none hE }
    exact wpAny_pyNext_enum_endD D he ⟨hit, tl⟩ fun h' eb => ⟨rfl, I.turned (t' := s.toks) (fun b o hb q => eb b o hb q) f0 f1 f3 f4 f5⟩
  self := fun A i s Q E st h => let ⟨⟨_, he⟩, _⟩ := st; wpAny_pyIter_enum he h
def iEnumT (K : PySem.W.Frag) (ta : TA) : TI := fun σ H R => ta σ H fun vs H1 => ∃ a xs, vs = [.ref a] ∧ SqT K H1 a xs ∧ R (IteT K a) H1
theorem pi_enumT {X : Cx} {e : Expr} {ta : TA} {p pos tpos : Pos} {elts : List Expr} {kk : Nat} (hg : Gl X "enumerate") (hm : X.mg "enumerate" = none) (ha : PA X [e] ta) (hs : starEach [e] X.env = [(false, eval e X.env)] := by rfl) :
    PI X (.Tuple elts kk tpos) (.Call (.Name "enumerate" p) [e] [] pos) (iEnumT X.K ta) := by
  constructor
  intro pins s σ H R I h
  refine Call_ (ld_blt I hg hm boot_enumerate (PyProof.Rows.callWith_type1 (thn (ha.run pos pins s σ H _ I h) ?_) hs rfl))
  rintro us s1 ⟨vs, H1, I1, r1, a, xs, ex, hq, q⟩
  subst ex
  obtain rfl : us = [Value.ref a] := Vals.ref1 r1
  obtain ⟨its, rv, p', hz⟩ := I1.tuple hq
  refine enum_tup p' fun h' he hit hsz hk => wpAny_pyIter_enum he ?_
  have I2 : Inv X pins σ H1 { s1 with heap := h' } := I1.kept (t' := s1.toks) hk
  refine ⟨s1.heap.objs.size + 1, [s1.heap.objs.size + 1, s1.heap.objs.size], _, _, H1, rfl, I2, turn_enumT a (s1.heap.objs.size + 1) s1.heap.objs.size, ⟨⟨.none, he⟩, hit, Nat.succ_ne_self _⟩, ?_, q⟩
  intro b hb
  have hle : s1.heap.objs.size ≤ b := by
    rcases List.mem_cons.mp hb with z | z
    · rw [z]; exact Nat.le_add_right _ _
    · rw [List.mem_singleton.mp z]; exact Nat.le_refl _
  exact I1.fpOk hle (I1.hok.fresh hle)
theorem walk_enumT {K : PySem.W.Frag} {a : Addr} {xs : List V} : Walk (IteT K a) xs.length (fun H => SqT K H a xs) (YPair (fun i => some (.int (i : Nat))) (fun i => xs[i]?)) := by
  constructor
  · intro i H hi q
    exact ⟨xs, xs[i], q, List.getElem?_eq_getElem hi⟩
  · intro H q
    exact ⟨xs, q, Nat.le_refl _⟩
  · rintro i H v H' _ q ⟨t, x, h1, h2, h3, h4⟩
    exact ⟨t, .int (i : Nat), x, h1, h2, h3, rfl, h4 xs q⟩
end Rk
namespace Rk
open PySem PySem.Spec PyProof.Rows L2

/-! ### lists of ascending ints as lives -/
def Asc (is : List Int) : Prop := ∀ (i : Nat) (x y : Int), is[i]? = some x → is[i + 1]? = some y → x ≤ y
theorem asc_nil : Asc [] := fun i x y h => by simp at h
theorem asc_snoc {is : List Int} {z : Int} (h : Asc is) (hz : ∀ x ∈ is, x ≤ z) : Asc (is ++ [z]) := by
  intro i x y hx hy
  have hi : i + 1 < is.length + 1 := by
    have := (List.getElem?_eq_some_iff.mp hy).1
    simpa using this
  have h1 : is[i]? = some x := by
    rw [List.getElem?_append_left (by omega)] at hx
    exact hx
  by_cases hl : i + 1 < is.length
  · rw [List.getElem?_append_left hl] at hy
    exact h i x y h1 hy
  · have e : i + 1 = is.length := by omega
    rw [e, List.getElem?_append_right (Nat.le_refl _), Nat.sub_self] at hy
    have : z = y := Option.some.inj hy
    rw [← this]
    exact hz x (List.mem_of_getElem? h1)
theorem asc_init {is : List Int} {z : Int} (h : Asc (is ++ [z])) : Asc is := by
  intro i x y hx hy
  have l1 := (List.getElem?_eq_some_iff.mp hy).1
  exact h i x y (by rw [List.getElem?_append_left (by omega)]; exact hx) (by rw [List.getElem?_append_left l1]; exact hy)
theorem good_ints {ini : List Int} {z : Int} (h1 : ini.length ≤ 60) (hb : ∀ x ∈ ini ++ [z], 0 ≤ x ∧ x ≤ 10 ^ 18) (ha : Asc (ini ++ [z])) : Good (ini.map some ++ [some z]) := by
  have e : ini.map some ++ [some z] = (ini ++ [z]).map some := by rw [List.map_append]; rfl
  refine ⟨by simp, by simp; omega, ⟨ini, some z, rfl, fun i hi => hb i (List.mem_append_left _ hi), fun i hi => ?_⟩, fun i x y hx hy => ?_⟩
  · have : z = i := Option.some.inj hi
    exact hb i (List.mem_append_right _ (by rw [this]; exact List.mem_singleton_self _))
  · rw [e, List.getElem?_map] at hx hy
    cases ex : (ini ++ [z])[i]? with
    | none => rw [ex] at hx; cases hx
    | some a =>
      cases ey : (ini ++ [z])[i + 1]? with
      | none => rw [ey] at hy; cases hy
      | some b =>
        rw [ex] at hx
        rw [ey] at hy
        cases hx
        cases hy
        exact decide_eq_true (ha i a b ex ey)
theorem good_none {is : List Int} (h1 : is.length ≤ 60) (hb : ∀ x ∈ is, 0 ≤ x ∧ x ≤ 10 ^ 18) (ha : Asc is) : Good (is.map some ++ [none]) := by
  refine ⟨by simp, by simp; omega, ⟨is, none, rfl, hb, fun i hi => by cases hi⟩, fun i x y hx hy => ?_⟩
  have hi : i + 1 < is.length + 1 := by
    have := (List.getElem?_eq_some_iff.mp hy).1
    simpa using this
  by_cases hl : i + 1 < is.length
  · rw [List.getElem?_append_left (by rw [List.length_map]; exact hl), List.getElem?_map] at hy
    rw [List.getElem?_append_left (by rw [List.length_map]; omega), List.getElem?_map] at hx
    cases ex : is[i]? with
    | none => rw [ex] at hx; cases hx
    | some a =>
      cases ey : is[i + 1]? with
      | none => rw [ey] at hy; cases hy
      | some b =>
        rw [ex] at hx
        rw [ey] at hy
        cases hx
        cases hy
        exact decide_eq_true (ha i a b ex ey)
  · have e : i + 1 = (is.map some).length := by rw [List.length_map]; omega
    rw [e, List.getElem?_append_right (Nat.le_refl _), Nat.sub_self] at hy
    have : (none : Option Int) = y := Option.some.inj hy
    rw [← this]
    rfl
theorem map_lv_some (is : List Int) : (is.map some).map lv = is.map V.int := by
  rw [List.map_map]
  rfl

/-! ### the worst distance does not fall with the age -/
def wid (x : Option Int) : Int := match x with
  | none => 10 ^ 30
  | some i => i
theorem due_big {a : Int} : ∀ (ls : List (Option Int)) (j : Nat), j + ls.length ≤ 62 → 2 ^ j - 1 ≤ wid (due j ls a) ∧ wid (due j ls a) ≤ 10 ^ 30
  | [], j, h => by
    have h1 : (2 : Nat) ^ j ≤ 2 ^ 62 := Nat.pow_le_pow_right (by decide) (by simp at h; omega)
    have h2 : ((2 ^ j : Nat) : Int) = (2 : Int) ^ j := by rw [Int.natCast_pow]; rfl
    refine ⟨?_, Int.le_refl _⟩
    show (2 : Int) ^ j - 1 ≤ 10 ^ 30
    omega
  | l :: r, j, h => by
    have h1 : (2 : Nat) ^ j ≤ 2 ^ 62 := Nat.pow_le_pow_right (by decide) (by simp at h; omega)
    have h2 : ((2 ^ j : Nat) : Int) = (2 : Int) ^ j := by rw [Int.natCast_pow]; rfl
    have ih := due_big (a := a) r (j + 1) (by simp at h; omega)
    have e : due j (l :: r) a = if leO (some (a + 2 ^ j)) l = true then some (2 ^ j - 1) else due (j + 1) r a := rfl
    rw [e]
    by_cases hc : leO (some (a + 2 ^ j)) l = true
    · rw [if_pos hc]
      show (2 : Int) ^ j - 1 ≤ 2 ^ j - 1 ∧ (2 : Int) ^ j - 1 ≤ 10 ^ 30
      omega
    · rw [if_neg hc]
      have e3 : (2 : Int) ^ (j + 1) = 2 ^ j * 2 := Int.pow_succ _ _
      have h3 : (0 : Int) < 2 ^ j := Int.pow_pos (by decide)
      omega
theorem due_mono {a b : Int} (hab : a ≤ b) : ∀ (ls : List (Option Int)) (j : Nat), j + ls.length ≤ 62 → wid (due j ls a) ≤ wid (due j ls b)
  | [], _, _ => Int.le_refl _
  | l :: r, j, h => by
    have ea : due j (l :: r) a = if leO (some (a + 2 ^ j)) l = true then some (2 ^ j - 1) else due (j + 1) r a := rfl
    have eb : due j (l :: r) b = if leO (some (b + 2 ^ j)) l = true then some (2 ^ j - 1) else due (j + 1) r b := rfl
    rw [ea, eb]
    have ih := due_mono hab r (j + 1) (by simp at h; omega)
    by_cases hb : leO (some (b + 2 ^ j)) l = true
    · have ha : leO (some (a + 2 ^ j)) l = true := by
        cases l with
        | none => rfl
        | some i =>
          have : b + 2 ^ j ≤ i := of_decide_eq_true hb
          exact decide_eq_true (by omega)
      rw [if_pos ha, if_pos hb]
      exact Int.le_refl _
    · rw [if_neg hb]
      by_cases ha : leO (some (a + 2 ^ j)) l = true
      · rw [if_pos ha]
        have := (due_big (a := b) r (j + 1) (by simp at h; omega)).1
        have e3 : (2 : Int) ^ (j + 1) = 2 ^ j * 2 := Int.pow_succ _ _
        have h2 : (0 : Int) < 2 ^ j := Int.pow_pos (by decide)
        show (2 : Int) ^ j - 1 ≤ _
        omega
      · rw [if_neg ha]
        exact ih
theorem wids_sorted (ls : List (Option Int)) (h : ls.length ≤ 62) (n : Nat) : ((List.range n).map fun k => wid (due 0 ls ((k : Nat) : Int))).Pairwise (· ≤ ·) := by
  rw [List.pairwise_map]
  exact List.Pairwise.imp (fun {a b} (z : a < b) => due_mono (by omega) ls 0 (by omega)) List.pairwise_lt_range
/-! ### repr of what is due -/
theorem shownInt {i : Int} (h : i.natAbs.log2 < 1920) : (PyData.int i).shown.length ≤ sizeLine := int_text_fits h
def dO : Option Int → PyData
  | none => .none
  | some i => .int i
theorem dp_lv {K : PySem.W.Frag} {H : Hp} (x : Option Int) : Dp K H (lv x) (dO x) := by
  cases x with
  | none => exact .non
  | some i => exact .int i
/-- repr of None or an int of less than 600 bits -/
theorem repr_ok {x : Option Int} (hx : ∀ i, x = some i → i.natAbs < 2 ^ 600) : (dO x).showable = true ∧ (dO x).hasDict = false ∧ (dO x).depth ≤ 60 ∧ (dO x).shown.length ≤ sizeLine := by
  refine ⟨?_, ?_, ?_, ?_⟩
  · cases x with
    | none => rfl
    | some i =>
      refine decide_eq_true ?_
      have := PySem.Flt.log2_lt_of (by decide : 0 < 600) (hx i rfl)
      omega
  · cases x <;> rfl
  · cases x <;> simp [dO, PyData.depth]
  · cases x with
    | none => decide +kernel
    | some i =>
      refine shownInt ?_
      have := PySem.Flt.log2_lt_of (by decide : 0 < 600) (hx i rfl)
      omega
theorem due_600 {ls : List (Option Int)} {a i : Int} (h : ls.length ≤ 61) (e : due 0 ls a = some i) : i.natAbs < 2 ^ 600 := by
  have hb := due_big (a := a) ls 0 (by omega)
  rw [e] at hb
  have h1 : (0 : Int) ≤ i := by
    have : (2 : Int) ^ 0 - 1 ≤ i := hb.1
    simpa using this
  have h2 : i ≤ 10 ^ 30 := hb.2
  exact Nat.lt_of_le_of_lt (show i.natAbs ≤ 10 ^ 30 by omega) (Nat.lt_of_lt_of_le (show 10 ^ 30 < 2 ^ 100 by decide) (Nat.pow_le_pow_right (by decide) (by decide)))
/-! ### a list of ints as data -/
theorem dpAll_ints {K : PySem.W.Frag} {H : Hp} : ∀ ns : List Int, DpAll K H (ns.map V.int) (ns.map PyData.int)
  | [] => .nil
  | n :: r => .cons (.int n) (dpAll_ints r)
theorem lay_ints : ∀ ns : List Int, PyData.canLayAll0 (ns.map PyData.int) = true ∧ PyData.depthAll (ns.map PyData.int) = 0
  | [] => ⟨rfl, rfl⟩
  | n :: r => by
    have ih := lay_ints r
    constructor
    · show (true && PyData.canLayAll0 (r.map PyData.int)) = true
      rw [ih.1]
      rfl
    · show max 0 (PyData.depthAll (r.map PyData.int)) = 0
      rw [ih.2]
      rfl
theorem shaped_ints (ns : List Int) : SeqAt.shaped (.list (ns.map PyData.int)) = true := by
  have h := lay_ints ns
  unfold SeqAt.shaped
  have e1 : PyData.canLay0 (.list (ns.map PyData.int)) = true := h.1
  have e2 : PyData.depth (.list (ns.map PyData.int)) = 1 := by
    show PyData.depthAll (ns.map PyData.int) + 1 = 1
    rw [h.2]
  rw [e1, e2]
  rfl
end Rk
namespace Rk
open PySem PySem.Spec PyProof.Rows L2
open PySem.W (InstAt findIn isFn subIn mroIn)

/-! ### operators of an own class -/
section
variable {X : Cx} {pins : List (Addr × Obj)} {σ : L2.St} {H : Hp} {s : Shared} {k : Nat} {f C : Addr} {sp : Sp}
theorem ins_inst {a dx : Addr} {fs : List (Str × V)} (I : Inv X pins σ H s) (h : H a = some (.ins C dx fs)) : ∃ ox od, InstAt s.heap a ox C (some od) := by
  obtain ⟨mA, O, _⟩ := ins_get I.hok h
  obtain ⟨od, J, _⟩ := O.look
  exact ⟨_, od, J⟩
/-- what comes back from the method, seen by the operator -/
theorem back_of {Q : VK} {v : Value} {s' : Shared} (h : EP X pins σ Q v s') : PySem.W.CmpBack (EP X pins σ Q) v s' := by
  obtain ⟨x, H', I', r, q⟩ := h
  cases x with
  | non => cases r; exact ⟨.non, H', I', rfl, q⟩
  | bl b => cases r; exact ⟨.bl b, H', I', rfl, q⟩
  | int i => obtain ⟨t, rfl⟩ := (show ∃ t, v = Value.int i t from r); exact ⟨.int i, H', I', ⟨t, rfl⟩, q⟩
  | str z => obtain ⟨t, rfl⟩ := (show ∃ t, v = Value.str z t from r); exact ⟨.str z, H', I', ⟨t, rfl⟩, q⟩
  | byt z => obtain ⟨t, rfl⟩ := (show ∃ t, v = Value.bytes z t from r); exact ⟨.byt z, H', I', ⟨t, rfl⟩, q⟩
  | flt z => obtain ⟨t, rfl⟩ := (show ∃ t, v = Value.float z t from r); exact ⟨.flt z, H', I', ⟨t, rfl⟩, q⟩
  | ref a => cases r; exact ⟨.ref a, H', I', rfl, q⟩
  | ty n => cases r; exact ⟨.ty n, H', I', rfl, q⟩
theorem run_own {A : Around} {x y : V} {v u : Value} {Q : VK} (F : FnR X.prog X.w X.K X.mg X.base CX0 k f sp) (hr : Room k X.A) (I : Inv X pins σ H s) (rx : RelV x v) (ry : RelV y u) (h : sp [x, y] H Q E0) :
    wpAny (model X.prog X.w) X.A (call (.ref f) [v, u]) (PySem.W.CmpBack (EP X pins σ Q)) X.xe s :=
  wpAny_mono (wpAny_call (run_fnR F hr pass0 I (.cons rx (.cons ry .nil)) h)) (fun _ _ z => back_of z) fun _ _ z => z
def rOwn2 (C : Addr) (sp : Sp) : R2 := fun x y H Q => ∃ a b dx dy fs gs, x = .ref a ∧ y = .ref b ∧ H a = some (.ins C dx fs) ∧ H b = some (.ins C dy gs) ∧ sp [.ref a, .ref b] H Q E0
structure OwnOp (K : PySem.W.Frag) (C f : Addr) (m : Str) : Prop where
  at_ : findIn K (.ref C) m = some (some (.ref f))
  fn : isFn K (.ref f) = true
/-- one op other, both of the class -/
theorem op_own2 {op : Operator} (c : PySem.W.selfFirst X.K C = true) (m : OwnOp X.K C f (PySem.dunder op.info.2)) (F : FnR X.prog X.w X.K X.mg X.base CX0 k f sp) (hr : Room k X.A) : OpR X (binaryOp op) (rOwn2 C sp) := by
  intro pins s σ H x y v u Q I rx ry h
  obtain ⟨a, b, dx, dy, fs, gs, rfl, rfl, ha, hb, q⟩ := h
  cases rx
  cases ry
  obtain ⟨oa, da, Ja⟩ := ins_inst I ha
  obtain ⟨ob, db, Jb⟩ := ins_inst I hb
  obtain ⟨mm, hF⟩ := I.fr
  exact PySem.W.binop_K hF I.ok.mod.kin Ja Jb.type c m.at_ m.fn (run_own (A := X.A) (x := .ref a) (y := .ref b) F hr I rfl rfl q)
/-- the comparison one op other by the class's own method -/
theorem op_ownC {op : CmpOp} (hop : ∀ v u, compareOp op v u = richCompare op v u) (m : OwnOp X.K C f (cmpInfo op).2.1) (F : FnR X.prog X.w X.K X.mg X.base CX0 k f sp) (hr : Room k X.A) : OpR X (compareOp op) (rOwn2 C sp) := by
  intro pins s σ H x y v u Q I rx ry h
  obtain ⟨a, b, dx, dy, fs, gs, rfl, rfl, ha, hb, q⟩ := h
  cases rx
  cases ry
  obtain ⟨oa, da, Ja⟩ := ins_inst I ha
  obtain ⟨ob, db, Jb⟩ := ins_inst I hb
  obtain ⟨mm, hF⟩ := I.fr
  rw [hop]
  exact PySem.W.cmp_K hr.units0 hF I.ok.mod.kin Ja Jb.type (by simp [PySem.W.notFirst]) m.at_ m.fn (run_own (A := X.A) (x := .ref a) (y := .ref b) F hr I rfl rfl q)
/-- rule + n: the right one an int -/
structure OwnInt (K : PySem.W.Frag) (C : Addr) (nm : String) : Prop where
  rev : ∃ rc, findIn K (.ref C) (dunderR nm) = some rc ∧ (rc = none ∨ ∃ g : Addr, rc = some (.ref g))
  fo : ∃ fo, findIn K (.type "int") (PySem.dunder nm) = some fo
  ro : ∃ ro, findIn K (.type "int") (dunderR nm) = some ro
  sub : subIn K (.type "int") (.ref C) = some false
def rOwnI (C : Addr) (sp : Sp) : R2 := fun x y H Q => ∃ a dx fs i, x = .ref a ∧ y = .int i ∧ H a = some (.ins C dx fs) ∧ sp [.ref a, .int i] H Q E0
theorem op_ownI {op : Operator} (c : PySem.W.selfFirst X.K C = true) (m : OwnOp X.K C f (PySem.dunder op.info.2)) (n : OwnInt X.K C op.info.2) (F : FnR X.prog X.w X.K X.mg X.base CX0 k f sp) (hr : Room k X.A) : OpR X (binaryOp op) (rOwnI C sp) := by
  intro pins s σ H x y v u Q I rx ry h
  obtain ⟨a, dx, fs, i, rfl, rfl, ha, q⟩ := h
  cases rx
  obtain ⟨oa, da, Ja⟩ := ins_inst I ha
  obtain ⟨mm, hF⟩ := I.fr
  obtain ⟨rc, h1, h2⟩ := n.rev
  obtain ⟨fo, h3⟩ := n.fo
  obtain ⟨ro, h4⟩ := n.ro
  obtain ⟨t, rfl⟩ := (show ∃ t, u = Value.int i t from ry)
  exact PySem.W.ksp_binT hF I.ok.mod.kin Ja (by rfl) c m.at_ m.fn h1 h2 h3 h4 n.sub (run_own (A := X.A) (x := .ref a) (y := .int i) F hr I rfl ⟨t, rfl⟩ q)
/-- one != other, the class having == alone: the answer turned -/
structure OwnNe (K : PySem.W.Frag) (C f : Addr) : Prop where
  eq : OwnOp K C f "__eq__"
  ne : findIn K (.ref C) "__ne__" = some (some (.builtin "object.__ne__"))
  ob : mroIn K C (.type "object") = some true
def rOwnNe (C : Addr) (sp : Sp) : R2 := fun x y H Q => ∃ a b dx dy fs gs, x = .ref a ∧ y = .ref b ∧ H a = some (.ins C dx fs) ∧ H b = some (.ins C dy gs) ∧ sp [.ref a, .ref b] H (fun v H' => ∃ r, v = .bl r ∧ Q (.bl (!r)) H') E0
theorem op_ownNe (m : OwnNe X.K C f) (F : FnR X.prog X.w X.K X.mg X.base CX0 k f sp) (hr : Room (k + 1) X.A) : OpR X (compareOp .NotEq) (rOwnNe C sp) := by
  intro pins s σ H x y v u Q I rx ry h
  obtain ⟨a, b, dx, dy, fs, gs, rfl, rfl, ha, hb, q⟩ := h
  cases rx
  cases ry
  obtain ⟨oa, da, Ja⟩ := ins_inst I ha
  obtain ⟨ob, db, Jb⟩ := ins_inst I hb
  have kin := I.kIn
  show wpAny (model X.prog X.w) X.A (richCompare .NotEq (.ref a) (.ref b)) (EP X pins σ Q) X.xe s
  unfold richCompare
  simp only [oneThing_ref]
  refine wpAny_holding (wpAny_bind (wpAny_cRoomFor hr.units0 (wpAny_bind (Ja.type.here (wpAny_bind (Jb.type.here ?_))))))
  rw [cmpInfo_NotEq]
  dsimp only
  rw [show (Value.ref C != Value.ref C) = false from by simp]
  simp only [Bool.false_eq_true, if_false]
  refine wpAny_bind (wpAny_pure ?_)
  simp only [Bool.false_eq_true, if_false]
  refine wpAny_bind ?_
  have hin : PySem.W.Looks (model X.prog X.w) s.heap (isInstance (.ref a) (.type "object")) true := Ja.type.andThen (f := fun t => isSubtype t (.type "object")) (PySem.W.looks_mroIn kin m.ob)
  have body : wpAny (model X.prog X.w) X.A (call (.builtin "object.__ne__") [.ref a, .ref b]) (EP X pins σ Q) X.xe s := by
    refine wpAny_call (codeAny_call_builtin PySem.F.cmp_object.ne.plain PySem.F.cmpEntry_ne (PySem.W.check_slot PySem.F.cmpKind_ne PySem.F.cmpSplit_ne hin (PySem.F.cmpArgs_ne _ _) ?_))
    unfold Builtin.«object.__ne__»
    refine wpAny_bind (m := slotArgs "__ne__" 1 _) (wpAny_pure ?_)
    dsimp only
    refine wpAny_bind (m := cRoomFor _ _) (wpAny_cRoomFor (by have := hr.units0; have := hr.un; show X.A.units + 1 < cLine; omega) ?_)
    refine wpAny_bind (PySem.W.ifBound_K kin Ja m.eq.at_ m.eq.fn ?_)
    refine wpAny_call (codeAny_mono (F X.A.in1 X.stack s H [.ref a, .ref b] [.ref a, .ref b] _ E0 hr.in1 I.env0.in1 (.cons rfl (.cons rfl .nil)) q) ?_)
    intro r s' z
    cases r with
    | error e => exact z.elim
    | ok fl =>
      cases fl with
      | ret u =>
        obtain ⟨v, H', I', rv, c, rfl, q2⟩ := I.after z
        obtain rfl : u = Value.bool c := rv
        dsimp only
        refine wpAny_bind (wpAny_truthy_bool ?_)
        exact wpAny_pure ⟨.bl (!c), H', I', rfl, q2⟩
      | _ => exact z.elim
  unfold tryCompare
  simp only [callSpecialIfBound?, bindSpecialIfBound?]
  refine wpAny_bind (wpAny_holding (wpAny_bind (wpAny_bind (wpAny_bind (Ja.type.here ((PySem.W.looks_findIn kin m.ne).here ?_))))))
  refine wpAny_bind (wpAny_askSetting (wpAny_ite ?_))
  have hbn : bindSpecial (.builtin "object.__ne__") (.ref a) = pure (.builtin "object.__ne__", [.ref a]) := PySem.F.cmp_object.ne.bind _
  rw [hbn]
  have step : ∀ (v : Value) (s' : Shared), EP X pins σ Q v s' → PySem.W.CmpBack (EP X pins σ Q) v s' := fun _ _ z => back_of z
  split
  · refine wpAny_bind (wpAny_pure (wpAny_pure (wpAny_bind (wpAny_mono body ?_ fun _ _ z => z))))
    intro v s' z
    have z2 := step v s' z
    cases v <;> first | exact z2.elim | exact wpAny_pure (wpAny_pure (wpAny_pure z))
  · refine wpAny_tryCatch (wpAny_bind (wpAny_pure (wpAny_pure (wpAny_bind (wpAny_mono body ?_ fun _ _ z => z)))))
    intro v s' z
    have z2 := step v s' z
    cases v <;> first | exact z2.elim | exact wpAny_pure (wpAny_pure (wpAny_pure z))
end
end Rk
namespace Rk
open PySem PySem.Spec PyProof.Rows L2

/-! ### lives rank by rank -/
def lifeAt (ls : List (Option Int)) (n : Nat) : Option Int := match ls[n]? with
  | some x => x
  | none => match ls.getLast? with
    | some x => x
    | none => none
def maxO (x y : Option Int) : Option Int := if leO x y = true then y else x
def minO (x y : Option Int) : Option Int := if leO x y = true then x else y
theorem lifeAt_lt {ls : List (Option Int)} {n : Nat} {x : Option Int} (h : ls[n]? = some x) : lifeAt ls n = x := by
  unfold lifeAt
  rw [h]
theorem lifeAt_ge {ls : List (Option Int)} {n : Nat} {x : Option Int} (h : ls.length ≤ n) (hx : ls.getLast? = some x) : lifeAt ls n = x := by
  unfold lifeAt
  rw [List.getElem?_eq_none h, hx]
/-- the first n lives -/
def rows (g : Nat → Option Int) (n : Nat) : List (Option Int) := (List.range n).map g
theorem rows_get {g : Nat → Option Int} {n i : Nat} (h : i < n) : (rows g n)[i]? = some (g i) := by
  unfold rows
  rw [List.getElem?_map, List.getElem?_range h]
  rfl
theorem rows_length (g : Nat → Option Int) (n : Nat) : (rows g n).length = n := by
  unfold rows
  rw [List.length_map, List.length_range]
theorem rows_succ (g : Nat → Option Int) (n : Nat) : rows g (n + 1) = rows g n ++ [g n] := by
  unfold rows
  rw [List.range_succ, List.map_append]
  rfl
theorem rows_take (g : Nat → Option Int) {m n : Nat} (h : m ≤ n) : (rows g n).take m = rows g m := by
  unfold rows
  rw [← List.map_take, List.take_range, Nat.min_eq_left h]
/-- the cut looks at the first n alone -/
theorem cutN_rows (g : Nat → Option Int) {n N : Nat} (h : n ≤ N) : cutN (rows g N) n = cutN (rows g n) n := by
  have key : ∀ m, m ≤ n → cutN (rows g N) m = cutN (rows g n) m := by
    intro m
    induction m using Nat.strongRecOn with
    | ind m ih =>
      intro hm
      match m, hm with
      | 0, _ => rfl
      | 1, _ => rfl
      | j + 2, hm =>
        have e1 : (rows g N)[j + 1]? = (rows g n)[j + 1]? := by rw [rows_get (by omega), rows_get (by omega)]
        have e0 : (rows g N)[j]? = (rows g n)[j]? := by rw [rows_get (by omega), rows_get (by omega)]
        by_cases h : (rows g n)[j + 1]? = (rows g n)[j]?
        · rw [cutN_eq h, cutN_eq (by rw [e1, e0]; exact h)]
          exact ih (j + 1) (by omega) (by omega)
        · rw [cutN_ne h, cutN_ne (by rw [e1, e0]; exact h)]
  exact key n (Nat.le_refl _)
theorem short_rows_succ (g : Nat → Option Int) {n : Nat} (h0 : 0 < n) (h : g n = g (n - 1)) : short (rows g (n + 1)) = short (rows g n) := by
  obtain ⟨j, rfl⟩ : ∃ j, n = j + 1 := ⟨n - 1, by omega⟩
  have e : (rows g (j + 2))[j + 1]? = (rows g (j + 2))[j]? := by
    rw [rows_get (by omega), rows_get (by omega)]
    exact congrArg some h
  unfold short
  rw [rows_length, rows_length, cutN_eq e, cutN_rows g (by omega : j + 1 ≤ j + 2)]
  have hc := cutN_le (rows g (j + 1)) (j + 1)
  rw [rows_take g (by omega), rows_take g hc]
/-- from n on the same: any longer list of them has the same shortest one -/
theorem short_rows (g : Nat → Option Int) {n : Nat} (h0 : 0 < n) (h : ∀ m, n ≤ m → g m = g (n - 1)) : ∀ k, short (rows g (n + k)) = short (rows g n)
  | 0 => rfl
  | k + 1 => by
    rw [← short_rows g h0 h k]
    have e : g (n + k) = g (n + k - 1) := by
      rw [h (n + k) (by omega)]
      by_cases hk : k = 0
      · rw [hk]
        rfl
      · exact (h (n + k - 1) (by omega)).symm
    exact short_rows_succ g (by omega : 0 < n + k) e
theorem rows_lifeAt (ls : List (Option Int)) : rows (lifeAt ls) ls.length = ls := by
  apply List.ext_getElem?
  intro i
  by_cases h : i < ls.length
  · rw [rows_get h, List.getElem?_eq_getElem h, lifeAt_lt (List.getElem?_eq_getElem h)]
  · rw [List.getElem?_eq_none (by rw [rows_length]; omega), List.getElem?_eq_none (by omega)]
theorem lifeAt_const {ls : List (Option Int)} (h0 : 0 < ls.length) : ∀ m, ls.length ≤ m → lifeAt ls m = lifeAt ls (ls.length - 1) := by
  intro m hm
  obtain ⟨x, hx⟩ : ∃ x, ls.getLast? = some x := by
    cases ls with
    | nil => simp at h0
    | cons a r => exact ⟨_, List.getLast?_eq_some_getLast (by simp)⟩
  rw [lifeAt_ge hm hx]
  rw [List.getLast?_eq_getElem?] at hx
  rw [lifeAt_lt hx]
/-- the life of a rank does not change by cutting -/
theorem lifeAt_cut {ls : List (Option Int)} (h0 : 0 < ls.length) : ∀ n, 0 < n → n ≤ ls.length → ∀ i, lifeAt (ls.take (cutN ls n)) i = lifeAt (ls.take n) i := by
  intro n
  induction n using Nat.strongRecOn with
  | ind n ih =>
    intro hn hl i
    match n, hn, hl with
    | 1, _, _ => rfl
    | j + 2, _, hl =>
      by_cases h : ls[j + 1]? = ls[j]?
      · rw [cutN_eq h, ih (j + 1) (by omega) (by omega) (by omega) i]
        have lj : (ls.take (j + 1)).length = j + 1 := by rw [List.length_take]; omega
        have lj2 : (ls.take (j + 2)).length = j + 2 := by rw [List.length_take]; omega
        have last1 : (ls.take (j + 1)).getLast? = ls[j]? := by
          rw [List.getLast?_eq_getElem?, lj]
          exact List.getElem?_take_of_lt (by omega)
        have last2 : (ls.take (j + 2)).getLast? = ls[j + 1]? := by
          rw [List.getLast?_eq_getElem?, lj2]
          exact List.getElem?_take_of_lt (by omega)
        have hx : ls[j]? = some ls[j] := List.getElem?_eq_getElem (by omega)
        by_cases hi : i < j + 1
        · have a1 : (ls.take (j + 1))[i]? = some ls[i] := by rw [List.getElem?_take_of_lt hi]; exact List.getElem?_eq_getElem (by omega)
          have a2 : (ls.take (j + 2))[i]? = some ls[i] := by rw [List.getElem?_take_of_lt (by omega)]; exact List.getElem?_eq_getElem (by omega)
          rw [lifeAt_lt a1, lifeAt_lt a2]
        · rw [lifeAt_ge (by omega) (last1.trans hx)]
          by_cases hi2 : i < j + 2
          · have e : i = j + 1 := by omega
            subst e
            have a2 : (ls.take (j + 2))[j + 1]? = some ls[j] := by rw [List.getElem?_take_of_lt (by omega), h, hx]
            rw [lifeAt_lt a2]
          · rw [lifeAt_ge (by omega) (last2.trans (h.trans hx))]
      · rw [cutN_ne h]
theorem lifeAt_short {ls : List (Option Int)} (h0 : 0 < ls.length) (i : Nat) : lifeAt (short ls) i = lifeAt ls i := by
  unfold short
  rw [lifeAt_cut h0 _ h0 (Nat.le_refl _), List.take_length]
theorem short_len_pos {ls : List (Option Int)} (h : 0 < ls.length) : 0 < (short ls).length := by
  have := cutN_pos ls ls.length h
  unfold short
  rw [List.length_take]
  omega
theorem short_len_le (ls : List (Option Int)) : (short ls).length ≤ ls.length := by
  unfold short
  rw [List.length_take]
  omega
/-- lives of ranks by g, at n and more the same: whatever list of them is taken -/
theorem short_any (g : Nat → Option Int) {n m : Nat} (h0 : 0 < n) (h : ∀ k, n ≤ k → g k = g (n - 1)) (hm : n ≤ m) : short (rows g m) = short (rows g n) := by
  obtain ⟨k, rfl⟩ : ∃ k, m = n + k := ⟨m - n, by omega⟩
  exact short_rows g h0 h k
/-! ### lives as data -/
def dLs (ls : List (Option Int)) : PyData := .tuple (ls.map dO)
theorem dpAll_lv {K : PySem.W.Frag} {H : Hp} : ∀ ls : List (Option Int), DpAll K H (ls.map lv) (ls.map dO)
  | [] => .nil
  | x :: r => .cons (dp_lv x) (dpAll_lv r)
theorem dp_lives {K : PySem.W.Frag} {H : Hp} {a : Addr} {ls : List (Option Int)} (h : SqT K H a (ls.map lv)) : Dp K H (.ref a) (dLs ls) := .tup h (dpAll_lv ls)
theorem eqv_lv (x y : Option Int) : PyData.eqv (dO x) (dO y) = decide (x = y) := by
  cases x with
  | none => cases y <;> simp [dO, PyData.eqv]
  | some i =>
    cases y with
    | none => simp [dO, PyData.eqv]
    | some j =>
      show (i == j) = decide (some i = some j)
      rw [Bool.eq_iff_iff]
      simp
theorem eqv_all : ∀ ls ms : List (Option Int), PyData.eqvAll (ls.map dO) (ms.map dO) = decide (ls = ms)
  | [], [] => rfl
  | [], _ :: _ => rfl
  | _ :: _, [] => rfl
  | x :: r, y :: q => by
    show (PyData.eqv (dO x) (dO y) && PyData.eqvAll (r.map dO) (q.map dO)) = decide (x :: r = y :: q)
    rw [eqv_lv, eqv_all r q, Bool.eq_iff_iff]
    simp
theorem eqv_lives (ls ms : List (Option Int)) : PyData.eqv (dLs ls) (dLs ms) = decide (ls = ms) := eqv_all ls ms
theorem lay_lives : ∀ ls : List (Option Int), PyData.canLayAll0 (ls.map dO) = true ∧ PyData.depthAll (ls.map dO) = 0
  | [] => ⟨rfl, rfl⟩
  | x :: r => by
    have ih := lay_lives r
    constructor
    · show (PyData.canLay0 (dO x) && PyData.canLayAll0 (r.map dO)) = true
      rw [ih.1]
      cases x <;> rfl
    · show max (PyData.depth (dO x)) (PyData.depthAll (r.map dO)) = 0
      rw [ih.2]
      cases x <;> rfl
theorem shaped_lives (ls : List (Option Int)) : SeqAt.shaped (dLs ls) = true := by
  have h := lay_lives ls
  unfold SeqAt.shaped
  have e1 : PyData.canLay0 (dLs ls) = true := h.1
  have e2 : PyData.depth (dLs ls) = 1 := by
    show PyData.depthAll (ls.map dO) + 1 = 1
    rw [h.2]
  rw [e1, e2]
  rfl
def addO (n : Int) (x : Option Int) : Option Int := x.map (· + n)
end Rk
namespace Rk
open PySem PySem.Spec PyProof.Rows L2
open Sem (wp)

/-! ### list(zip(a, b)) of two lists -/
theorem zip_no_len : typeLookup (.type "zip") "__len__" = pure none := am_miss_of_fast (by decide +kernel)
theorem zip_no_hint : typeLookup (.type "zip") "__length_hint__" = pure none := am_miss_of_fast (by decide +kernel)
structure ZlSt (h : Heap) (z TI TO i1 i2 l1 l2 S : Addr) (xs ys : Array Value) (k : Nat) : Prop where
  pi : IsPair h TI (.ref i1) (.ref i2)
  h1 : h.IsListIter i1 l1 k
  h2 : h.IsListIter i2 l2 k
  hl1 : h.IsList l1 xs
  hl2 : h.IsList l2 ys
  hz : (IsZip h z TI TO .none ∧ ∃ a b, IsPair h TO a b) ∨ ∃ T f oT, IsZipHeld h z TI TO T f ∧ h.get? T = some oT ∧ T ≠ z ∧ T ≠ i1 ∧ T ≠ i2 ∧ T ≠ S
/-- the pairs laid so far -/
structure ZlG (xs ys : Array Value) (lo : Addr) (h : Heap) (as : List Addr) : Prop where
  rise : as.Pairwise (· < ·)
  above : ∀ a ∈ as, lo < a
  pairs : ∀ (j : Nat) (a : Addr), as[j]? = some a → ∃ x y, xs[j]? = some x ∧ ys[j]? = some y ∧ h.get? a = some { cls := .type "tuple", data := .seq #[x, y] }
theorem ZlG.there {xs ys : Array Value} {lo : Addr} {h : Heap} {as : List Addr} (g : ZlG xs ys lo h as) {a : Addr} (ha : a ∈ as) : a < h.objs.size := by
  obtain ⟨j, hj⟩ := List.mem_iff_getElem?.mp ha
  obtain ⟨_, _, _, _, e⟩ := g.pairs j a hj
  exact Heap.lt_size e
structure ZlOff (z TI TO i1 i2 l1 l2 S : Addr) : Prop where
  z : z ≠ S
  TI : TI ≠ S
  TO : TO ≠ S
  i1 : i1 ≠ S
  i2 : i2 ≠ S
  l1 : l1 ≠ S
  l2 : l2 ≠ S
theorem ZlSt.keep {h h' : Heap} {z TI TO i1 i2 l1 l2 S : Addr} {xs ys : Array Value} {k : Nat} (st : ZlSt h z TI TO i1 i2 l1 l2 S xs ys k) (o : ZlOff z TI TO i1 i2 l1 l2 S) (hk : ∀ b u, b ≠ S → h.get? b = some u → h'.get? b = some u) : ZlSt h' z TI TO i1 i2 l1 l2 S xs ys k := by
  obtain ⟨a1, a2, a3, a4, a5, a6⟩ := st
  refine ⟨hk _ _ o.TI a1, a2.at fun u e => hk _ u o.i1 e, a3.at fun u e => hk _ u o.i2 e, a4.at fun u e => hk _ u o.l1 e, a5.at fun u e => hk _ u o.l2 e, ?_⟩
  rcases a6 with ⟨hz, a, b, hTO⟩ | ⟨T, f, oT, hz, hT, r1, r2, r3, r4⟩
  · exact .inl ⟨hk _ _ o.z hz, a, b, hk _ _ o.TO hTO⟩
  · exact .inr ⟨T, f, oT, hk _ _ o.z hz, hk _ _ r4 hT, r1, r2, r3, r4⟩
section
variable {prog : Program} {w : World} {A : Around} {E : Value → Shared → Prop} {s : Shared}
theorem zl_item {z TI TO i1 i2 l1 l2 S : Addr} {xs ys : Array Value} {i : Nat} {x y : Value} {Q : Option Value → Shared → Prop} (D : ZipApart z TI TO i1 i2 l1 l2) (st : ZlSt s.heap z TI TO i1 i2 l1 l2 S xs ys i) (hS : S < s.heap.objs.size) (ex : xs[i]? = some x) (ey : ys[i]? = some y)
    (hQ : ∀ h', ZlSt h' z TI TO i1 i2 l1 l2 S xs ys (i + 1) → h'.get? s.heap.objs.size = some { cls := .type "tuple", data := .seq #[x, y] } →
      (∀ b o, b ≠ z → b ≠ TO → b ≠ i1 → b ≠ i2 → s.heap.get? b = some o → h'.get? b = some o) → Q (some (.ref s.heap.objs.size)) { s with heap := h' }) :
    wpAny (model prog w) A (pyNext (.ref z)) Q E s := by
  obtain ⟨hTI, h1, h2, hl1, hl2, hz⟩ := st
  have lt : ∀ {c o}, s.heap.get? c = some o → s.heap.objs.size ≠ c := fun e => Nat.ne_of_gt (Heap.lt_size e)
  have n1 : s.heap.objs.size ≠ i1 := let ⟨_, e, _⟩ := h1; lt e
  have n2 : s.heap.objs.size ≠ i2 := let ⟨_, e, _⟩ := h2; lt e
  rcases hz with ⟨hz, a, b, hTO⟩ | ⟨T, f, oT, hz, hT, r1, r2, r3, r4⟩
  · refine wpAny_pyNext_zip_item D hz hTI hTO h1 h2 hl1 hl2 ex ey fun h' a1 a2 a3 a4 a5 a6 hk => ?_
    exact hQ h' ⟨hk _ _ D.TIz D.TITO D.TIi1 D.TIi2 hTI, a3, a4, hl1.at fun o e => hk _ o D.l1z D.l1TO D.l1i1 D.l1i2 e, hl2.at fun o e => hk _ o D.l2z D.l2TO D.l2i1 D.l2i2 e,
        .inr ⟨s.heap.objs.size, false, _, a1, a5, lt hz, n1, n2, Nat.ne_of_gt hS⟩⟩ a5 hk
  · refine wpAny_pyNext_zip_item_held D hz hT hTI h1 h2 hl1 hl2 ex ey fun h' a1 a3 a4 a5 a6 hk => ?_
    exact hQ h' ⟨hk _ _ D.TIz D.TIi1 D.TIi2 hTI, a3, a4, hl1.at fun o e => hk _ o D.l1z D.l1i1 D.l1i2 e, hl2.at fun o e => hk _ o D.l2z D.l2i1 D.l2i2 e,
        .inr ⟨T, true, oT, a1, hk _ _ r1 r2 r3 hT, r1, r2, r3, r4⟩⟩ a5 fun b o c1 _ c3 c4 e => hk b o c1 c3 c4 e
theorem zl_done {z TI TO i1 i2 l1 l2 S : Addr} {xs ys : Array Value} {i : Nat} {Q : Option Value → Shared → Prop} (hh : A.handled = none) (D : ZipApart z TI TO i1 i2 l1 l2) (st : ZlSt s.heap z TI TO i1 i2 l1 l2 S xs ys i) (hend : xs[i]? = none ∨ ys[i]? = none)
    (hQ : ∀ h', (∀ b o, b ≠ z → b ≠ TO → b ≠ i1 → b ≠ i2 → s.heap.get? b = some o → h'.get? b = some o) → Q none { s with heap := h' }) :
    wpAny (model prog w) A (pyNext (.ref z)) Q E s := by
  obtain ⟨hTI, h1, h2, hl1, hl2, hz⟩ := st
  rcases hz with ⟨hz, a, b, hTO⟩ | ⟨T, f, oT, hz, hT, r1, r2, r3, r4⟩
  · exact wpAny_pyNext_zip_end hh D hz hTI hTO h1 h2 hl1 hl2 hend fun h' hk => hQ h' hk
  · exact wpAny_pyNext_zip_end_held hh D hz hT hTI h1 h2 hl1 hl2 hend fun h' hk => hQ h' fun b o c1 _ c3 c4 e => hk b o c1 c3 c4 e
end
section
variable {prog : Program} {w : World} {A : Around} {s : Shared} {R : Result → Shared → Prop}
theorem zl_loop {z TI TO i1 i2 l1 l2 S : Addr} {xs ys : Array Value} {n : Nat} (hh : A.handled = none) (D : ZipApart z TI TO i1 i2 l1 l2) (O : ZlOff z TI TO i1 i2 l1 l2 S) (lw : z < S ∧ TO < S ∧ i1 < S ∧ i2 < S) (hn : n = min xs.size ys.size) (hsz : n ≤ sizeLine) (res : Value) {h₁ : Heap}
    (hR : ∀ h' tk acc c as, (∀ b o, b ≠ S → b ≠ z → b ≠ TO → b ≠ i1 → b ≠ i2 → h₁.get? b = some o → h'.get? b = some o) → h'.get? S = some { cls := .type "list", dict := none, data := .seq acc c, slots := #[] } → as.length = n → ZlG xs ys S h' as →
      acc.toList = as.map Value.ref → R (.ok (.ret res)) { s with heap := h', toks := tk }) :
    ∀ (k i : Nat) (h : Heap) (tk c : Nat) (acc : Array Value) (as : List Addr), n - i = k → i ≤ n → ZlSt h z TI TO i1 i2 l1 l2 S xs ys i → (∀ b o, b ≠ S → b ≠ z → b ≠ TO → b ≠ i1 → b ≠ i2 → h₁.get? b = some o → h.get? b = some o) →
      h.get? S = some { cls := .type "list", dict := none, data := .seq acc c, slots := #[] } → acc.toList = as.map Value.ref → as.length = i → ZlG xs ys S h as →
      codeAny (model prog w) A (.builtin "list.extend.loop" ⟨[.ref S, .ref z, res], []⟩) R { s with heap := h, toks := tk } := by
  obtain ⟨w1, w2, w3, w4⟩ := lw
  have ab : ∀ b, S < b → b ≠ z ∧ b ≠ TO ∧ b ≠ i1 ∧ b ≠ i2 := fun b hb => ⟨Nat.ne_of_gt (Nat.lt_trans w1 hb), Nat.ne_of_gt (Nat.lt_trans w2 hb), Nat.ne_of_gt (Nat.lt_trans w3 hb), Nat.ne_of_gt (Nat.lt_trans w4 hb)⟩
  intro k
  induction k with
  | zero =>
    intro i h tk c acc as hk hi hst hkeep hS hacc hal hG
    have hin : i = n := by omega
    have hend : xs[i]? = none ∨ ys[i]? = none := by
      rcases Nat.le_total xs.size ys.size with q | q
      · exact .inl (Array.getElem?_eq_none (by omega))
      · exact .inr (Array.getElem?_eq_none (by omega))
    refine codeAny_builtin PySem.F.entry_extend_loop ?_
    rw [Around.under_plainId PySem.F.plain_extend_loop _]
    show wpAny _ A.in1 (pyNext (.ref z) >>= _) _ _ _
    refine wpAny_bind (zl_done (s := { s with heap := h, toks := tk }) (A := A.in1) hh D hst hend fun h' he => ?_)
    refine wpAny_pure (hR h' tk acc c as (fun b o q1 q2 q3 q4 q5 e => he b o q2 q3 q4 q5 (hkeep b o q1 q2 q3 q4 q5 e)) (he S _ O.z.symm O.TO.symm O.i1.symm O.i2.symm hS) (by omega) ⟨hG.rise, hG.above, fun j a hj => ?_⟩ hacc)
    obtain ⟨x, y, ex, ey, e3⟩ := hG.pairs j a hj
    obtain ⟨b1, b2, b3, b4⟩ := ab a (hG.above a (List.mem_of_getElem? hj))
    exact ⟨x, y, ex, ey, he a _ b1 b2 b3 b4 e3⟩
  | succ k ih =>
    intro i h tk c acc as hk hi hst hkeep hS hacc hal hG
    have hlt : i < n := by omega
    have hsz2 : acc.size = i := by rw [← Array.length_toList, hacc, List.length_map, hal]
    have hSl : S < h.objs.size := Heap.lt_size hS
    have ex := Array.getElem?_eq_getElem (show i < xs.size by omega)
    have ey := Array.getElem?_eq_getElem (show i < ys.size by omega)
    refine codeAny_builtin PySem.F.entry_extend_loop ?_
    rw [Around.under_plainId PySem.F.plain_extend_loop _]
    show wpAny _ A.in1 (pyNext (.ref z) >>= _) _ _ _
    refine wpAny_bind (zl_item (s := { s with heap := h, toks := tk }) (S := S) D hst hSl ex ey fun h' hst' ht hkp => ?_)
    dsimp only at ht hkp ⊢
    have hS' := hkp S _ O.z.symm O.TO.symm O.i1.symm O.i2.symm hS
    have up : ∀ b o, b ≠ S → h'.get? b = some o → (h'.update S (Obj.mapSeq (·.push (Value.ref h.objs.size)))).get? b = some o := fun b o hb e => (Heap.get?_update_other _ _ (Ne.symm hb)).trans e
    show wpAny _ A.in1 (updateSeq S (·.push (Value.ref h.objs.size)) >>= _) _ _ _
    refine wpAny_bind ?_
    refine wpAny_updateSeq hS' rfl (wpAny_pure ⟨plainId_quiet PySem.F.plain_extend_loop _, ih (i + 1) _ tk _ (acc.push (Value.ref h.objs.size)) (as ++ [h.objs.size]) (by omega) hlt (hst'.keep O up)
      (fun b o q1 q2 q3 q4 q5 e => up b o q1 (hkp b o q2 q3 q4 q5 (hkeep b o q1 q2 q3 q4 q5 e))) (Heap.get?_update_self _ hS' rfl) (by rw [Array.toList_push, hacc, List.map_append]; rfl) (by rw [List.length_append, hal]; rfl) ⟨?_, ?_, ?_⟩⟩) (by rw [hsz2]; omega) (by show (acc.push (Value.ref h.objs.size)).size ≤ sizeLine + 1; rw [Array.size_push, hsz2]; omega)
    · refine List.pairwise_append.mpr ⟨hG.rise, List.pairwise_singleton _ _, fun a ha b hb => ?_⟩
      rw [List.mem_singleton.mp hb]
      exact hG.there ha
    · intro a ha
      rcases List.mem_append.mp ha with ha | ha
      · exact hG.above a ha
      · rw [List.mem_singleton.mp ha]; exact hSl
    · intro j b hj
      rcases Nat.lt_trichotomy j as.length with q | q | q
      · rw [List.getElem?_append_left q] at hj
        obtain ⟨x, y, ex', ey', e3⟩ := hG.pairs j b hj
        have hb := hG.above b (List.mem_of_getElem? hj)
        obtain ⟨b1, b2, b3, b4⟩ := ab b hb
        exact ⟨x, y, ex', ey', up b _ (Nat.ne_of_gt hb) (hkp b _ b1 b2 b3 b4 e3)⟩
      · subst q
        have hb : h.objs.size = b := by simpa using hj
        subst hb
        subst hal
        exact ⟨_, _, ex, ey, up _ _ (Nat.ne_of_gt hSl) ht⟩
      · have hnone : (as ++ [h.objs.size])[j]? = none := List.getElem?_eq_none (by rw [List.length_append, List.length_singleton]; omega)
        rw [hnone] at hj; cases hj
end
section
variable {prog : Program} {w : World} {A : Around} {E : Value → Shared → Prop} {s : Shared} {z TI TO i1 i2 l1 l2 : Addr} {xs ys : Array Value} {n : Nat}
theorem zl_extend {R : Result → Shared → Prop} {S : Addr} (hh : A.handled = none) (D : ZipApart z TI TO i1 i2 l1 l2) (O : ZlOff z TI TO i1 i2 l1 l2 S) (lw : z < S ∧ TO < S ∧ i1 < S ∧ i2 < S) (hn : n = min xs.size ys.size) (hsz : n ≤ sizeLine)
    (hz : IsZip s.heap z TI TO .none) (st : ZlSt s.heap z TI TO i1 i2 l1 l2 S xs ys 0) (res : Value) (c₀ : Nat) (hS : s.heap.get? S = some { cls := .type "list", data := .seq #[] c₀ })
    (hR : ∀ h' tk acc c as, (∀ b o, b ≠ S → b ≠ z → b ≠ TO → b ≠ i1 → b ≠ i2 → s.heap.get? b = some o → h'.get? b = some o) → h'.get? S = some { cls := .type "list", dict := none, data := .seq acc c, slots := #[] } → as.length = n → ZlG xs ys S h' as →
      acc.toList = as.map Value.ref → R (.ok (.ret res)) { s with heap := h', toks := tk }) :
    wpAny (model prog w) A.in1 (Builtin.List.listExtendWith (.ref S) (.ref z) res)
      (fun fin s' => match fin with | .done f => R (.ok f) s' | .again c' => c'.quiet = true ∧ codeAny (model prog w) A c' R s') (fun e s' => R (.error e) s') s := by
  have hT : s.TypeIs (.ref z) "zip" := ⟨_, hz, rfl⟩
  unfold Builtin.List.listExtendWith
  refine wpAny_bind (wpAny_typeOf hT ?_)
  have h1 : Builtin.List.listSameRef (.ref S) (.ref z) = false := by simp [Builtin.List.listSameRef, O.z.symm]
  have h2 : (Value.type "zip" == Value.type "list") = false := by decide
  have h3 : (Value.type "zip" == Value.type "tuple") = false := by decide
  simp only [h1, h2, h3, Bool.or_false, Bool.false_eq_true, if_false]
  refine wpAny_bind (wpAny_pyIter_zip hz ?_)
  refine wpAny_bind (wpAny_holding ?_)
  unfold Builtin.List.listLengthHint
  refine wpAny_bind (wpAny_specialOf hT zip_no_len ?_)
  show wpAny _ A.in1 (specialOf (Value.ref z) (Str.ofString "__length_hint__") >>= _) _ _ _
  refine wpAny_bind (wpAny_specialOf hT zip_no_hint ?_)
  refine wpAny_pure ?_
  show wpAny _ A.in1 (rule "list.extend.makes-room" >>= fun _ => Builtin.List.listTouch (.ref S) >>= fun _ =>
    again (.builtin "list.extend.loop" ⟨[.ref S, .ref z, res], []⟩)) _ _ _
  refine wpAny_bind (wpAny_rule ?_)
  refine wpAny_bind ?_
  show wpAny _ A.in1 (updateSeq S (·.push .none) >>= fun _ => updateSeq S (·.pop)) _ _ _
  refine wpAny_bind (wpAny_updateSeq hS rfl ?_)
  have hS₂ := Heap.get?_update_self (Obj.mapSeq (·.push Value.none)) hS rfl
  refine wpAny_updateSeq (hz := by seq_fits) hS₂ rfl ?_
  have hS₃ := Heap.get?_update_self (Obj.mapSeq (·.pop)) hS₂ rfl
  have oth : ∀ b o, b ≠ S → s.heap.get? b = some o → ((s.heap.update S (Obj.mapSeq (·.push Value.none))).update S (Obj.mapSeq (·.pop))).get? b = some o :=
    fun b o hb e => (Heap.get?_update_other _ _ (Ne.symm hb)).trans ((Heap.get?_update_other _ _ (Ne.symm hb)).trans e)
  exact wpAny_pure ⟨plainId_quiet PySem.F.plain_extend_loop _, zl_loop (s := s) (h₁ := s.heap) hh D O lw hn hsz res hR n 0 _ _ _ _ [] (Nat.sub_zero _) (Nat.zero_le _) (st.keep O oth) (fun b o q1 _ _ _ _ e => oth b o q1 e) hS₃ rfl rfl
    ⟨List.Pairwise.nil, (fun _ ha => nomatch ha), (fun j a hj => by simp at hj)⟩⟩
theorem zl_call {Q : Value → Shared → Prop} (hh : A.handled = none) (D : ZipApart z TI TO i1 i2 l1 l2) (hz : IsZip s.heap z TI TO .none) (hTI : IsPair s.heap TI (.ref i1) (.ref i2)) (hTO : ∃ a b, IsPair s.heap TO a b) (h1 : s.heap.IsListIter i1 l1 0) (h2 : s.heap.IsListIter i2 l2 0)
    (hl1 : s.heap.IsList l1 xs) (hl2 : s.heap.IsList l2 ys) (hn : n = min xs.size ys.size) (hsz : n ≤ sizeLine)
    (hQ : ∀ h' tk acc c as, (∀ b o, b ≠ z → b ≠ TO → b ≠ i1 → b ≠ i2 → s.heap.get? b = some o → h'.get? b = some o) → h'.get? s.heap.objs.size = some { cls := .type "list", dict := none, data := .seq acc c, slots := #[] } → as.length = n → ZlG xs ys s.heap.objs.size h' as →
      acc.toList = as.map Value.ref → Q (.ref s.heap.objs.size) { s with heap := h', toks := tk }) :
    wpAny (model prog w) A (call (.type "list") [.ref z]) Q E s := by
  have lt : ∀ {c o}, s.heap.get? c = some o → c < s.heap.objs.size := fun e => Heap.lt_size e
  obtain ⟨a0, b0, eTO⟩ := id hTO
  obtain ⟨o1, e1, _⟩ := id h1
  obtain ⟨o2, e2, _⟩ := id h2
  obtain ⟨o3, e3, _⟩ := id hl1
  obtain ⟨o4, e4, _⟩ := id hl2
  refine callType_codes (Q₁ := fun obj s₁ => obj = .ref s.heap.objs.size ∧ s₁ = { s with heap := s.heap.push { cls := .type "list", data := .seq #[] } }) PySem.F.called_list (PySem.F.typeCall_list_1 _) PySem.F.entry_list_init
    (code_list_new _ ⟨rfl, rfl⟩) fun obj s₁ h₁ => ?_
  obtain ⟨rfl, rfl⟩ := h₁
  have hS : (s.heap.push { cls := .type "list", data := .seq #[] }).get? s.heap.objs.size = some { cls := .type "list", data := .seq #[] } := Heap.get?_push_size _ rfl
  have O : ZlOff z TI TO i1 i2 l1 l2 s.heap.objs.size := ⟨Nat.ne_of_lt (lt hz), Nat.ne_of_lt (lt hTI), Nat.ne_of_lt (lt eTO), Nat.ne_of_lt (lt e1), Nat.ne_of_lt (lt e2), Nat.ne_of_lt (lt e3), Nat.ne_of_lt (lt e4)⟩
  have oth : ∀ b o, b ≠ s.heap.objs.size → s.heap.get? b = some o → ((s.heap.push { cls := .type "list", data := .seq #[] }).update s.heap.objs.size (Obj.mapSeq (fun _ => (#[] : Array Value)))).get? b = some o :=
    fun b o hb e => (Heap.get?_update_other _ _ (Ne.symm hb)).trans (Heap.get?_push_of_some _ e)
  have st : ZlSt s.heap z TI TO i1 i2 l1 l2 s.heap.objs.size xs ys 0 := ⟨hTI, h1, h2, hl1, hl2, .inl ⟨hz, hTO⟩⟩
  refine ⟨⟨_, hS, rfl⟩, PySem.F.args_list_init_2 _ _, ?_⟩
  show wpAny _ A.in1.in1 (do let old ← Builtin.List.listItems (.ref s.heap.objs.size); Builtin.List.listUpdate (.ref s.heap.objs.size) (fun _ => #[]); letGo old.toList.reverse; Builtin.List.listExtendWith (.ref s.heap.objs.size) (.ref z) .none) _ _ _
  refine wpAny_bind ?_
  unfold Builtin.List.listItems
  refine wpAny_bind (wpAny_seqItems hS rfl (wpAny_pure ?_))
  show wpAny _ A.in1.in1 (updateSeq s.heap.objs.size (fun _ => #[]) >>= fun _ => letGo (#[] : Array Value).toList.reverse >>= fun _ => Builtin.List.listExtendWith (.ref s.heap.objs.size) (.ref z) .none) _ _ _
  refine wpAny_bind (wpAny_updateSeq hS rfl ?_)
  have hS₂ := Heap.get?_update_self (Obj.mapSeq (fun _ => (#[] : Array Value))) hS rfl
  refine wpAny_bind (wpAny_letGo ?_)
  refine zl_extend (n := n) (A := A.in1) hh D O ⟨lt hz, lt eTO, lt e1, lt e2⟩ hn hsz (oth _ _ O.z hz) ?_ .none _ hS₂ fun h' tk acc c as hk hS' hl hG hacc => ?_
  · obtain ⟨a1, a2, a3, a4, a5, a6⟩ := st
    refine ⟨oth _ _ O.TI hTI, h1.at fun u e => oth _ u O.i1 e, h2.at fun u e => oth _ u O.i2 e, hl1.at fun u e => oth _ u O.l1 e, hl2.at fun u e => oth _ u O.l2 e, .inl ⟨oth _ _ O.z hz, a0, b0, oth _ _ O.TO eTO⟩⟩
  · exact ⟨rfl, hQ h' tk acc c as (fun b o q1 q2 q3 q4 e => hk b o (Nat.ne_of_lt (lt e)) q1 q2 q3 q4 (oth b o (Nat.ne_of_lt (lt e)) e)) hS' hl hG hacc⟩
end
end Rk
namespace Rk
open PySem PySem.Spec PyProof.Rows L2
open Sem (wp)
/-- pairs laid at new places -/
def layT (H : Hp) : List (Addr × V × V) → Hp
  | [] => H
  | (t, x, y) :: r => upd (layT H r) t (.tup [x, y])
theorem layT_off {H : Hp} {b : Addr} : ∀ l : List (Addr × V × V), (∀ p ∈ l, b ≠ p.1) → layT H l b = H b
  | [], _ => rfl
  | (t, x, y) :: r, h => by
    show upd (layT H r) t (.tup [x, y]) b = H b
    rw [upd_ne (h _ List.mem_cons_self), layT_off r fun p hp => h p (List.mem_cons_of_mem _ hp)]
theorem layT_on {H : Hp} : ∀ l : List (Addr × V × V), (l.map Prod.fst).Nodup → ∀ t x y, (t, x, y) ∈ l → layT H l t = some (.tup [x, y])
  | [], _, _, _, _, h => nomatch h
  | (t0, x0, y0) :: r, n, t, x, y, h => by
    rw [List.map_cons, List.nodup_cons] at n
    show upd (layT H r) t0 (.tup [x0, y0]) t = _
    rcases List.mem_cons.mp h with e | h
    · cases e
      exact upd_same
    · rw [upd_ne (fun z => n.1 (by rw [← z]; exact List.mem_map.mpr ⟨_, h, rfl⟩)), layT_on r n.2 t x y h]
theorem layT_some {H : Hp} {b : Addr} {o : HO} : ∀ l : List (Addr × V × V), layT H l b = some o → H b = some o ∨ ∃ x y, (b, x, y) ∈ l ∧ o = .tup [x, y]
  | [], h => .inl h
  | (t, x, y) :: r, h => by
    by_cases z : b = t
    · subst z
      rw [show layT H ((b, x, y) :: r) = upd (layT H r) b (.tup [x, y]) from rfl, upd_same] at h
      exact .inr ⟨x, y, List.mem_cons_self, (Option.some.inj h).symm⟩
    · rw [show layT H ((t, x, y) :: r) = upd (layT H r) t (.tup [x, y]) from rfl, upd_ne z] at h
      rcases layT_some r h with q | ⟨x', y', q, e⟩
      · exact .inl q
      · exact .inr ⟨x', y', List.mem_cons_of_mem _ q, e⟩
def zip3 : List Addr → List V → List V → List (Addr × V × V)
  | t :: ts, x :: xs, y :: ys => (t, x, y) :: zip3 ts xs ys
  | _, _, _ => []
theorem zip3_get : ∀ (ts : List Addr) (xs ys : List V) (i : Nat) t x y, ts[i]? = some t → xs[i]? = some x → ys[i]? = some y → (t, x, y) ∈ zip3 ts xs ys
  | [], _, _, _, _, _, _, h, _, _ => by simp at h
  | _ :: _, [], _, _, _, _, _, _, h, _ => by simp at h
  | _ :: _, _ :: _, [], _, _, _, _, _, _, h => by simp at h
  | t0 :: ts, x0 :: xs, y0 :: ys, 0, t, x, y, h1, h2, h3 => by
    cases h1
    cases h2
    cases h3
    exact List.mem_cons_self
  | t0 :: ts, x0 :: xs, y0 :: ys, i + 1, t, x, y, h1, h2, h3 => List.mem_cons_of_mem _ (zip3_get ts xs ys i t x y h1 h2 h3)
theorem zip3_mem : ∀ (ts : List Addr) (xs ys : List V) t x y, (t, x, y) ∈ zip3 ts xs ys → ∃ i : Nat, ts[i]? = some t ∧ xs[i]? = some x ∧ ys[i]? = some y
  | [], _, _, _, _, _, h => by simp [zip3] at h
  | _ :: _, [], _, _, _, _, h => by simp [zip3] at h
  | _ :: _, _ :: _, [], _, _, _, h => by simp [zip3] at h
  | t0 :: ts, x0 :: xs, y0 :: ys, t, x, y, h => by
    rcases List.mem_cons.mp h with e | h
    · cases e
      exact ⟨0, rfl, rfl, rfl⟩
    · obtain ⟨i, h1, h2, h3⟩ := zip3_mem ts xs ys t x y h
      exact ⟨i + 1, h1, h2, h3⟩
theorem zip3_fst : ∀ (ts : List Addr) (xs ys : List V), ((zip3 ts xs ys).map Prod.fst).Sublist ts
  | [], _, _ => by cases ‹List V› <;> exact List.nil_sublist _
  | _ :: _, [], _ => List.nil_sublist _
  | _ :: _, _ :: _, [] => List.nil_sublist _
  | t :: ts, x :: xs, y :: ys => (zip3_fst ts xs ys).cons_cons t
def kLZ (K : PySem.W.Frag) (vs : List V) (H : Hp) (Q : VK) : Prop := ∃ (a b : Addr) (xs ys : List V), vs = [.ref a, .ref b] ∧ SqL K H a xs ∧ SqL K H b ys ∧ xs.length = ys.length ∧
  ∀ (D : Addr) (ts : List Addr) (H' : Hp), Same H H' → H D = none → H' D = some (.lst (ts.map V.ref)) → ts.length = xs.length →
    (∀ (i : Nat) t x y, ts[i]? = some t → xs[i]? = some x → ys[i]? = some y → H' t = some (.tup [x, y]) ∧ H t = none) → Q (.ref D) H'
def tLZ (K : PySem.W.Frag) (ta : TA) : TE := fun σ H Q => ta σ H fun vs H1 => kLZ K vs H1 Q
theorem vals_refs : ∀ ts : List Addr, Vals (ts.map V.ref) (ts.map Value.ref)
  | [] => .nil
  | t :: r => .cons rfl (vals_refs r)
theorem pe_listZip {X : Cx} {e e2 : Expr} {ta : TA} {p p2 pos pos2 : Pos} (hc : X.calm = true) (hgl : Gl X "list") (hml : X.mg "list" = none) (hgz : Gl X "zip") (hmz : X.mg "zip" = none) (ha : PA X [e, e2] ta)
    (hs : starEach [e, e2] X.env = (false, eval e X.env) :: starEach [e2] X.env := by rfl) (hpl : (backTo pos2 (starEach [e2] X.env)).any (·.1) = false := by rfl) :
    PE X (.Call (.Name "list" p) [.Call (.Name "zip" p2) [e, e2] [] pos2] [] pos) (tLZ X.K ta) := by
  refine ⟨fun pins s σ H Q I h => ?_⟩
  refine wpAny_Call_Name_kw (ld_blt I hgl hml (by decide +kernel : bootBuiltins "list" = some (.type "list")) ?_)
  refine PyProof.Rows.callWith_type1 ?_ rfl rfl
  show wpAny _ _ (spliced ((false, eval (.Call (.Name "zip" p2) [e, e2] [] pos2) X.env) :: backTo pos (starEach [] X.env))) _ _ s
  refine Calls.spliced_cons ?_
  refine wpAny_Call_Name_kw (ld_blt I hgz hmz PyProof.Rows.boot_zip (PyProof.Rows.callWith_type1 (thn (ha.run pos2 pins s σ H _ I h) fun us s1 ⟨vs, H1, I1, r1, q1⟩ => ?_) hs hpl))
  obtain ⟨a, b, xs, ys, ex, hqx, hqy, hlen, q⟩ := q1
  subst ex
  cases r1 with
  | cons r rr =>
    cases rr with
    | cons r' rr =>
      cases rr
      cases r
      cases r'
      obtain ⟨its, rv, p1, _⟩ := I1.list hqx
      obtain ⟨its2, rv2, p22, hz2⟩ := I1.list hqy
      have l1 := rv.length
      have l2 := rv2.length
      refine call_zip_2 p1.isList p22.isList fun h' hz hTI hTO h1 h2 hsz hk => ?_
      refine Calls.spliced_nil ?_
      have D := PySem.W.ktu_apart s1.heap.objs.size a b p1.lt p22.lt
      have I2 : Inv X pins σ H1 { s1 with heap := h' } := I1.kept (t' := s1.toks) hk
      obtain ⟨its', rv', p1', _⟩ := I2.list hqx
      obtain ⟨its2', rv2', p22', _⟩ := I2.list hqy
      have ee : its'.toArray = its.toArray := by
        obtain ⟨o, n, e, _, _, d⟩ := p1
        obtain ⟨o', n', e', _, _, d'⟩ := p1'
        rw [hk _ _ e] at e'
        cases e'
        rw [d] at d'
        injection d' with d1 _
        exact d1.symm
      have ee2 : its2'.toArray = its2.toArray := by
        obtain ⟨o, n, e, _, _, d⟩ := p22
        obtain ⟨o', n', e', _, _, d'⟩ := p22'
        rw [hk _ _ e] at e'
        cases e'
        rw [d] at d'
        injection d' with d1 _
        exact d1.symm
      refine zl_call (s := { s1 with heap := h' }) (n := min its.toArray.size its2.toArray.size) (I.ok.hd hc) D hz hTI ⟨_, _, hTO⟩ h1 h2 (by rw [← ee]; exact p1'.isList) (by rw [← ee2]; exact p22'.isList) rfl (by simp only [List.size_toArray]; omega) fun h2' tk acc c as hk2 hD hl hG hacc => ?_
      simp only [List.size_toArray] at hl
      have hsz' : h'.objs.size = s1.heap.objs.size + 5 := hsz
      have lo : s1.heap.objs.size ≤ h'.objs.size := by rw [hsz']; exact Nat.le_add_right _ _
      -- all of s1's heap is as it was
      have kp : ∀ b o, s1.heap.get? b = some o → h2'.get? b = some o := fun b o e => by
        have lt := Heap.lt_size e
        exact hk2 b o (Nat.ne_of_lt (Nat.lt_of_lt_of_le lt (Nat.le_add_right _ _))) (Nat.ne_of_lt (Nat.lt_of_lt_of_le lt (Nat.le_add_right _ _))) (Nat.ne_of_lt lt) (Nat.ne_of_lt (Nat.lt_of_lt_of_le lt (Nat.le_add_right _ _))) (hk b o e)
      have fr : ∀ b, s1.heap.objs.size ≤ b → H1 b = none := fun b hb => I1.hok.fresh hb
      have asl : ∀ t ∈ as, s1.heap.objs.size ≤ t ∧ t ≠ h'.objs.size := fun t ht => by
        have := hG.above t ht
        exact ⟨Nat.le_trans lo (Nat.le_of_lt this), Nat.ne_of_gt this⟩
      have nd : as.Nodup := hG.rise.imp fun h => Nat.ne_of_lt h
      have ndz : ((zip3 as xs ys).map Prod.fst).Nodup := (zip3_fst as xs ys).nodup nd
      have zmem : ∀ p ∈ zip3 as xs ys, p.1 ∈ as := fun p hp => (zip3_fst as xs ys).subset (List.mem_map.mpr ⟨p, hp, rfl⟩)
      let L := h'.objs.size
      let H2 : Hp := upd (layT H1 (zip3 as xs ys)) h'.objs.size (.lst (as.map V.ref))
      have old : ∀ b o, H1 b = some o → H2 b = some o := fun b o e => by
        have lt : b < s1.heap.objs.size := I1.hok.lt e
        show upd (layT H1 (zip3 as xs ys)) h'.objs.size _ b = _
        rw [upd_ne (Nat.ne_of_lt (Nat.lt_of_lt_of_le lt lo)), layT_off _ fun p hp z => ?_]
        · exact e
        · have := (asl _ (zmem p hp)).1
          rw [← z] at this
          exact absurd (Nat.lt_of_lt_of_le lt this) (Nat.lt_irrefl _)
      have onT : ∀ (i : Nat) t x y, as[i]? = some t → xs[i]? = some x → ys[i]? = some y → H2 t = some (.tup [x, y]) := fun i t x y e1 e2 e3 => by
        show upd (layT H1 (zip3 as xs ys)) h'.objs.size _ t = _
        rw [upd_ne (asl t (List.mem_of_getElem? e1)).2]
        exact layT_on _ ndz t x y (zip3_get as xs ys i t x y e1 e2 e3)
      have hok2 : HOk X.prog X.w H2 h2' := by
        intro b o e
        by_cases hb : b = h'.objs.size
        · subst hb
          have e' : o = .lst (as.map V.ref) := by
            have : H2 h'.objs.size = some (.lst (as.map V.ref)) := upd_same
            rw [this] at e
            exact (Option.some.inj e).symm
          subst e'
          refine ⟨?_, as.map Value.ref, c, vals_refs as, ?_⟩
          · rw [List.length_map]
            omega
          · rw [← hacc, Array.toArray_toList]
            exact hD
        · have e2 : layT H1 (zip3 as xs ys) b = some o := by
            have z : H2 b = layT H1 (zip3 as xs ys) b := upd_ne hb
            rw [← z]
            exact e
          rcases layT_some _ e2 with q1 | ⟨x, y, q1, rfl⟩
          · have ok := I1.hok b o q1
            refine ok.stay (fun c v _ q => kp c v q) (fun c q => old c _ q) fun c zs q => old c _ q
          · obtain ⟨i, i1, i2, i3⟩ := zip3_mem _ _ _ _ _ _ q1
            obtain ⟨u, u2, hu, hu2, e3⟩ := hG.pairs i b i1
            obtain ⟨v, hv, rv3⟩ := rv.get i2
            obtain ⟨v2, hv2, rv4⟩ := rv2.get i3
            have c1 : u = v := by
              simp only [List.getElem?_toArray] at hu
              rw [hv] at hu
              exact (Option.some.inj hu).symm
            have c2 : u2 = v2 := by
              simp only [List.getElem?_toArray] at hu2
              rw [hv2] at hu2
              exact (Option.some.inj hu2).symm
            subst c1
            subst c2
            exact ⟨by show 2 ≤ sizeLine; decide, [u, u2], .cons rv3 (.cons rv4 .nil), ⟨_, e3, rfl, _, rfl⟩⟩
      have un : Un X.fs [] H1 H2 s1.heap h2' := {
        keep := fun b o e _ _ _ => kp b o e
        slot := fun b o e _ _ _ => ⟨o.slots, kp b o e⟩
        free := fun b o e n _ => by
          have lt := Heap.lt_size e
          show upd (layT H1 (zip3 as xs ys)) h'.objs.size _ b = none
          rw [upd_ne (Nat.ne_of_lt (Nat.lt_of_lt_of_le lt lo)), layT_off _ fun p hp z => ?_]
          · exact n
          · have := (asl _ (zmem p hp)).1
            rw [← z] at this
            exact absurd (Nat.lt_of_lt_of_le lt this) (Nat.lt_irrefl _)
        there := fun b o e _ => ⟨o, kp b o e⟩
        tups := fun b zs e => old b _ e
        frzs := fun b o u e => old b _ e
        tbls := fun b ps e => ⟨#[], by rw [old b _ e]; simp⟩ }
      have I3 : Inv X pins σ H2 { s1 with heap := h2', toks := tk } := I1.un un hok2
      refine ⟨.ref h'.objs.size, H2, I3, rfl, q h'.objs.size as H2 old (fr _ lo) upd_same (by omega) fun i t x y e1 e2 e3 => ⟨onT i t x y e1 e2 e3, fr _ (asl t (List.mem_of_getElem? e1)).1⟩⟩

/-! ### max, min of a pair -/
section
variable {prog : Program} {w : World} {A : Around} {E : Value → Shared → Prop} {s : Shared}
theorem max_pair {T : Addr} {a b : Int} {t u : Tok} {Q : Value → Shared → Prop} (hh : A.handled = none) (hT : s.heap.IsTuple T #[.int a t, .int b u])
    (h : ∀ h' tk, (∀ c o, s.heap.get? c = some o → h'.get? c = some o) → Q (if b > a then .int b u else .int a t) { s with heap := h', toks := tk }) :
    wpAny (model prog w) A (call (.builtin "max") [.ref T]) Q E s := by
  have hT2 : s.heap.IsTuple T (intItems #[(a, t), (b, u)]) := by
    have : intItems #[(a, t), (b, u)] = #[.int a t, .int b u] := by simp [intItems]
    rw [this]
    exact hT
  obtain ⟨oT, eT, _⟩ := id hT
  have ne : T ≠ s.heap.objs.size := Nat.ne_of_lt (Heap.lt_size eT)
  refine call_max_walk (wpAny_pyIter_tuple hT2 ?_)
  refine ⟨_, [_, T], [_], _, _, _, _, rfl, Walks.tuple (A := A.in1) hh _ T ne (intItems #[(a, t), (b, u)]),
    ⟨⟨_, Heap.get?_push_size _ rfl, rfl, rfl⟩, hT2.push _⟩, fun c hc => ?_, by simp [intItems], CmpOf.ints_gt (numAt #[(a, t), (b, u)]) (fun _ _ => intItems_at), fun v h' tk hP hk => ?_⟩
  · show c < (s.heap.push _).objs.size
    rw [Heap.size_push]
    rcases List.mem_cons.mp hc with rfl | hc
    · exact Nat.lt_succ_self _
    · rcases List.mem_cons.mp hc with rfl | hc
      · exact Nat.lt_succ_of_lt (Heap.lt_size eT)
      · cases hc
  · have hold : ∀ c o, s.heap.get? c = some o → h'.get? c = some o := fun c o e => by
      refine hk c o (fun hm => ?_) (Heap.get?_push_of_some _ e)
      rcases List.mem_cons.mp hm with e1 | hm
      · have := Heap.lt_size e; rw [e1] at this; exact Nat.lt_irrefl _ this
      · cases hm
    have := h h' tk hold
    have hv : v = if b > a then Value.int b u else Value.int a t := by
      have hP' : (intItems #[(a, t), (b, u)])[argBest (fun i j => decide (numAt #[(a, t), (b, u)] i > numAt #[(a, t), (b, u)] j)) 1]? = some v := by
        have hsz2 : (intItems #[(a, t), (b, u)]).size - 1 = 1 := by simp [intItems]
        rw [← hsz2]; exact hP
      by_cases hba : b > a
      · have e : argBest (fun i j => decide (numAt #[(a, t), (b, u)] i > numAt #[(a, t), (b, u)] j)) 1 = 1 := by simp [argBest, numAt, hba]
        rw [e] at hP'
        simpa [intItems, hba] using hP'.symm
      · have e : argBest (fun i j => decide (numAt #[(a, t), (b, u)] i > numAt #[(a, t), (b, u)] j)) 1 = 0 := by simp [argBest, numAt, hba]
        rw [e] at hP'
        simpa [intItems, hba] using hP'.symm
    rw [hv]; exact this
theorem min_pair {T : Addr} {a b : Int} {t u : Tok} {Q : Value → Shared → Prop} (hh : A.handled = none) (hT : s.heap.IsTuple T #[.int a t, .int b u])
    (h : ∀ h' tk, (∀ c o, s.heap.get? c = some o → h'.get? c = some o) → Q (if b < a then .int b u else .int a t) { s with heap := h', toks := tk }) :
    wpAny (model prog w) A (call (.builtin "min") [.ref T]) Q E s := by
  have hT2 : s.heap.IsTuple T (intItems #[(a, t), (b, u)]) := by
    have : intItems #[(a, t), (b, u)] = #[.int a t, .int b u] := by simp [intItems]
    rw [this]
    exact hT
  obtain ⟨oT, eT, _⟩ := id hT
  have ne : T ≠ s.heap.objs.size := Nat.ne_of_lt (Heap.lt_size eT)
  refine call_min_walk (wpAny_pyIter_tuple hT2 ?_)
  refine ⟨_, [_, T], [_], _, _, _, _, rfl, Walks.tuple (A := A.in1) hh _ T ne (intItems #[(a, t), (b, u)]),
    ⟨⟨_, Heap.get?_push_size _ rfl, rfl, rfl⟩, hT2.push _⟩, fun c hc => ?_, by simp [intItems], CmpOf.ints_lt (numAt #[(a, t), (b, u)]) (fun _ _ => intItems_at), fun v h' tk hP hk => ?_⟩
  · show c < (s.heap.push _).objs.size
    rw [Heap.size_push]
    rcases List.mem_cons.mp hc with rfl | hc
    · exact Nat.lt_succ_self _
    · rcases List.mem_cons.mp hc with rfl | hc
      · exact Nat.lt_succ_of_lt (Heap.lt_size eT)
      · cases hc
  · have hold : ∀ c o, s.heap.get? c = some o → h'.get? c = some o := fun c o e => by
      refine hk c o (fun hm => ?_) (Heap.get?_push_of_some _ e)
      rcases List.mem_cons.mp hm with e1 | hm
      · have := Heap.lt_size e; rw [e1] at this; exact Nat.lt_irrefl _ this
      · cases hm
    have := h h' tk hold
    have hv : v = if b < a then Value.int b u else Value.int a t := by
      have hP' : (intItems #[(a, t), (b, u)])[argBest (fun i j => decide (numAt #[(a, t), (b, u)] i < numAt #[(a, t), (b, u)] j)) 1]? = some v := by
        have hsz2 : (intItems #[(a, t), (b, u)]).size - 1 = 1 := by simp [intItems]
        rw [← hsz2]; exact hP
      by_cases hba : b < a
      · have e : argBest (fun i j => decide (numAt #[(a, t), (b, u)] i < numAt #[(a, t), (b, u)] j)) 1 = 1 := by simp [argBest, numAt, hba]
        rw [e] at hP'
        simpa [intItems, hba] using hP'.symm
      · have e : argBest (fun i j => decide (numAt #[(a, t), (b, u)] i < numAt #[(a, t), (b, u)] j)) 1 = 0 := by simp [argBest, numAt, hba]
        rw [e] at hP'
        simpa [intItems, hba] using hP'.symm
    rw [hv]; exact this
end
section
variable {X : Cx}
def rMaxP (K : PySem.W.Frag) : List V → Hp → VK → Prop := fun vs H Q => ∃ (a : Addr) (i j : Int), vs = [.ref a] ∧ SqT K H a [.int i, .int j] ∧ Q (.int (if j > i then j else i)) H
def rMinP (K : PySem.W.Frag) : List V → Hp → VK → Prop := fun vs H Q => ∃ (a : Addr) (i j : Int), vs = [.ref a] ∧ SqT K H a [.int i, .int j] ∧ Q (.int (if j < i then j else i)) H
theorem cr_maxP (hc : X.calm = true) : CallR X (.builtin "max") (rMaxP X.K) := by
  intro pins s σ H vs us Q I r h
  obtain ⟨a, i, j, rfl, hs, q⟩ := h
  obtain ⟨its, rv, hl, _⟩ := I.tuple hs
  rw [Vals.ref1 r]
  obtain ⟨u1, u2, rfl, ⟨t, rfl⟩, ⟨t2, rfl⟩⟩ := vals2 rv
  obtain ⟨o, ho, hcl, n, hd⟩ := hl
  refine max_pair (I.ok.hd hc) ⟨o, ho, hcl, n, hd⟩ fun h' tk k => ⟨_, H, I.kept k, ?_, q⟩
  by_cases hj : j > i
  · rw [if_pos hj, if_pos hj]; exact ⟨_, rfl⟩
  · rw [if_neg hj, if_neg hj]; exact ⟨_, rfl⟩
theorem cr_minP (hc : X.calm = true) : CallR X (.builtin "min") (rMinP X.K) := by
  intro pins s σ H vs us Q I r h
  obtain ⟨a, i, j, rfl, hs, q⟩ := h
  obtain ⟨its, rv, hl, _⟩ := I.tuple hs
  rw [Vals.ref1 r]
  obtain ⟨u1, u2, rfl, ⟨t, rfl⟩, ⟨t2, rfl⟩⟩ := vals2 rv
  obtain ⟨o, ho, hcl, n, hd⟩ := hl
  refine min_pair (I.ok.hd hc) ⟨o, ho, hcl, n, hd⟩ fun h' tk k => ⟨_, H, I.kept k, ?_, q⟩
  by_cases hj : j < i
  · rw [if_pos hj, if_pos hj]; exact ⟨_, rfl⟩
  · rw [if_neg hj, if_neg hj]; exact ⟨_, rfl⟩
/-- the same, inside a comprehension -/
theorem cr_maxK {K : PySem.W.Frag} (hK : X.K = K) (hc : X.calm = true) : CallR X (.builtin "max") (rMaxP K) := by
  subst hK
  exact cr_maxP hc
theorem cr_minK {K : PySem.W.Frag} (hK : X.K = K) (hc : X.calm = true) : CallR X (.builtin "min") (rMinP K) := by
  subst hK
  exact cr_minP hc
end
end Rk
namespace Rk
open PySem PySem.Spec PyProof.Rows L2

/-! ### what repr shows: small data -/
structure Sh (d : PyData) (n k : Nat) : Prop where
  s : d.showable = true
  h : d.hasDict = false
  p : d.depth ≤ k
  l : d.shown.length ≤ n
theorem Sh.non : Sh .none 4 0 := ⟨rfl, rfl, by simp [PyData.depth], by decide +kernel⟩
theorem Sh.bl (b : Bool) : Sh (.bool b) 5 0 := ⟨rfl, rfl, by simp [PyData.depth], by cases b <;> decide +kernel⟩
theorem Sh.int {i : Int} (h : i.natAbs < 2 ^ 600) : Sh (.int i) 700 0 := by
  have q := PySem.Flt.log2_lt_of (by decide : 0 < 600) h
  refine ⟨decide_eq_true (by omega), rfl, by simp [PyData.depth], ?_⟩
  have e := int_text_length_le (k := 600) (by decide) q
  show (Str.ofString (toString i)).length ≤ 700
  rw [PySem.ofString_length]
  omega
theorem Sh.mono {d : PyData} {n k n' k' : Nat} (x : Sh d n k) (h : n ≤ n') (h' : k ≤ k') : Sh d n' k' := ⟨x.s, x.h, Nat.le_trans x.p h', Nat.le_trans x.l h⟩
theorem sh_all {n k : Nat} : ∀ ds : List PyData, (∀ d ∈ ds, Sh d n k) → PyData.showableAll ds = true ∧ PyData.hasDictAll ds = false ∧ PyData.depthAll ds ≤ k ∧ ((PyData.shownAll ds).map (·.length)).sum ≤ ds.length * n ∧ (PyData.shownAll ds).length = ds.length
  | [], _ => ⟨rfl, rfl, by simp [PyData.depthAll], by simp [PyData.shownAll], rfl⟩
  | d :: r, h => by
    obtain ⟨a1, a2, a3, a4, a5⟩ := sh_all r fun x hx => h x (List.mem_cons_of_mem _ hx)
    have x := h d List.mem_cons_self
    have x3 := x.p
    have x4 := x.l
    refine ⟨?_, ?_, ?_, ?_, ?_⟩
    · show (PyData.showable d && PyData.showableAll r) = true
      rw [x.s, a1]
      rfl
    · show (PyData.hasDict d || PyData.hasDictAll r) = false
      rw [x.h, a2]
      rfl
    · show max (PyData.depth d) (PyData.depthAll r) ≤ k
      omega
    · show (PyData.shown d).length + ((PyData.shownAll r).map (·.length)).sum ≤ (r.length + 1) * n
      rw [Nat.succ_mul]
      omega
    · show (PyData.shownAll r).length + 1 = r.length + 1
      omega
theorem Sh.list {n k : Nat} {ds : List PyData} (h : ∀ d ∈ ds, Sh d n k) : Sh (.list ds) (ds.length * n + 2 * ds.length + 3) (k + 1) := by
  obtain ⟨a1, a2, a3, a4, a5⟩ := sh_all ds h
  refine ⟨a1, a2, ?_, ?_⟩
  · show PyData.depthAll ds + 1 ≤ k + 1
    omega
  · have e := listText_len_le (PyData.shownAll ds)
    show (listText (PyData.shownAll ds)).length ≤ _
    omega
theorem Sh.tup {n k : Nat} {ds : List PyData} (h : ∀ d ∈ ds, Sh d n k) : Sh (.tuple ds) (ds.length * n + 2 * ds.length + 3) (k + 1) := by
  obtain ⟨a1, a2, a3, a4, a5⟩ := sh_all ds h
  refine ⟨a1, a2, ?_, ?_⟩
  · show PyData.depthAll ds + 1 ≤ k + 1
    omega
  · have e := tupleText_len_le (PyData.shownAll ds)
    show (tupleText (PyData.shownAll ds)).length ≤ _
    omega
theorem Sh.ok {d : PyData} {n k : Nat} (x : Sh d n k) (h : n ≤ 1000000) (h' : k ≤ 60) : d.showable = true ∧ d.hasDict = false ∧ d.depth ≤ 60 ∧ d.shown.length ≤ sizeLine := by
  have l := x.l
  refine ⟨x.s, x.h, Nat.le_trans x.p h', ?_⟩
  rw [sizeLine_eq]
  omega
theorem sh_life {x : Option Int} (hx : ∀ i, x = some i → i.natAbs < 2 ^ 600) : Sh (dO x) 700 0 := by
  cases x with
  | none => exact Sh.non.mono (by decide) (Nat.le_refl _)
  | some i => exact Sh.int (hx i rfl)
theorem sh_lives {ls : List (Option Int)} (h : ∀ x ∈ ls, ∀ i, x = some i → i.natAbs < 2 ^ 600) (hl : ls.length ≤ 100) : Sh (dLs ls) 71000 1 := by
  have q : Sh (dLs ls) _ 1 := Sh.tup (n := 700) (k := 0) fun d hd => by
    obtain ⟨x, hx, rfl⟩ := List.mem_map.mp hd
    exact sh_life (h x hx)
  refine q.mono ?_ (Nat.le_refl _)
  rw [List.length_map]
  omega
theorem sh_two {d e : PyData} (x : Sh d 71000 1) (y : Sh e 71000 1) : Sh (.list [d, e]) 150000 2 := by
  have q : Sh (.list [d, e]) _ 2 := Sh.list (n := 71000) (k := 1) fun z hz => by
    rcases List.mem_cons.mp hz with rfl | hz
    · exact x
    · rw [List.mem_singleton.mp hz]
      exact y
  exact q.mono (show 2 * 71000 + 2 * 2 + 3 ≤ 150000 by decide) (Nat.le_refl _)
/-! ### lives: bounds, beyond, joined -/
def Bd (x : Option Int) : Prop := ∀ i, x = some i → 0 ≤ i ∧ i ≤ 2 * 10 ^ 18
set_option exponentiation.threshold 2000 in
theorem Bd.small {x : Option Int} (b : Bd x) : ∀ i, x = some i → i.natAbs < 2 ^ 600 := fun i e => by
  have := b i e
  exact Nat.lt_of_le_of_lt (show i.natAbs ≤ 2 * 10 ^ 18 by omega) (Nat.lt_of_lt_of_le (show 2 * 10 ^ 18 < 2 ^ 100 by decide) (Nat.pow_le_pow_right (by decide) (by decide)))
theorem lifeAt_mem {ls : List (Option Int)} (h0 : 0 < ls.length) (i : Nat) : lifeAt ls i ∈ ls := by
  by_cases h : i < ls.length
  · rw [lifeAt_lt (List.getElem?_eq_getElem h)]
    exact List.getElem_mem h
  · rw [lifeAt_const h0 i (by omega), lifeAt_lt (List.getElem?_eq_getElem (by omega))]
    exact List.getElem_mem _
theorem Good.bd {ls : List (Option Int)} (g : Good ls) : ∀ x ∈ ls, ∀ i, x = some i → 0 ≤ i ∧ i ≤ 10 ^ 18 := by
  obtain ⟨is, l, rfl, h1, h2⟩ := g.init
  intro x hx i e
  rcases List.mem_append.mp hx with h | h
  · obtain ⟨j, hj, rfl⟩ := List.mem_map.mp h
    cases e
    exact h1 i hj
  · rw [List.mem_singleton.mp h] at e
    exact h2 i e
theorem Good.at {ls : List (Option Int)} (g : Good ls) (i : Nat) : ∀ v, lifeAt ls i = some v → 0 ≤ v ∧ v ≤ 10 ^ 18 := g.bd _ (lifeAt_mem g.pos i)
theorem Bd.of {x : Option Int} (h : ∀ v, x = some v → 0 ≤ v ∧ v ≤ (10 : Int) ^ 18) : Bd x := fun i e => by have := h i e; omega
theorem bd_max {x y : Option Int} (a : Bd x) (b : Bd y) : Bd (maxO x y) := by
  unfold maxO
  split
  · exact b
  · exact a
theorem bd_min {x y : Option Int} (a : Bd x) (b : Bd y) : Bd (minO x y) := by
  unfold minO
  split
  · exact a
  · exact b
theorem bd_add {x : Option Int} {n : Int} (h : ∀ v, x = some v → 0 ≤ v ∧ v ≤ (10 : Int) ^ 18) (h0 : 0 ≤ n) (h1 : n ≤ 10 ^ 18) : Bd (addO n x) := fun i e => by
  cases x with
  | none => cases e
  | some v =>
    have := h v rfl
    cases e
    show 0 ≤ v + n ∧ v + n ≤ 2 * 10 ^ 18
    omega
/-- as lives are compared, and back -/
def bakO (n : Int) : Option Int := if n ≥ 10 ^ 30 then none else some n
theorem bak_wid {x : Option Int} (b : Bd x) : bakO (wid x) = x := by
  cases x with
  | none => exact if_pos (Int.le_refl _)
  | some i =>
    have := b i rfl
    exact if_neg (show ¬ i ≥ 10 ^ 30 by omega)
theorem wid_max {x y : Option Int} (a : Bd x) (b : Bd y) : (if wid y > wid x then wid y else wid x) = wid (maxO x y) := by
  cases x with
  | none =>
    cases y with
    | none => rfl
    | some j =>
      have := b j rfl
      show (if j > 10 ^ 30 then j else (10 : Int) ^ 30) = 10 ^ 30
      rw [if_neg (by omega)]
  | some i =>
    have := a i rfl
    cases y with
    | none =>
      show (if (10 : Int) ^ 30 > i then (10 : Int) ^ 30 else i) = 10 ^ 30
      rw [if_pos (by omega)]
    | some j =>
      by_cases h : i ≤ j
      · have e : maxO (some i) (some j) = some j := if_pos (decide_eq_true h)
        rw [e]
        show (if j > i then j else i) = j
        split <;> omega
      · have e : maxO (some i) (some j) = some i := if_neg (fun z => h (of_decide_eq_true z))
        rw [e]
        show (if j > i then j else i) = i
        rw [if_neg (by omega)]
theorem wid_min {x y : Option Int} (a : Bd x) (b : Bd y) : (if wid y < wid x then wid y else wid x) = wid (minO x y) := by
  cases x with
  | none =>
    cases y with
    | none => rfl
    | some j =>
      have := b j rfl
      show (if j < 10 ^ 30 then j else (10 : Int) ^ 30) = j
      rw [if_pos (by omega)]
  | some i =>
    have := a i rfl
    cases y with
    | none =>
      show (if (10 : Int) ^ 30 < i then (10 : Int) ^ 30 else i) = i
      rw [if_neg (by omega)]
    | some j =>
      by_cases h : i ≤ j
      · have e : minO (some i) (some j) = some i := if_pos (decide_eq_true h)
        rw [e]
        show (if j < i then j else i) = i
        rw [if_neg (by omega)]
      · have e : minO (some i) (some j) = some j := if_neg (fun z => h (of_decide_eq_true z))
        rw [e]
        show (if j < i then j else i) = j
        rw [if_pos (by omega)]
theorem wid_le {x y : Option Int} (a : Bd x) (b : Bd y) : decide (wid x ≤ wid y) = leO x y := by
  cases x with
  | none =>
    cases y with
    | none => exact decide_eq_true (Int.le_refl _)
    | some j =>
      have := b j rfl
      show decide ((10 : Int) ^ 30 ≤ j) = false
      exact decide_eq_false (by omega)
  | some i =>
    have := a i rfl
    cases y with
    | none =>
      show decide (i ≤ (10 : Int) ^ 30) = true
      exact decide_eq_true (by omega)
    | some j => rfl
theorem wid_add {x : Option Int} {n : Int} (b : Bd x) : (if wid x < 10 ^ 30 then wid x + n else wid x) = wid (addO n x) := by
  cases x with
  | none => exact if_neg (Int.lt_irrefl _)
  | some i =>
    have := b i rfl
    exact if_pos (show i < 10 ^ 30 by omega)
theorem lifeAt_far {ls : List (Option Int)} (h0 : 0 < ls.length) {N k : Nat} (h : ls.length ≤ N) (hk : N ≤ k) : lifeAt ls k = lifeAt ls (N - 1) := by
  rw [lifeAt_const h0 k (by omega)]
  by_cases z : N - 1 < ls.length
  · have e : N - 1 = ls.length - 1 := by omega
    rw [e]
  · rw [lifeAt_const h0 (N - 1) (by omega)]
theorem short_join {ls ms : List (Option Int)} (g : Option Int → Option Int → Option Int) (h0 : 0 < ls.length) (h1 : 0 < ms.length) (h2 : ls.length ≤ 65) (h3 : ms.length ≤ 65) :
    short (rows (fun i => g (lifeAt (short ls) i) (lifeAt (short ms) i)) (max (short ls).length (short ms).length)) = short (rows (fun i => g (lifeAt ls i) (lifeAt ms i)) 65) := by
  have p0 := short_len_pos h0
  have p1 := short_len_pos h1
  have q0 := short_len_le ls
  have q1 := short_len_le ms
  have e : (fun i => g (lifeAt (short ls) i) (lifeAt (short ms) i)) = fun i => g (lifeAt ls i) (lifeAt ms i) := by
    funext i
    rw [lifeAt_short h0, lifeAt_short h1]
  rw [← e]
  refine (short_any _ (by omega) (fun k hk => ?_) (by omega)).symm
  show g (lifeAt (short ls) k) (lifeAt (short ms) k) = g (lifeAt (short ls) _) (lifeAt (short ms) _)
  rw [lifeAt_far p0 (Nat.le_max_left _ _) hk, lifeAt_far p1 (Nat.le_max_right _ _) hk]
theorem rows_map (f : Option Int → Option Int) (g : Nat → Option Int) (n : Nat) : (rows g n).map f = rows (fun i => f (g i)) n := by
  unfold rows
  rw [List.map_map]
  rfl
theorem short_add {ls : List (Option Int)} (n : Int) (h0 : 0 < ls.length) (h2 : ls.length ≤ 65) : short ((short ls).map (addO n)) = short (rows (fun i => addO n (lifeAt ls i)) 65) := by
  have p0 := short_len_pos h0
  have q0 := short_len_le ls
  have e : (short ls).map (addO n) = rows (fun i => addO n (lifeAt ls i)) (short ls).length := by
    conv => lhs; rw [← rows_lifeAt (short ls)]
    rw [rows_map]
    congr 1
    funext i
    rw [lifeAt_short h0]
  rw [e]
  refine (short_any _ p0 (fun k hk => ?_) (by omega)).symm
  show addO n (lifeAt ls k) = addO n (lifeAt ls _)
  rw [← lifeAt_short h0 k, ← lifeAt_short h0 ((short ls).length - 1), lifeAt_far p0 (Nat.le_refl _) hk]
theorem short_short {ls : List (Option Int)} (h0 : 0 < ls.length) : short (short ls) = short ls := by
  have p0 := short_len_pos h0
  have q0 := short_len_le ls
  have e : short ls = rows (lifeAt ls) (short ls).length := by
    conv => lhs; rw [← rows_lifeAt (short ls)]
    congr 1
    funext i
    rw [lifeAt_short h0]
  have e2 : short (rows (lifeAt ls) ls.length) = short (rows (lifeAt ls) (short ls).length) := short_any _ p0 (fun k hk => by
    rw [← lifeAt_short h0 k, ← lifeAt_short h0 ((short ls).length - 1), lifeAt_far p0 (Nat.le_refl _) hk]) q0
  rw [rows_lifeAt ls] at e2
  rw [← e] at e2
  exact e2.symm
theorem addO_zero (ls : List (Option Int)) : ls.map (addO 0) = ls := by
  have e : addO 0 = id := by
    funext x
    cases x with
    | none => rfl
    | some i => exact congrArg some (Int.add_zero i)
  rw [e, List.map_id]
theorem maxO_comm {x y : Option Int} : maxO x y = maxO y x := by
  unfold maxO
  cases x with
  | none => cases y <;> rfl
  | some i =>
    cases y with
    | none => rfl
    | some j =>
      show (if decide (i ≤ j) = true then some j else some i) = if decide (j ≤ i) = true then some i else some j
      by_cases h : i ≤ j
      · rw [if_pos (decide_eq_true h)]
        by_cases h2 : j ≤ i
        · rw [if_pos (decide_eq_true h2)]
          congr 1
          omega
        · rw [if_neg (fun z => h2 (of_decide_eq_true z))]
      · rw [if_neg (fun z => h (of_decide_eq_true z)), if_pos (decide_eq_true (by omega))]
theorem minO_comm {x y : Option Int} : minO x y = minO y x := by
  unfold minO
  cases x with
  | none => cases y <;> rfl
  | some i =>
    cases y with
    | none => rfl
    | some j =>
      show (if decide (i ≤ j) = true then some i else some j) = if decide (j ≤ i) = true then some j else some i
      by_cases h : i ≤ j
      · rw [if_pos (decide_eq_true h)]
        by_cases h2 : j ≤ i
        · rw [if_pos (decide_eq_true h2)]
          congr 1
          omega
        · rw [if_neg (fun z => h2 (of_decide_eq_true z))]
      · rw [if_neg (fun z => h (of_decide_eq_true z)), if_pos (decide_eq_true (by omega))]
theorem all_far {p : Nat → Bool} {N M : Nat} (h : N ≤ M) (h0 : 0 < N) (far : ∀ k, N ≤ k → p k = p (N - 1)) : (List.range N).all p = (List.range M).all p := by
  rw [Bool.eq_iff_iff, List.all_eq_true, List.all_eq_true]
  constructor
  · intro q k hk
    by_cases z : k < N
    · exact q k (List.mem_range.mpr z)
    · rw [far k (by omega)]
      exact q _ (List.mem_range.mpr (by omega))
  · intro q k hk
    exact q k (List.mem_range.mpr (by have := List.mem_range.mp hk; omega))
theorem le_all {ls ms : List (Option Int)} (h0 : 0 < ls.length) (h1 : 0 < ms.length) (h2 : ls.length ≤ 65) (h3 : ms.length ≤ 65) :
    ((List.range (max (short ls).length (short ms).length)).all fun i => leO (lifeAt (short ls) i) (lifeAt (short ms) i)) = (List.range 65).all fun i => leO (lifeAt ls i) (lifeAt ms i) := by
  have p0 := short_len_pos h0
  have p1 := short_len_pos h1
  have q0 := short_len_le ls
  have q1 := short_len_le ms
  have e : (fun i => leO (lifeAt (short ls) i) (lifeAt (short ms) i)) = fun i => leO (lifeAt ls i) (lifeAt ms i) := by
    funext i
    rw [lifeAt_short h0, lifeAt_short h1]
  rw [← e]
  refine all_far (by omega) (by omega) fun k hk => ?_
  show leO (lifeAt (short ls) k) (lifeAt (short ms) k) = leO (lifeAt (short ls) _) (lifeAt (short ms) _)
  rw [lifeAt_far p0 (Nat.le_max_left _ _) hk, lifeAt_far p1 (Nat.le_max_right _ _) hk]
theorem short_sub {ls : List (Option Int)} {x : Option Int} (h : x ∈ short ls) : x ∈ ls := List.mem_of_mem_take h
theorem rows_mem {g : Nat → Option Int} {n : Nat} {x : Option Int} (h : x ∈ rows g n) : ∃ i, x = g i := by
  obtain ⟨i, _, rfl⟩ := List.mem_map.mp h
  exact ⟨i, rfl⟩
end Rk
namespace Rk
open PySem PySem.Spec PyProof.Rows L2

/-! ### tuples that the heap holds: their slices and sums -/
section
variable {X : Cx}
def rCatH : R2 := fun x y H Q => ∃ (a b : Addr) (xs ys : List V), x = .ref a ∧ y = .ref b ∧ H a = some (.tup xs) ∧ H b = some (.tup ys) ∧ xs.length + ys.length ≤ sizeLine ∧
  ∀ r H', Same H H' → H' r = some (.tup (xs ++ ys)) → Q (.ref r) H'
theorem op_catH : OpR X (binaryOp .Add) rCatH := by
  intro pins s σ H x y v u Q I rx ry h
  obtain ⟨a, b, xs, ys, ex, ey, ha, hb, hz, q⟩ := h
  refine op_catA pins s σ H x y v u Q I rx ry ⟨a, b, xs, ys, ex, ey, SqT.of ha, SqT.of hb, hz, fun z => ?_, fun _ z => ?_, fun _ _ p hp => ?_⟩
  · refine q b H (Same.refl _) ?_
    rw [z, List.nil_append]
    exact hb
  · refine q a H (Same.refl _) ?_
    rw [z, List.append_nil]
    exact ha
  · exact q p _ (same_upd hp) upd_same
def rSlH : V → Option Int → Option Int → Hp → VK → Prop := fun x lo hi H Q => ∃ (a : Addr) (xs : List V), x = .ref a ∧ H a = some (.tup xs) ∧
  ∀ r H', Same H H' → H' r = some (.tup (cutV xs lo hi)) → Q (.ref r) H'
theorem sl_tupH : SlR X rSlH := by
  intro pins s σ H x v vl vu lo hi sl Q I rx hs pl pu h
  obtain ⟨a, xs, e, hx, q⟩ := h
  refine sl_tupB pins s σ H x v vl vu lo hi sl Q I rx hs pl pu ⟨a, xs, e, SqT.of hx, fun r H' z => q r H' (rSlB_same z) ?_⟩
  rcases z with ⟨e1, e2, e3⟩ | ⟨n, e⟩
  · rw [e1, e2, e3]
    exact hx
  · rw [e]
    exact upd_same
end
/-! ### the least rank that is old enough -/
def idx : Nat → List (Option Int) → Int → Option Nat
  | _, [], _ => none
  | j, l :: r, a => if leO (some (a + 2 ^ j)) l = true then some j else idx (j + 1) r a
def gapO : Option Nat → Option Int
  | none => none
  | some j => some (2 ^ j - 1)
theorem due_idx (a : Int) : ∀ (ls : List (Option Int)) (j : Nat), due j ls a = gapO (idx j ls a)
  | [], _ => rfl
  | l :: r, j => by
    show (if leO (some (a + 2 ^ j)) l = true then some (2 ^ j - 1) else due (j + 1) r a) = gapO (if leO (some (a + 2 ^ j)) l = true then some j else idx (j + 1) r a)
    by_cases h : leO (some (a + 2 ^ j)) l = true
    · rw [if_pos h, if_pos h]
      rfl
    · rw [if_neg h, if_neg h]
      exact due_idx a r (j + 1)
theorem idx_lt {a : Int} : ∀ (ls : List (Option Int)) (j k : Nat), idx j ls a = some k → k < j + ls.length
  | [], _, _, h => by cases h
  | l :: r, j, k, h => by
    have h' : (if leO (some (a + 2 ^ j)) l = true then some j else idx (j + 1) r a) = some k := h
    by_cases hc : leO (some (a + 2 ^ j)) l = true
    · rw [if_pos hc] at h'
      have := Option.some.inj h'
      simp
      omega
    · rw [if_neg hc] at h'
      have := idx_lt r (j + 1) k h'
      simp
      omega
def lvN : Option Nat → V
  | none => .non
  | some j => .int (j : Nat)
theorem drop_cons {α : Type} {ls : List α} {i : Nat} {l : α} (h : ls[i]? = some l) : ls.drop i = l :: ls.drop (i + 1) := by
  have hi := (List.getElem?_eq_some_iff.mp h).1
  rw [List.drop_eq_getElem_cons hi, (List.getElem?_eq_some_iff.mp h).2]
theorem b01 (k : Bool) : -(2 ^ 64) < (if k = true then (1 : Int) else 0) ∧ (if k = true then (1 : Int) else 0) < 2 ^ 64 := by cases k <;> decide
theorem pow2_natAbs (j : Nat) : ((2 : Int) ^ j).natAbs = 2 ^ j := by rw [Int.natAbs_pow]; rfl
theorem pow2_pos (j : Nat) : (0 : Int) < 2 ^ j := Int.pow_pos (by decide)
theorem pow2_le {j k : Nat} (h : j ≤ k) : (2 : Int) ^ j ≤ 2 ^ k := by
  have h1 : (2 : Nat) ^ j ≤ 2 ^ k := Nat.pow_le_pow_right (by decide) h
  have h2 : ((2 ^ j : Nat) : Int) = (2 : Int) ^ j := by rw [Int.natCast_pow]; rfl
  have h3 : ((2 ^ k : Nat) : Int) = (2 : Int) ^ k := by rw [Int.natCast_pow]; rfl
  omega
/-- bounded from both sides -/
theorem small600 {x : Int} (h0 : -(10 ^ 40) ≤ x) (h1 : x ≤ 10 ^ 40) : x.natAbs < 2 ^ 600 := Nat.lt_of_le_of_lt (show x.natAbs ≤ 10 ^ 40 by omega) (by decide)
end Rk
namespace Rk
open PySem PySem.Spec PyProof.Rows L2

/-! ### items of tuples within a comprehension -/
theorem ix_tupK {X : Cx} {K : PySem.W.Frag} (hK : X.K = K) : IxR X (rIxT K) := by
  subst hK
  exact ix_tup
theorem atI_neg {xs : List V} {k : Nat} (h0 : 0 < k) (h : k ≤ xs.length) : atI xs (-(k : Int)) = xs[xs.length - k]? := by
  have e : ixN xs.length (-(k : Int)) = some (xs.length - k) := by
    unfold ixN
    rw [if_neg (by omega), if_pos (by omega)]
    congr 1
    omega
  unfold atI
  rw [e]
  rfl
/-! ### pairs that the heap holds -/
def PrAt (H : Hp) : List V → List (Option Int × Int) → Prop
  | [], [] => True
  | x :: xs, p :: ps => (∃ t, x = .ref t ∧ H t = some (.tup [lv p.1, .int p.2])) ∧ PrAt H xs ps
  | _, _ => False
theorem PrAt.length {H : Hp} : ∀ {xs : List V} {ps : List (Option Int × Int)}, PrAt H xs ps → xs.length = ps.length
  | [], [], _ => rfl
  | _ :: _, _ :: _, h => congrArg (· + 1) (PrAt.length h.2)
  | [], _ :: _, h => h.elim
  | _ :: _, [], h => h.elim
theorem PrAt.keep {H H' : Hp} (k : ∀ t ys, H t = some (.tup ys) → H' t = some (.tup ys)) : ∀ {xs : List V} {ps : List (Option Int × Int)}, PrAt H xs ps → PrAt H' xs ps
  | [], [], _ => trivial
  | _ :: _, _ :: _, ⟨⟨t, e, h⟩, r⟩ => ⟨⟨t, e, k _ _ h⟩, PrAt.keep k r⟩
  | [], _ :: _, h => h.elim
  | _ :: _, [], h => h.elim
theorem PrAt.same {H H' : Hp} (s : Same H H') {xs : List V} {ps : List (Option Int × Int)} (h : PrAt H xs ps) : PrAt H' xs ps := h.keep fun _ _ e => s _ _ e
theorem PrAt.snoc {H : Hp} {t : Addr} {p : Option Int × Int} (e : H t = some (.tup [lv p.1, .int p.2])) : ∀ {xs : List V} {ps : List (Option Int × Int)}, PrAt H xs ps → PrAt H (xs ++ [.ref t]) (ps ++ [p])
  | [], [], _ => ⟨⟨t, rfl, e⟩, trivial⟩
  | _ :: _, _ :: _, ⟨a, r⟩ => ⟨a, PrAt.snoc e r⟩
  | [], _ :: _, h => h.elim
  | _ :: _, [], h => h.elim
theorem PrAt.get {H : Hp} : ∀ {xs : List V} {ps : List (Option Int × Int)} {i : Nat} {x : V}, PrAt H xs ps → xs[i]? = some x → ∃ t p, x = .ref t ∧ ps[i]? = some p ∧ H t = some (.tup [lv p.1, .int p.2])
  | [], [], i, x, _, e => by simp at e
  | _ :: _, p :: _, 0, x, ⟨⟨t, a, h⟩, r⟩, e => by
    have : x = .ref t := by rw [← a]; simpa using e.symm
    exact ⟨t, p, this, rfl, h⟩
  | _ :: xs, _ :: ps, i + 1, x, ⟨_, r⟩, e => PrAt.get (xs := xs) (ps := ps) (i := i) r (by simpa using e)
  | [], _ :: _, _, _, h, _ => h.elim
  | _ :: _, [], _, _, h, _ => h.elim
def dP (p : Option Int × Int) : PyData := .tuple [dO p.1, .int p.2]
theorem PrAt.dp {K : PySem.W.Frag} {H : Hp} : ∀ {xs : List V} {ps : List (Option Int × Int)}, PrAt H xs ps → DpAll K H xs (ps.map dP)
  | [], [], _ => .nil
  | _ :: _, _ :: _, ⟨⟨_, e, h⟩, r⟩ => by
    subst e
    exact .cons (.tup (SqT.of h) (.cons (dp_lv _) (.cons (.int _) .nil))) (PrAt.dp r)
  | [], _ :: _, h => h.elim
  | _ :: _, [], h => h.elim
theorem sh_pair {p : Option Int × Int} (h1 : ∀ i, p.1 = some i → i.natAbs < 2 ^ 600) (h2 : p.2.natAbs < 2 ^ 600) : Sh (dP p) 2000 1 := by
  have z : Sh (dP p) _ 1 := Sh.tup (n := 700) (k := 0) fun d hd => by
    rcases List.mem_cons.mp hd with rfl | hd
    · exact sh_life h1
    · rw [List.mem_singleton.mp hd]
      exact Sh.int h2
  exact z.mono (by show 2 * 700 + 2 * 2 + 3 ≤ 2000; decide) (Nat.le_refl _)
theorem sh_pairs {ps : List (Option Int × Int)} (h : ∀ p ∈ ps, (∀ i, p.1 = some i → i.natAbs < 2 ^ 600) ∧ p.2.natAbs < 2 ^ 600) (hl : ps.length ≤ 100) : Sh (.tuple (ps.map dP)) 300000 2 := by
  have z : Sh (.tuple (ps.map dP)) _ 2 := Sh.tup (n := 2000) (k := 1) fun d hd => by
    obtain ⟨p, hp, rfl⟩ := List.mem_map.mp hd
    exact sh_pair (h p hp).1 (h p hp).2
  refine z.mono ?_ (Nat.le_refl _)
  rw [List.length_map]
  omega

/-! ### what is promised -/
def offO (i : Nat) (l : Option Int) : Option Int := l.map (· - 2 ^ i)
def prom : Nat → Option Int → List (Option Int) → List (Option Int × Int)
  | _, _, [] => []
  | i, reach, l :: r => if leO (offO i l) reach = true then prom (i + 1) reach r else (offO i l, 2 ^ i - 1) :: prom (i + 1) (offO i l) r
theorem prom_len : ∀ (ls : List (Option Int)) (i : Nat) (reach : Option Int), (prom i reach ls).length ≤ ls.length
  | [], _, _ => Nat.le_refl _
  | l :: r, i, reach => by
    show (if leO (offO i l) reach = true then prom (i + 1) reach r else (offO i l, 2 ^ i - 1) :: prom (i + 1) (offO i l) r).length ≤ r.length + 1
    by_cases h : leO (offO i l) reach = true
    · rw [if_pos h]
      exact Nat.le_succ_of_le (prom_len r _ _)
    · rw [if_neg h]
      exact Nat.succ_le_succ (prom_len r _ _)
theorem prom_none (ls : List (Option Int)) (i : Nat) : prom i none ls = [] := by
  induction ls generalizing i with
  | nil => rfl
  | cons l r ih =>
    show (if leO (offO i l) none = true then prom (i + 1) none r else _) = []
    rw [if_pos (by cases h : offO i l <;> rfl)]
    exact ih _
/-- what a step of the promise says of the lives from j on: no life ahead reaches it, its own does -/
theorem prom_due : ∀ (ls : List (Option Int)) (j : Nat) (reach : Option Int) (a g : Int), reach ≠ none → (some a, g) ∈ prom j reach ls → due j ls a = some g ∧ leO (some a) reach = false ∧ (due j ls (a + 1) ≠ some g) ∧ 2 ^ j - 1 ≤ g
  | [], _, _, _, _, _, h => nomatch h
  | l :: r, j, reach, a, g, hr, h => by
    have h' : (some a, g) ∈ (if leO (offO j l) reach = true then prom (j + 1) reach r else (offO j l, 2 ^ j - 1) :: prom (j + 1) (offO j l) r) := h
    have ea : ∀ b : Int, due j (l :: r) b = if leO (some (b + 2 ^ j)) l = true then some (2 ^ j - 1) else due (j + 1) r b := fun _ => rfl
    have p2 : (2 : Int) ^ (j + 1) = 2 ^ j * 2 := Int.pow_succ _ _
    have p0 := pow2_pos j
    have off : ∀ b : Int, leO (some (b + 2 ^ j)) l = leO (some b) (offO j l) := by
      intro b
      cases l with
      | none => rfl
      | some x =>
        show decide (b + 2 ^ j ≤ x) = decide (b ≤ x - 2 ^ j)
        rw [decide_eq_decide]
        omega
    have far : ∀ q : Option Int, q ≠ none → leO (some a) q = false → leO (offO j l) q = true ∨ q = offO j l → leO (some a) (offO j l) = false := by
      intro q hq h1 h2
      rcases h2 with h2 | h2
      · cases hl : offO j l with
        | none =>
          rw [hl] at h2
          cases q with
          | none => exact absurd rfl hq
          | some q => cases h2
        | some x =>
          cases q with
          | none => exact absurd rfl hq
          | some q =>
            rw [hl] at h2
            have t1 : x ≤ q := of_decide_eq_true h2
            have t2 : ¬ a ≤ q := of_decide_eq_false h1
            exact decide_eq_false (by omega)
      · rw [← h2]
        exact h1
    have step : due (j + 1) r a = some g ∧ due (j + 1) r (a + 1) ≠ some g ∧ 2 ^ (j + 1) - 1 ≤ g → leO (some a) (offO j l) = false → due j (l :: r) a = some g ∧ (due j (l :: r) (a + 1) ≠ some g) ∧ 2 ^ j - 1 ≤ g := by
      rintro ⟨i1, i3, i4⟩ h5
      have h6 : leO (some (a + 1)) (offO j l) = false := by
        cases hl : offO j l with
        | none => rw [hl] at h5; cases h5
        | some x =>
          rw [hl] at h5
          have t2 : ¬ a ≤ x := of_decide_eq_false h5
          exact decide_eq_false (by omega)
      rw [ea, ea, off, off, h5, h6, if_neg (by decide), if_neg (by decide)]
      exact ⟨i1, i3, by omega⟩
    by_cases hc : leO (offO j l) reach = true
    · rw [if_pos hc] at h'
      obtain ⟨i1, i2, i3, i4⟩ := prom_due r (j + 1) reach a g hr h'
      obtain ⟨s1, s2, s3⟩ := step ⟨i1, i3, i4⟩ (far reach hr i2 (.inl hc))
      exact ⟨s1, i2, s2, s3⟩
    · rw [if_neg hc] at h'
      have wide : ∀ b : Int, (leO (some b) (offO j l) = false → leO (some b) reach = false) := by
        intro b hb
        cases reach with
        | none => exact absurd rfl hr
        | some q =>
          cases hl : offO j l with
          | none => rw [hl] at hb; cases hb
          | some x =>
            rw [hl] at hb hc
            have t1 : ¬ x ≤ q := fun z => hc (decide_eq_true z)
            have t2 : ¬ b ≤ x := of_decide_eq_false hb
            exact decide_eq_false (by omega)
      rcases List.mem_cons.mp h' with e | h''
      · have e1 : some a = offO j l := congrArg Prod.fst e
        have e2 : g = 2 ^ j - 1 := congrArg Prod.snd e
        have k1 : leO (some a) (offO j l) = true := by rw [← e1]; exact decide_eq_true (Int.le_refl _)
        have k2 : leO (some (a + 1)) (offO j l) = false := by rw [← e1]; exact decide_eq_false (by omega)
        refine ⟨?_, ?_, ?_, by omega⟩
        · rw [ea, off, if_pos k1, e2]
        · cases reach with
          | none => exact absurd rfl hr
          | some q =>
            rw [← e1] at hc
            have t1 : ¬ a ≤ q := fun z => hc (decide_eq_true z)
            exact decide_eq_false t1
        · rw [ea, off, k2, if_neg (by decide)]
          intro z
          have big := due_ge r (j + 1) (a + 1) g z
          omega
      · cases hl : offO j l with
        | none =>
          rw [hl, prom_none] at h''
          exact nomatch h''
        | some x =>
          obtain ⟨i1, i2, i3, i4⟩ := prom_due r (j + 1) (offO j l) a g (by rw [hl]; intro z; cases z) h''
          obtain ⟨s1, s2, s3⟩ := step ⟨i1, i3, i4⟩ i2
          exact ⟨s1, wide a i2, s2, s3⟩
where
  due_ge : ∀ (ls : List (Option Int)) (j : Nat) (b g : Int), due j ls b = some g → 2 ^ j - 1 ≤ g
    | [], _, _, _, h => by cases h
    | l :: r, j, b, g, h => by
      have h' : (if leO (some (b + 2 ^ j)) l = true then some (2 ^ j - 1) else due (j + 1) r b) = some g := h
      by_cases hc : leO (some (b + 2 ^ j)) l = true
      · rw [if_pos hc] at h'
        have := Option.some.inj h'
        omega
      · rw [if_neg hc] at h'
        have i := due_ge r (j + 1) b g h'
        have p2 : (2 : Int) ^ (j + 1) = 2 ^ j * 2 := Int.pow_succ _ _
        have p0 := pow2_pos j
        omega
/-- bounds of what is promised -/
theorem prom_bound {B : Int} : ∀ (ls : List (Option Int)) (j : Nat) (reach : Option Int), j + ls.length ≤ 100 → (∀ x ∈ ls, ∀ i, x = some i → -B ≤ i ∧ i ≤ B) → ∀ p ∈ prom j reach ls, (∀ i, p.1 = some i → -B - 2 ^ 100 ≤ i ∧ i ≤ B) ∧ 0 ≤ p.2 ∧ p.2 ≤ 2 ^ 100
  | [], _, _, _, _, p, hp => nomatch hp
  | l :: r, j, reach, hj, hb, p, hp => by
    have h' : p ∈ (if leO (offO j l) reach = true then prom (j + 1) reach r else (offO j l, 2 ^ j - 1) :: prom (j + 1) (offO j l) r) := hp
    have hj' : j + 1 + r.length ≤ 100 := by simp at hj; omega
    have hb' : ∀ x ∈ r, ∀ i, x = some i → -B ≤ i ∧ i ≤ B := fun x hx => hb x (List.mem_cons_of_mem _ hx)
    have p0 := pow2_pos j
    have p1 : (2 : Int) ^ j ≤ 2 ^ 100 := pow2_le (by omega)
    by_cases hc : leO (offO j l) reach = true
    · rw [if_pos hc] at h'
      exact prom_bound r (j + 1) reach hj' hb' p h'
    · rw [if_neg hc] at h'
      rcases List.mem_cons.mp h' with e | h''
      · subst e
        refine ⟨fun i hi => ?_, ?_, ?_⟩
        · cases l with
          | none => cases hi
          | some x =>
            have e : x - 2 ^ j = i := Option.some.inj hi
            have := hb (some x) List.mem_cons_self x rfl
            omega
        · show (0 : Int) ≤ 2 ^ j - 1
          omega
        · show (2 : Int) ^ j - 1 ≤ 2 ^ 100
          omega
      · exact prom_bound r (j + 1) _ hj' hb' p h''
/-! ### shortest lives are lives -/
theorem good_take {ls : List (Option Int)} (g : Good ls) {n : Nat} (h0 : 0 < n) (h1 : n ≤ ls.length) : Good (ls.take n) := by
  refine ⟨by rw [List.length_take]; omega, by rw [List.length_take]; have := g.most; omega, ?_, ?_⟩
  · obtain ⟨is, l, e, hb, hl⟩ := g.init
    by_cases hn : n = ls.length
    · rw [hn, List.take_length]
      exact ⟨is, l, e, hb, hl⟩
    · have hlen : ls.length = is.length + 1 := by rw [e]; simp
      have hn2 : n ≤ is.length := by omega
      have e2 : ls.take n = (is.take n).map some := by rw [e, List.take_append_of_le_length (by rw [List.length_map]; exact hn2), List.map_take]
      obtain ⟨ini, z, ez⟩ : ∃ ini z, is.take n = ini ++ [z] := ⟨(is.take n).dropLast, (is.take n).getLast (fun z => absurd (congrArg List.length z) (by rw [List.length_take]; show ¬ min n is.length = 0; omega)), (List.dropLast_concat_getLast _).symm⟩
      have sub : ∀ y ∈ ini ++ [z], y ∈ is := fun y hy => List.mem_of_mem_take (by rw [← ez] at hy; exact hy)
      refine ⟨ini, some z, by rw [e2, ez, List.map_append]; rfl, fun i hi => hb i (sub i (List.mem_append_left _ hi)), fun i hi => ?_⟩
      have e3 : z = i := Option.some.inj hi
      rw [← e3]
      exact hb z (sub z (List.mem_append_right _ (List.mem_singleton_self _)))
  · intro i x y hx hy
    have li := (List.getElem?_eq_some_iff.mp hy).1
    rw [List.length_take] at li
    rw [List.getElem?_take_of_lt (by omega)] at hx hy
    exact g.asc i x y hx hy
theorem good_short {ls : List (Option Int)} (g : Good ls) : Good (short ls) := good_take g (cutN_pos _ _ g.pos) (cutN_le _ _)
theorem good_none_last {ls : List (Option Int)} (g : Good ls) {i : Nat} (h : ls[i]? = some none) : i + 1 = ls.length := by
  obtain ⟨is, l, e, hb, hl⟩ := g.init
  have hi := (List.getElem?_eq_some_iff.mp h).1
  have hlen : ls.length = is.length + 1 := by rw [e]; simp
  by_cases z : i < is.length
  · rw [e, List.getElem?_append_left (by rw [List.length_map]; exact z), List.getElem?_map, List.getElem?_eq_getElem z] at h
    cases h
  · omega
end Rk
namespace Rk
open PySem PySem.Spec PyProof.Rows L2

/-! ### sums over the ranks -/
def psum (g : Nat → Int) (z : Nat) : Nat → Int
  | 0 => 0
  | i + 1 => psum g z i + g i * 2 ^ (z - 1 - i)
/-- how many points 2 ** z ticks have, k the last rank -/
def pall (g : Nat → Int) (z k : Nat) : Int := g k * 2 ^ (z - k) + psum g z k
theorem psum_congr {g h : Nat → Int} {z : Nat} : ∀ i, (∀ j, j < i → g j = h j) → psum g z i = psum h z i
  | 0, _ => rfl
  | i + 1, e => by
    show psum g z i + g i * 2 ^ (z - 1 - i) = psum h z i + h i * 2 ^ (z - 1 - i)
    rw [psum_congr i fun j hj => e j (by omega), e i (by omega)]
theorem pall_congr {g h : Nat → Int} {z k : Nat} (e : ∀ j, j ≤ k → g j = h j) : pall g z k = pall h z k := by
  unfold pall
  rw [psum_congr k fun j hj => e j (by omega), e k (Nat.le_refl _)]
theorem psum_succ {g : Nat → Int} {z : Nat} : ∀ i, i ≤ z → psum g (z + 1) i = 2 * psum g z i
  | 0, _ => rfl
  | i + 1, h => by
    show psum g (z + 1) i + g i * 2 ^ (z + 1 - 1 - i) = 2 * (psum g z i + g i * 2 ^ (z - 1 - i))
    have e : z + 1 - 1 - i = (z - 1 - i) + 1 := by omega
    rw [psum_succ i (by omega), e, Int.pow_succ, Int.mul_add]
    congr 1
    rw [← Int.mul_assoc, Int.mul_comm 2]
theorem pall_wide {g : Nat → Int} {z k : Nat} (h : k ≤ z) : pall g (z + 1) k = 2 * pall g z k := by
  unfold pall
  have e : z + 1 - k = (z - k) + 1 := by omega
  rw [psum_succ k h, e, Int.pow_succ, Int.mul_add]
  congr 1
  rw [← Int.mul_assoc, Int.mul_comm 2]
/-- a last life that repeats the one ahead doubles it -/
theorem pall_same {g : Nat → Int} {k : Nat} (h : g (k + 1) = g k) : pall g (k + 1) (k + 1) = 2 * pall g k k := by
  have h2 := pall_wide (g := g) (Nat.le_refl k)
  rw [← h2]
  unfold pall
  show g (k + 1) * 2 ^ (k + 1 - (k + 1)) + (psum g (k + 1) k + g k * 2 ^ (k + 1 - 1 - k)) = g k * 2 ^ (k + 1 - k) + psum g (k + 1) k
  have e1 : k + 1 - (k + 1) = 0 := by omega
  have e2 : k + 1 - 1 - k = 0 := by omega
  have e3 : k + 1 - k = 1 := by omega
  rw [h, e1, e2, e3]
  have e4 : g k * 2 ^ 1 = g k * 2 ^ 0 + g k * 2 ^ 0 := by
    show g k * 2 = g k * 1 + g k * 1
    omega
  rw [e4]
  omega
def getI (is : List Int) (i : Nat) : Int := (is[i]?).getD 0
theorem getI_at {is : List Int} {i : Nat} {x : Int} (h : is[i]? = some x) : getI is i = x := by
  unfold getI
  rw [h]
  rfl
theorem getI_take {is : List Int} {i n : Nat} (h : i < n) : getI (is.take n) i = getI is i := by
  unfold getI
  rw [List.getElem?_take_of_lt h]
/-- cutting what repeats at the end -/
theorem pall_cut (is : List Int) : ∀ n, 0 < n → n ≤ is.length → pall (getI is) (n - 1) (n - 1) = pall (getI is) (cutN (is.map some) n - 1) (cutN (is.map some) n - 1) * 2 ^ (n - cutN (is.map some) n)
  | 0, h, _ => absurd h (by decide)
  | 1, _, _ => by
    show _ = pall (getI is) (1 - 1) (1 - 1) * 2 ^ (1 - 1)
    show _ = _ * 1
    rw [Int.mul_one]
  | n + 2, _, hl => by
    by_cases h : (is.map some)[n + 1]? = (is.map some)[n]?
    · rw [cutN_eq h]
      have ih := pall_cut is (n + 1) (by omega) (by omega)
      have hc := cutN_le (is.map some) (n + 1)
      have l1 : n + 1 < is.length := by omega
      have l0 : n < is.length := by omega
      have hg : getI is (n + 1) = getI is n := by
        rw [List.getElem?_map, List.getElem?_map, List.getElem?_eq_getElem l1, List.getElem?_eq_getElem l0] at h
        have e : is[n + 1] = is[n] := by simpa using h
        rw [getI_at (List.getElem?_eq_getElem l1), getI_at (List.getElem?_eq_getElem l0), e]
      have e1 : n + 2 - 1 = n + 1 := by omega
      have e2 : n + 1 - 1 = n := by omega
      have e3 : n + 2 - cutN (is.map some) (n + 1) = (n + 1 - cutN (is.map some) (n + 1)) + 1 := by omega
      rw [e2] at ih
      rw [e1, pall_same hg, ih, e3, Int.pow_succ, ← Int.mul_assoc, Int.mul_comm 2, Int.mul_assoc, Int.mul_comm 2]
    · rw [cutN_ne h, Nat.sub_self]
      show _ = _ * 1
      rw [Int.mul_one]
theorem psum_nonneg {g : Nat → Int} (h : ∀ i, 0 ≤ g i) (z : Nat) : ∀ i, 0 ≤ psum g z i
  | 0 => Int.le_refl _
  | i + 1 => Int.add_nonneg (psum_nonneg h z i) (Int.mul_nonneg (h i) (Int.le_of_lt (pow2_pos _)))
theorem pall_nonneg {g : Nat → Int} (h : ∀ i, 0 ≤ g i) (z k : Nat) : 0 ≤ pall g z k := Int.add_nonneg (Int.mul_nonneg (h k) (Int.le_of_lt (pow2_pos _))) (psum_nonneg h z k)
theorem psum_le {g : Nat → Int} {B : Int} (hB : 0 ≤ B) (h : ∀ i, g i ≤ B) (z : Nat) : ∀ i, psum g z i ≤ (i : Nat) * (B * 2 ^ z)
  | 0 => by show (0 : Int) ≤ ((0 : Nat) : Int) * _; simp
  | i + 1 => by
    have ih := psum_le hB h z i
    have e : g i * 2 ^ (z - 1 - i) ≤ B * 2 ^ z := by
      have a1 : g i * 2 ^ (z - 1 - i) ≤ B * 2 ^ (z - 1 - i) := Int.mul_le_mul_of_nonneg_right (h i) (Int.le_of_lt (pow2_pos _))
      have a2 : B * 2 ^ (z - 1 - i) ≤ B * 2 ^ z := Int.mul_le_mul_of_nonneg_left (pow2_le (by omega)) hB
      omega
    show psum g z i + g i * 2 ^ (z - 1 - i) ≤ ((i + 1 : Nat) : Int) * (B * 2 ^ z)
    have e2 : ((i + 1 : Nat) : Int) * (B * 2 ^ z) = (i : Nat) * (B * 2 ^ z) + B * 2 ^ z := by
      rw [Int.natCast_add, Int.add_mul]
      simp
    omega
theorem pall_le {g : Nat → Int} {B : Int} (hB : 0 ≤ B) (h : ∀ i, g i ≤ B) (z k : Nat) : pall g z k ≤ ((k : Int) + 1) * (B * 2 ^ z) := by
  have e := psum_le hB h z k
  have a1 : g k * 2 ^ (z - k) ≤ B * 2 ^ (z - k) := Int.mul_le_mul_of_nonneg_right (h k) (Int.le_of_lt (pow2_pos _))
  have a2 : B * 2 ^ (z - k) ≤ B * 2 ^ z := Int.mul_le_mul_of_nonneg_left (pow2_le (by omega)) hB
  unfold pall
  rw [Int.add_mul, Int.one_mul]
  omega
/-! ### lowest terms -/
theorem dvd_pow2 : ∀ (k d : Nat), d ∣ 2 ^ k → ∃ m, m ≤ k ∧ d = 2 ^ m
  | 0, d, h => ⟨0, Nat.le_refl _, Nat.eq_one_of_dvd_one h⟩
  | k + 1, d, h => by
    by_cases hd : d % 2 = 0
    · obtain ⟨e, rfl⟩ : ∃ e, d = 2 * e := ⟨d / 2, by omega⟩
      rw [Nat.pow_succ, Nat.mul_comm (2 ^ k)] at h
      obtain ⟨m, hm, em⟩ := dvd_pow2 k e (Nat.dvd_of_mul_dvd_mul_left (by decide) h)
      exact ⟨m + 1, by omega, by rw [em, Nat.pow_succ, Nat.mul_comm]⟩
    · have c : Nat.Coprime d 2 := by
        have g2 : d.gcd 2 ∣ 2 := Nat.gcd_dvd_right _ _
        have gd : d.gcd 2 ∣ d := Nat.gcd_dvd_left _ _
        have le := Nat.le_of_dvd (by decide) g2
        have pos : 0 < d.gcd 2 := Nat.gcd_pos_of_pos_right _ (by decide)
        by_cases e : d.gcd 2 = 2
        · rw [e] at gd
          obtain ⟨q, hq⟩ := gd
          omega
        · show d.gcd 2 = 1
          omega
      exact ⟨0, Nat.zero_le _, (c.pow_right (k + 1)).eq_one_of_dvd h⟩
/-- A / G and 2 ^ k / G for G their greatest common divisor -/
theorem lowest (A k : Nat) : ∃ j a : Nat, j ≤ k ∧ 2 ^ k / A.gcd (2 ^ k) = 2 ^ j ∧ A / A.gcd (2 ^ k) = a ∧ a * 2 ^ k = A * 2 ^ j ∧ (j = 0 ∨ a % 2 = 1) := by
  have pk : 0 < 2 ^ k := Nat.pow_pos (by decide)
  have gp : 0 < A.gcd (2 ^ k) := Nat.gcd_pos_of_pos_right _ pk
  have gl : A.gcd (2 ^ k) ∣ A := Nat.gcd_dvd_left _ _
  have gr : A.gcd (2 ^ k) ∣ 2 ^ k := Nat.gcd_dvd_right _ _
  obtain ⟨m, hm, em⟩ := dvd_pow2 k _ gr
  have cop := Nat.coprime_div_gcd_div_gcd gp
  have e2 : 2 ^ k / A.gcd (2 ^ k) = 2 ^ (k - m) := by
    rw [em]
    exact Nat.pow_div hm (by decide)
  refine ⟨k - m, _, by omega, e2, rfl, ?_, ?_⟩
  · rw [← e2]
    have a1 := Nat.div_mul_cancel gl
    have a2 := Nat.div_mul_cancel gr
    generalize A.gcd (2 ^ k) = G at *
    calc A / G * 2 ^ k = A / G * (2 ^ k / G * G) := by rw [a2]
      _ = A / G * G * (2 ^ k / G) := by rw [Nat.mul_comm (2 ^ k / G) G, Nat.mul_assoc]
      _ = A * (2 ^ k / G) := by rw [a1]
  · by_cases h : k - m = 0
    · exact .inl h
    · refine .inr ?_
      rw [e2] at cop
      by_cases o : A / A.gcd (2 ^ k) % 2 = 1
      · exact o
      · exfalso
        have d1 : 2 ∣ A / A.gcd (2 ^ k) := Nat.dvd_of_mod_eq_zero (by omega)
        have d2 : 2 ∣ 2 ^ (k - m) := ⟨2 ^ (k - m - 1), by rw [← Nat.pow_succ']; congr 1; omega⟩
        have d3 := Nat.dvd_gcd d1 d2
        have d4 : (A / A.gcd (2 ^ k)).gcd (2 ^ (k - m)) = 1 := cop
        rw [d4] at d3
        have := Nat.le_of_dvd (by decide) d3
        omega
/-! ### the last life of the shortest lives -/
theorem short_last {ls : List (Option Int)} (h0 : 0 < ls.length) {l : Option Int} (h : ls.getLast? = some l) : (short ls).getLast? = some l := by
  have p := short_len_pos h0
  obtain ⟨y, hy⟩ : ∃ y, (short ls).getLast? = some y := by
    cases e : short ls with
    | nil => rw [e] at p; exact absurd p (by decide)
    | cons a r => exact ⟨_, List.getLast?_eq_some_getLast (by simp)⟩
  have le := short_len_le ls
  have e1 : lifeAt (short ls) ls.length = y := lifeAt_ge le hy
  rw [lifeAt_short h0, lifeAt_ge (Nat.le_refl _) h] at e1
  rw [hy, e1]
theorem shl_int {i j : Int} {n : Nat} (h : i.natAbs < 2 ^ n) (h0 : 0 ≤ j) (h1 : (n : Int) + j ≤ 134217728) : CShl i j := by
  obtain ⟨m, rfl⟩ := Int.eq_ofNat_of_zero_le h0
  exact shl_ok h (by omega)
end Rk
namespace Rk
open PySem PySem.Spec PyProof.Rows L2

/-! ### tuples that the heap holds, one by one -/
def TAt (H : Hp) : List V → List (List V) → Prop
  | [], [] => True
  | x :: xs, y :: ys => (∃ t, x = .ref t ∧ H t = some (.tup y)) ∧ TAt H xs ys
  | _, _ => False
theorem TAt.length {H : Hp} : ∀ {xs : List V} {ps : List (List V)}, TAt H xs ps → xs.length = ps.length
  | [], [], _ => rfl
  | _ :: _, _ :: _, h => congrArg (· + 1) (TAt.length h.2)
  | [], _ :: _, h => h.elim
  | _ :: _, [], h => h.elim
theorem TAt.keep {H H' : Hp} (k : ∀ t ys, H t = some (.tup ys) → H' t = some (.tup ys)) : ∀ {xs : List V} {ps : List (List V)}, TAt H xs ps → TAt H' xs ps
  | [], [], _ => trivial
  | _ :: _, _ :: _, ⟨⟨t, e, h⟩, r⟩ => ⟨⟨t, e, k _ _ h⟩, TAt.keep k r⟩
  | [], _ :: _, h => h.elim
  | _ :: _, [], h => h.elim
theorem TAt.same {H H' : Hp} (s : Same H H') {xs : List V} {ps : List (List V)} (h : TAt H xs ps) : TAt H' xs ps := h.keep fun _ _ e => s _ _ e
theorem TAt.snoc {H : Hp} {t : Addr} {p : List V} (e : H t = some (.tup p)) : ∀ {xs : List V} {ps : List (List V)}, TAt H xs ps → TAt H (xs ++ [.ref t]) (ps ++ [p])
  | [], [], _ => ⟨⟨t, rfl, e⟩, trivial⟩
  | _ :: _, _ :: _, ⟨a, r⟩ => ⟨a, TAt.snoc e r⟩
  | [], _ :: _, h => h.elim
  | _ :: _, [], h => h.elim
theorem TAt.get {H : Hp} : ∀ {xs : List V} {ps : List (List V)} {i : Nat} {x : V}, TAt H xs ps → xs[i]? = some x → ∃ t p, x = .ref t ∧ ps[i]? = some p ∧ H t = some (.tup p)
  | [], [], i, x, _, e => by simp at e
  | _ :: _, p :: _, 0, x, ⟨⟨t, a, h⟩, r⟩, e => by
    have : x = .ref t := by rw [← a]; simpa using e.symm
    exact ⟨t, p, this, rfl, h⟩
  | _ :: xs, _ :: ps, i + 1, x, ⟨_, r⟩, e => TAt.get (xs := xs) (ps := ps) (i := i) r (by simpa using e)
  | [], _ :: _, _, _, h, _ => h.elim
  | _ :: _, [], _, _, h, _ => h.elim
theorem TAt.upd {H : Hp} {F : Addr} {ys : List V} {o : HO} (hF : H F = some (.lst ys)) {xs : List V} {ps : List (List V)} (h : TAt H xs ps) : TAt (upd H F o) xs ps := h.keep fun t ws e => by
  have n : t ≠ F := ne_of e hF (by intro z; cases z)
  rw [upd_ne n]
  exact e

/-! ### the bands of the kept points -/
def bandLo (tick : Int) : Option Int → Int
  | none => 0
  | some b => if tick + 1 ≤ b then 0 else tick + 1 - b
theorem bandLo_some (tick b : Int) : bandLo tick (some b) = if tick + 1 ≤ b then 0 else tick + 1 - b := rfl
def bandsOf (tick : Int) : Nat → Int → List (Option Int) → List (Int × Int × Int)
  | _, _, [] => []
  | i, hi, l :: r => (bandLo tick l, hi, 2 ^ i) :: bandsOf tick (i + 1) (bandLo tick l - 1) r
def bandV (b : Int × Int × Int) : List V := [.int b.1, .int b.2.1, .int b.2.2]
theorem bands_len (tick : Int) : ∀ (ls : List (Option Int)) (i : Nat) (hi : Int), (bandsOf tick i hi ls).length = ls.length
  | [], _, _ => rfl
  | _ :: r, i, hi => congrArg (· + 1) (bands_len tick r (i + 1) _)
theorem bandLo_le {tick : Int} (h : 0 ≤ tick) {l : Option Int} (hl : ∀ v, l = some v → 0 ≤ v) : 0 ≤ bandLo tick l ∧ bandLo tick l ≤ tick + 1 := by
  cases l with
  | none => exact ⟨Int.le_refl _, show (0 : Int) ≤ tick + 1 by omega⟩
  | some b =>
    have := hl b rfl
    rw [bandLo_some]
    by_cases c : tick + 1 ≤ b
    · rw [if_pos c]; omega
    · rw [if_neg c]; omega
theorem bandLo_mono {tick : Int} (h : 0 ≤ tick) {x y : Option Int} (e : leO x y = true) : bandLo tick y ≤ bandLo tick x := by
  cases y with
  | none =>
    cases x with
    | none => exact Int.le_refl _
    | some a =>
      show (0 : Int) ≤ bandLo tick (some a)
      rw [bandLo_some]
      by_cases c : tick + 1 ≤ a
      · rw [if_pos c]; exact Int.le_refl _
      · rw [if_neg c]; omega
  | some b =>
    cases x with
    | none => cases e
    | some a =>
      have hab : a ≤ b := of_decide_eq_true e
      rw [bandLo_some, bandLo_some]
      by_cases c : tick + 1 ≤ b
      · rw [if_pos c]
        by_cases d : tick + 1 ≤ a
        · rw [if_pos d]; exact Int.le_refl _
        · rw [if_neg d]; omega
      · have d : ¬ tick + 1 ≤ a := by omega
        rw [if_neg c, if_neg d]
        omega
/-- how many multiples of s lie from l to h -/
def mulN (l h s : Int) : Int := if l > h then 0 else h / s - (l - 1) / s
theorem mulN_nonneg {l h s : Int} (hs : 0 < s) : 0 ≤ mulN l h s := by
  unfold mulN
  by_cases c : l > h
  · rw [if_pos c]; exact Int.le_refl _
  · rw [if_neg c]
    have := Int.ediv_le_ediv hs (show l - 1 ≤ h by omega)
    omega
theorem mulN_le {l h s : Int} (hs : 0 < s) (hl : 0 ≤ l) (hh : 0 ≤ h) : mulN l h s ≤ h + 1 := by
  unfold mulN
  by_cases c : l > h
  · rw [if_pos c]; omega
  · rw [if_neg c]
    have a1 : h / s ≤ h := Int.ediv_le_self s hh
    have a2 : -1 ≤ (l - 1) / s := by
      have := Int.ediv_le_ediv hs (show (-1 : Int) ≤ l - 1 by omega)
      have e : (-1 : Int) / s = -1 := by
        rw [Int.ediv_eq_iff_of_pos hs]
        omega
      omega
    omega
theorem mulN_cut {l m h s : Int} (h1 : l ≤ m + 1) (h2 : m ≤ h) : mulN l m s + mulN (m + 1) h s = mulN l h s := by
  unfold mulN
  have e : m + 1 - 1 = m := by omega
  by_cases a : l > m
  · rw [if_pos a]
    have : l = m + 1 := by omega
    subst this
    omega
  · rw [if_neg a]
    by_cases b : m + 1 > h
    · rw [if_pos b]
      have : m = h := by omega
      subst this
      rw [if_neg a]
      omega
    · rw [if_neg b, if_neg (show ¬ l > h by omega), e]
      omega
def cntB (low high tick : Int) : Nat → Int → List (Option Int) → Int
  | _, _, [] => 0
  | i, hi, l :: r => mulN (max low (bandLo tick l)) (min high hi) (2 ^ i) + cntB low high tick (i + 1) (bandLo tick l - 1) r
/-- the law's own sum -/
def lcnt (low H tick : Int) : Nat → List (Option Int) → Int
  | _, [] => 0
  | i, [l] => mulN (max low (bandLo tick l)) H (2 ^ i)
  | i, l :: m :: r => mulN (max low (bandLo tick l)) H (2 ^ i) - mulN (max low (bandLo tick l)) H (2 ^ (i + 1)) + lcnt low H tick (i + 1) (m :: r)
theorem mulN_split {low high tick lo P s : Int} (h1 : lo ≤ P) (h2 : P ≤ tick + 1) : mulN (max low lo) (min high tick) s - mulN (max low P) (min high tick) s = mulN (max low lo) (min high (P - 1)) s := by
  by_cases a : max low lo > min high tick
  · have b : max low P > min high tick := by omega
    have c : max low lo > min high (P - 1) := by omega
    unfold mulN
    rw [if_pos a, if_pos b, if_pos c]
    rfl
  · by_cases b : max low P > min high tick
    · have e : min high (P - 1) = min high tick := by omega
      rw [e]
      unfold mulN
      rw [if_pos b]
      omega
    · by_cases d : low ≤ P
      · have e1 : max low P = P := by omega
        have e2 : min high (P - 1) = P - 1 := by omega
        rw [e1, e2]
        rw [e1] at b
        have q := mulN_cut (l := max low lo) (m := P - 1) (h := min high tick) (s := s) (by omega) (by omega)
        have e3 : P - 1 + 1 = P := by omega
        rw [e3] at q
        omega
      · have e1 : max low lo = max low P := by omega
        have e2 : max low P > min high (P - 1) := by omega
        rw [e1]
        have e3 : mulN (max low P) (min high (P - 1)) s = 0 := if_pos e2
        rw [e3]
        omega
theorem lcnt_bands {low high tick : Int} (ht : 0 ≤ tick) : ∀ (ls : List (Option Int)) (i : Nat) (P : Int), ls ≠ [] → P ≤ tick + 1 → (∀ l, ls.head? = some l → bandLo tick l ≤ P) → (∀ (i : Nat) (x y : Option Int), ls[i]? = some x → ls[i + 1]? = some y → leO x y = true) → (∀ l ∈ ls, ∀ v, l = some v → 0 ≤ v) →
    lcnt low (min high tick) tick i ls - mulN (max low P) (min high tick) (2 ^ i) = cntB low high tick i (P - 1) ls
  | [], _, _, h, _, _, _, _ => absurd rfl h
  | [l], i, P, _, hP, hd, _, _ => by
    show mulN (max low (bandLo tick l)) (min high tick) (2 ^ i) - _ = mulN (max low (bandLo tick l)) (min high (P - 1)) (2 ^ i) + 0
    rw [mulN_split (hd l rfl) hP, Int.add_zero]
  | l :: m :: r, i, P, _, hP, hd, asc, hb => by
    have q := mulN_split (low := low) (high := high) (tick := tick) (s := 2 ^ i) (hd l rfl) hP
    have hlo := bandLo_le ht (hb l List.mem_cons_self)
    have ih := lcnt_bands (low := low) (high := high) ht (m :: r) (i + 1) (bandLo tick l) (by simp) hlo.2 (fun x hx => by
      have : m = x := by simpa using hx
      rw [← this]
      exact bandLo_mono ht (asc 0 l m rfl rfl)) (fun j x y hx hy => asc (j + 1) x y hx hy) (fun x hx => hb x (List.mem_cons_of_mem _ hx))
    show mulN (max low (bandLo tick l)) (min high tick) (2 ^ i) - mulN (max low (bandLo tick l)) (min high tick) (2 ^ (i + 1)) + lcnt low (min high tick) tick (i + 1) (m :: r) - _ = mulN (max low (bandLo tick l)) (min high (P - 1)) (2 ^ i) + cntB low high tick (i + 1) (bandLo tick l - 1) (m :: r)
    omega
theorem lcnt_all {low high tick : Int} (ht : 0 ≤ tick) {ls : List (Option Int)} (g : Good ls) : lcnt low (min high tick) tick 0 ls = cntB low high tick 0 tick ls := by
  have hb : ∀ l ∈ ls, ∀ v, l = some v → 0 ≤ v := fun l hl v e => (g.bd l hl v e).1
  have q := lcnt_bands (low := low) (high := high) ht ls 0 (tick + 1) (by intro z; have := g.pos; rw [z] at this; exact absurd this (by decide)) (Int.le_refl _) (fun l hl => (bandLo_le ht (hb l (by
    cases ls with
    | nil => cases hl
    | cons a r => rw [show a = l by simpa using hl]; exact List.mem_cons_self))).2) g.asc hb
  have e1 : tick + 1 - 1 = tick := by omega
  have e2 : mulN (max low (tick + 1)) (min high tick) (2 ^ 0) = 0 := if_pos (by omega)
  rw [e1, e2] at q
  omega
theorem lcnt_snoc {low H tick : Int} {l : Option Int} : ∀ (xs : List (Option Int)) (i : Nat), xs.getLast? = some l → lcnt low H tick i (xs ++ [l]) = lcnt low H tick i xs
  | [], _, h => by simp at h
  | [x], i, h => by
    have e : x = l := by simpa using h
    subst e
    show mulN (max low (bandLo tick x)) H (2 ^ i) - mulN (max low (bandLo tick x)) H (2 ^ (i + 1)) + mulN (max low (bandLo tick x)) H (2 ^ (i + 1)) = mulN (max low (bandLo tick x)) H (2 ^ i)
    omega
  | x :: y :: r, i, h => by
    have h' : (y :: r).getLast? = some l := by simpa [List.getLast?_cons_cons] using h
    have ih := lcnt_snoc (low := low) (H := H) (tick := tick) (y :: r) (i + 1) h'
    show _ - _ + lcnt low H tick (i + 1) ((y :: r) ++ [l]) = _ - _ + lcnt low H tick (i + 1) (y :: r)
    rw [ih]
theorem lcnt_take {low H tick : Int} {ls : List (Option Int)} : ∀ n, n ≤ ls.length → lcnt low H tick 0 (ls.take (cutN ls n)) = lcnt low H tick 0 (ls.take n)
  | 0, _ => rfl
  | 1, _ => rfl
  | n + 2, hn => by
    by_cases h : ls[n + 1]? = ls[n]?
    · rw [cutN_eq h, lcnt_take (n + 1) (by omega)]
      have h1 : n + 1 < ls.length := by omega
      have e : ls.take (n + 2) = ls.take (n + 1) ++ [ls[n + 1]] := (List.take_append_getElem h1).symm
      rw [e]
      symm
      apply lcnt_snoc
      rw [List.getLast?_eq_getElem?, List.length_take, Nat.min_eq_left (by omega)]
      show (ls.take (n + 1))[n]? = some ls[n + 1]
      rw [List.getElem?_take_of_lt (by omega), ← h, List.getElem?_eq_getElem h1]
    · rw [cutN_ne h]
/-- the law's sum over all lives is the count over the bands of the shortest -/
theorem lcnt_short {low high tick : Int} (ht : 0 ≤ tick) {ls : List (Option Int)} (g : Good ls) : lcnt low (min high tick) tick 0 ls = cntB low high tick 0 tick (short ls) := by
  rw [← lcnt_all ht (good_short g)]
  unfold short
  rw [lcnt_take _ (Nat.le_refl _), List.take_length]
theorem cntB_cut {a m c tick : Int} (h1 : a ≤ m + 1) (h2 : m ≤ c) : ∀ (ls : List (Option Int)) (i : Nat) (hi : Int), cntB a m tick i hi ls + cntB (m + 1) c tick i hi ls = cntB a c tick i hi ls
  | [], _, _ => rfl
  | l :: r, i, hi => by
    have ih := cntB_cut (tick := tick) h1 h2 r (i + 1) (bandLo tick l - 1)
    have key : ∀ lo s : Int, mulN (max a lo) (min m hi) s + mulN (max (m + 1) lo) (min c hi) s = mulN (max a lo) (min c hi) s := by
      intro lo s
      by_cases x : lo ≤ m + 1
      · by_cases y : m ≤ hi
        · have e1 : min m hi = m := by omega
          have e2 : max (m + 1) lo = m + 1 := by omega
          rw [e1, e2]
          exact mulN_cut (by omega) (by omega)
        · have e1 : min m hi = hi := by omega
          have e2 : min c hi = hi := by omega
          have e3 : mulN (max (m + 1) lo) hi s = 0 := if_pos (by omega)
          rw [e1, e2, e3]
          omega
      · have e1 : mulN (max a lo) (min m hi) s = 0 := if_pos (by omega)
        have e2 : max (m + 1) lo = max a lo := by omega
        rw [e1, e2]
        omega
    have k := key (bandLo tick l) (2 ^ i)
    show mulN (max a (bandLo tick l)) (min m hi) (2 ^ i) + cntB a m tick (i + 1) (bandLo tick l - 1) r + (mulN (max (m + 1) (bandLo tick l)) (min c hi) (2 ^ i) + cntB (m + 1) c tick (i + 1) (bandLo tick l - 1) r) = mulN (max a (bandLo tick l)) (min c hi) (2 ^ i) + cntB a c tick (i + 1) (bandLo tick l - 1) r
    omega
theorem cntB_over {low high tick : Int} (ht : 0 ≤ tick) (h : tick < low) : ∀ (ls : List (Option Int)) (i : Nat) (hi : Int), hi ≤ tick → (∀ l ∈ ls, ∀ v, l = some v → 0 ≤ v) → cntB low high tick i hi ls = 0
  | [], _, _, _, _ => rfl
  | l :: r, i, hi, hh, hb => by
    have hlo := bandLo_le ht (hb l List.mem_cons_self)
    have ih := cntB_over (low := low) (high := high) ht h r (i + 1) (bandLo tick l - 1) (by omega) (fun x hx => hb x (List.mem_cons_of_mem _ hx))
    have e : mulN (max low (bandLo tick l)) (min high hi) (2 ^ i) = 0 := if_pos (by omega)
    show mulN (max low (bandLo tick l)) (min high hi) (2 ^ i) + cntB low high tick (i + 1) (bandLo tick l - 1) r = 0
    rw [e, ih]
    rfl
theorem cntB_bound {low high tick : Int} (h0 : 0 ≤ low) (h1 : 0 ≤ high) : ∀ (ls : List (Option Int)) (i : Nat) (hi : Int), 0 ≤ cntB low high tick i hi ls ∧ cntB low high tick i hi ls ≤ (ls.length : Int) * (high + 1)
  | [], _, _ => ⟨Int.le_refl _, by show (0 : Int) ≤ ((0 : Nat) : Int) * _; simp⟩
  | l :: r, i, hi => by
    have ih := cntB_bound (tick := tick) h0 h1 r (i + 1) (bandLo tick l - 1)
    have a1 := mulN_nonneg (l := max low (bandLo tick l)) (h := min high hi) (pow2_pos i)
    have a2 : mulN (max low (bandLo tick l)) (min high hi) (2 ^ i) ≤ high + 1 := by
      by_cases c : 0 ≤ min high hi
      · have := mulN_le (l := max low (bandLo tick l)) (h := min high hi) (pow2_pos i) (by omega) c
        omega
      · have e : mulN (max low (bandLo tick l)) (min high hi) (2 ^ i) = 0 := if_pos (by omega)
        omega
    have e : (((l :: r).length : Nat) : Int) * (high + 1) = (r.length : Int) * (high + 1) + (high + 1) := by
      rw [List.length_cons, Int.natCast_add, Int.add_mul]
      simp
    show 0 ≤ mulN (max low (bandLo tick l)) (min high hi) (2 ^ i) + cntB low high tick (i + 1) (bandLo tick l - 1) r ∧ mulN (max low (bandLo tick l)) (min high hi) (2 ^ i) + cntB low high tick (i + 1) (bandLo tick l - 1) r ≤ _
    rw [e]
    omega
/-- the law's own way to count multiples -/
theorem mulN_law {l h s : Int} (hs : 0 < s) : (if h / s - (l + s - 1) / s + 1 > 0 then h / s - (l + s - 1) / s + 1 else 0) = mulN l h s := by
  have e : (l + s - 1) / s = (l - 1) / s + 1 := by
    have e2 : l + s - 1 = (l - 1) + 1 * s := by omega
    rw [e2, Int.add_mul_ediv_right _ _ (by omega)]
  rw [e]
  unfold mulN
  by_cases c : l > h
  · rw [if_pos c]
    have := Int.ediv_le_ediv hs (show h ≤ l - 1 by omega)
    rw [if_neg (by omega)]
  · rw [if_neg c]
    have := Int.ediv_le_ediv hs (show l - 1 ≤ h by omega)
    by_cases d : h / s - ((l - 1) / s + 1) + 1 > 0
    · rw [if_pos d]; omega
    · rw [if_neg d]; omega
end Rk
namespace Rk
open PySem PySem.Spec PyProof.Rows L2

/-! ### lives rise with the rank -/
theorem leO_refl (x : Option Int) : leO x x = true := by
  cases x with
  | none => rfl
  | some a => exact decide_eq_true (Int.le_refl a)
theorem leO_trans {x y z : Option Int} (a : leO x y = true) (b : leO y z = true) : leO x z = true := by
  cases z with
  | none => cases x <;> rfl
  | some c =>
    cases y with
    | none => cases b
    | some b' =>
      cases x with
      | none => cases a
      | some a' =>
        have h1 : a' ≤ b' := of_decide_eq_true a
        have h2 : b' ≤ c := of_decide_eq_true b
        exact decide_eq_true (Int.le_trans h1 h2)
theorem lifeAt_step {ls : List (Option Int)} (g : Good ls) (j : Nat) : leO (lifeAt ls j) (lifeAt ls (j + 1)) = true := by
  by_cases h : j + 1 < ls.length
  · have e0 := List.getElem?_eq_getElem (show j < ls.length by omega)
    have e1 := List.getElem?_eq_getElem h
    rw [lifeAt_lt e0, lifeAt_lt e1]
    exact g.asc j _ _ e0 e1
  · rw [lifeAt_const g.pos (j + 1) (by omega)]
    by_cases h2 : j = ls.length - 1
    · rw [h2]
      exact leO_refl _
    · rw [lifeAt_const g.pos j (by omega)]
      exact leO_refl _
theorem lifeAt_mono {ls : List (Option Int)} (g : Good ls) {j : Nat} : ∀ k, leO (lifeAt ls j) (lifeAt ls (j + k)) = true
  | 0 => leO_refl _
  | k + 1 => leO_trans (lifeAt_mono g k) (lifeAt_step g (j + k))
theorem lifeAt_le {ls : List (Option Int)} (g : Good ls) {j k : Nat} (h : j ≤ k) : leO (lifeAt ls j) (lifeAt ls k) = true := by
  have := lifeAt_mono g (j := j) (k - j)
  rw [show j + (k - j) = k by omega] at this
  exact this
/-! ### the rank of a point -/
def rkI (n : Int) : Nat := if n = 0 then 1000 else tz n.toNat
theorem tz_dvd : ∀ (i n : Nat), 0 < n → (n % 2 ^ i = 0 ↔ i ≤ tz n)
  | 0, n, _ => by
    rw [Nat.pow_zero, Nat.mod_one]
    exact ⟨fun _ => Nat.zero_le _, fun _ => rfl⟩
  | i + 1, n, h => by
    by_cases e : n % 2 = 0
    · rw [tz_even h e]
      have ih := tz_dvd i (n / 2) (by omega)
      have q : n % 2 ^ (i + 1) = 2 * (n / 2 % 2 ^ i) := by
        have e1 : n = 2 * (n / 2) := by omega
        conv => lhs; rw [e1, Nat.pow_succ, Nat.mul_comm (2 ^ i), Nat.mul_mod_mul_left]
      rw [q]
      omega
    · rw [tz_odd (by omega)]
      constructor
      · intro z
        exfalso
        have d : 2 ^ (i + 1) ∣ n := Nat.dvd_of_mod_eq_zero z
        have d2 : 2 ∣ n := Nat.dvd_trans ⟨2 ^ i, by rw [Nat.pow_succ, Nat.mul_comm]⟩ d
        omega
      · intro z
        exact absurd z (by omega)
theorem emod_pow_cast (n i : Nat) : ((n : Nat) : Int) % 2 ^ i = 0 ↔ n % 2 ^ i = 0 := by
  have e : (2 : Int) ^ i = ((2 ^ i : Nat) : Int) := by rw [Int.natCast_pow]; rfl
  rw [e, ← Int.natCast_emod]
  omega
theorem rk_dvd {n : Int} (h : 0 ≤ n) {i : Nat} (hi : i ≤ 1000) : n % 2 ^ i = 0 ↔ i ≤ rkI n := by
  unfold rkI
  by_cases z : n = 0
  · rw [if_pos z, z]
    simp [hi]
  · rw [if_neg z]
    obtain ⟨m, rfl⟩ := Int.eq_ofNat_of_zero_le h
    rw [emod_pow_cast]
    exact tz_dvd i m (by omega)
/-! ### what is kept -/
def Kept (ls : List (Option Int)) (t n : Int) : Prop := 0 ≤ n ∧ n ≤ t ∧ leO (some (t - n + 1)) (lifeAt ls (rkI n)) = true
theorem enough_iff {t n : Int} (h : 0 ≤ n) (l : Option Int) : leO (some (t - n + 1)) l = true ↔ bandLo t l ≤ n := by
  cases l with
  | none => exact ⟨fun _ => h, fun _ => rfl⟩
  | some b =>
    rw [bandLo_some]
    constructor
    · intro z
      have z' : t - n + 1 ≤ b := of_decide_eq_true z
      by_cases c : t + 1 ≤ b
      · rw [if_pos c]; exact h
      · rw [if_neg c]; omega
    · intro z
      refine decide_eq_true ?_
      by_cases c : t + 1 ≤ b
      · omega
      · rw [if_neg c] at z
        omega
theorem kept_short {ls : List (Option Int)} (h0 : 0 < ls.length) {t n : Int} : Kept (short ls) t n ↔ Kept ls t n := by
  unfold Kept
  rw [lifeAt_short h0]
def inB (t : Int) : Nat → Int → List (Option Int) → Int → Prop
  | _, _, [], _ => False
  | i, hi, l :: r, n => (bandLo t l ≤ n ∧ n ≤ hi ∧ n % 2 ^ i = 0) ∨ inB t (i + 1) (bandLo t l - 1) r n
theorem inB_le {t : Int} (ht : 0 ≤ t) : ∀ (ls : List (Option Int)) (i : Nat) (hi n : Int), (∀ l, ls.head? = some l → bandLo t l ≤ hi + 1) → (∀ (i : Nat) (x y : Option Int), ls[i]? = some x → ls[i + 1]? = some y → leO x y = true) → inB t i hi ls n → n ≤ hi
  | [], _, _, _, _, _, h => h.elim
  | l :: r, i, hi, n, hd, asc, h => by
    have h1 := hd l rfl
    rcases h with h | h
    · exact h.2.1
    · have q := inB_le ht r (i + 1) (bandLo t l - 1) n (fun m hm => by
        cases r with
        | nil => cases hm
        | cons a r' =>
          have e : a = m := by simpa using hm
          have := bandLo_mono ht (asc 0 l a rfl rfl)
          rw [← e]
          omega) (fun j x y hx hy => asc (j + 1) x y hx hy) h
      omega
theorem inB_kept {ls : List (Option Int)} (g : Good ls) {t : Int} (ht : 0 ≤ t) {n : Int} (hn : 0 ≤ n) (hnt : n ≤ t) : ∀ (r : List (Option Int)) (i : Nat) (hi : Int), ls.drop i = r → i ≤ ls.length → n ≤ hi → (i = 0 ∨ n < bandLo t (lifeAt ls (i - 1))) → (inB t i hi r n ↔ Kept ls t n)
  | [], i, hi, e, hil, hnh, hp => by
    have hi0 : i = ls.length := by
      have := congrArg List.length e
      rw [List.length_drop, List.length_nil] at this
      omega
    have h0 := g.pos
    refine ⟨fun z => z.elim, fun z => ?_⟩
    rcases hp with hp | hp
    · omega
    · have k := (enough_iff hn _).mp z.2.2
      have m : leO (lifeAt ls (rkI n)) (lifeAt ls (i - 1)) = true := by
        by_cases c : rkI n ≤ i - 1
        · exact lifeAt_le g c
        · rw [hi0, lifeAt_const h0 (rkI n) (by omega)]
          exact leO_refl _
      have := bandLo_mono ht m
      omega
  | l :: r, i, hi, e, hil, hnh, hp => by
    have hi1 : i < ls.length := by
      have := congrArg List.length e
      rw [List.length_drop, List.length_cons] at this
      omega
    have hm := g.most
    have el : lifeAt ls i = l := by
      have e2 := drop_cons (List.getElem?_eq_getElem hi1)
      rw [e] at e2
      have e3 : l = ls[i] := (List.cons.inj e2).1
      rw [lifeAt_lt (List.getElem?_eq_getElem hi1), e3]
    have er : ls.drop (i + 1) = r := by
      have e2 := drop_cons (List.getElem?_eq_getElem hi1)
      rw [e] at e2
      exact (List.cons.inj e2).2.symm
    by_cases c : bandLo t l ≤ n
    · have no : ¬ inB t (i + 1) (bandLo t l - 1) r n := by
        intro z
        have := inB_le ht r (i + 1) (bandLo t l - 1) n (fun m hm2 => by
          have e2 : ls[i + 1]? = some m := by
            rw [← er] at hm2
            rw [List.head?_drop] at hm2
            exact hm2
          have := bandLo_mono ht (g.asc i (ls[i]) m (List.getElem?_eq_getElem hi1) e2)
          rw [← lifeAt_lt (List.getElem?_eq_getElem hi1), el] at this
          omega) (fun j x y hx hy => by
            rw [← er] at hx hy
            rw [List.getElem?_drop] at hx hy
            exact g.asc (i + 1 + j) x y hx (by rw [show i + 1 + j + 1 = i + 1 + (j + 1) by omega]; exact hy)) z
        omega
      have k : Kept ls t n ↔ i ≤ rkI n := by
        constructor
        · intro z
          by_cases d : i ≤ rkI n
          · exact d
          · exfalso
            rcases hp with hp | hp
            · omega
            · have k := (enough_iff hn _).mp z.2.2
              have := bandLo_mono ht (lifeAt_le g (show rkI n ≤ i - 1 by omega))
              omega
        · intro z
          refine ⟨hn, hnt, (enough_iff hn _).mpr ?_⟩
          have := bandLo_mono ht (lifeAt_le g z)
          rw [el] at this
          omega
      rw [k, ← rk_dvd hn (by omega : i ≤ 1000)]
      constructor
      · rintro (z | z)
        · exact z.2.2
        · exact absurd z no
      · intro z
        exact .inl ⟨c, hnh, z⟩
    · have ih := inB_kept g ht hn hnt r (i + 1) (bandLo t l - 1) er (by omega) (by omega) (.inr (by
        show n < bandLo t (lifeAt ls (i + 1 - 1))
        rw [show i + 1 - 1 = i by omega, el]
        omega))
      rw [← ih]
      constructor
      · rintro (z | z)
        · exact absurd z.1 c
        · exact z
      · exact .inr
theorem inB_iff {ls : List (Option Int)} (g : Good ls) {t : Int} (ht : 0 ≤ t) {n : Int} (hn : 0 ≤ n) (hnt : n ≤ t) : inB t 0 t ls n ↔ Kept ls t n := inB_kept g ht hn hnt ls 0 t rfl (Nat.zero_le _) hnt (.inl rfl)
/-! ### the restore point -/
def rpB : List (Int × Int × Int) → Int → Option Int
  | [], _ => none
  | b :: r, e => if b.1 ≤ min b.2.1 e - min b.2.1 e % b.2.2 then some (min b.2.1 e - min b.2.1 e % b.2.2) else rpB r e
theorem mult_le {m n s : Int} (hs : 0 < s) (h : n ≤ m) (hn : n % s = 0) : n ≤ m - m % s := by
  have e1 := Int.mul_ediv_add_emod m s
  have e2 := Int.mul_ediv_add_emod n s
  have e3 := Int.ediv_le_ediv hs h
  have e4 : s * (n / s) ≤ s * (m / s) := Int.mul_le_mul_of_nonneg_left e3 (Int.le_of_lt hs)
  omega
theorem mult_self {m s : Int} (hs : 0 < s) : (m - m % s) % s = 0 := by
  have e1 := Int.mul_ediv_add_emod m s
  have e2 : m - m % s = s * (m / s) := by omega
  rw [e2]
  exact Int.mul_emod_right s _
theorem rpB_spec {t : Int} (ht : 0 ≤ t) (e : Int) : ∀ (ls : List (Option Int)) (i : Nat) (hi : Int), (∀ l, ls.head? = some l → bandLo t l ≤ hi + 1) → (∀ (i : Nat) (x y : Option Int), ls[i]? = some x → ls[i + 1]? = some y → leO x y = true) →
    (∀ p, rpB (bandsOf t i hi ls) e = some p → inB t i hi ls p ∧ p ≤ e ∧ ∀ n, inB t i hi ls n → n ≤ e → n ≤ p) ∧ (rpB (bandsOf t i hi ls) e = none → ∀ n, inB t i hi ls n → ¬ n ≤ e)
  | [], _, _, _, _ => ⟨fun p h => (by cases h), fun _ n h => h.elim⟩
  | l :: r, i, hi, hd, asc => by
    have hh : ∀ m, r.head? = some m → bandLo t m ≤ bandLo t l - 1 + 1 := fun m hm => by
      cases r with
      | nil => cases hm
      | cons a r' =>
        have e : a = m := by simpa using hm
        have := bandLo_mono ht (asc 0 l a rfl rfl)
        rw [← e]
        omega
    have ha : ∀ (i : Nat) (x y : Option Int), r[i]? = some x → r[i + 1]? = some y → leO x y = true := fun j x y hx hy => asc (j + 1) x y hx hy
    obtain ⟨i1, i2⟩ := rpB_spec ht e r (i + 1) (bandLo t l - 1) hh ha
    have p2 := pow2_pos i
    have m0 := Int.emod_nonneg (min hi e) (show (2 : Int) ^ i ≠ 0 by omega)
    have m1 := Int.emod_lt_of_pos (min hi e) p2
    have m2 := mult_self (m := min hi e) p2
    have low : ∀ n, inB t (i + 1) (bandLo t l - 1) r n → n ≤ bandLo t l - 1 := fun n z => inB_le ht r (i + 1) (bandLo t l - 1) n hh ha z
    have eu : rpB (bandsOf t i hi (l :: r)) e = if bandLo t l ≤ min hi e - min hi e % 2 ^ i then some (min hi e - min hi e % 2 ^ i) else rpB (bandsOf t (i + 1) (bandLo t l - 1) r) e := rfl
    rw [eu]
    by_cases c : bandLo t l ≤ min hi e - min hi e % 2 ^ i
    · rw [if_pos c]
      refine ⟨fun p hp => ?_, fun z => by cases z⟩
      obtain rfl : min hi e - min hi e % 2 ^ i = p := Option.some.inj hp
      refine ⟨.inl ⟨c, by omega, m2⟩, by omega, fun n hn hne => ?_⟩
      rcases hn with hn | hn
      · exact mult_le p2 (by omega) hn.2.2
      · have := low n hn
        omega
    · rw [if_neg c]
      have none1 : ∀ n, (bandLo t l ≤ n ∧ n ≤ hi ∧ n % 2 ^ i = 0) → ¬ n ≤ e := fun n hn hne => by
        have := mult_le p2 (show n ≤ min hi e by omega) hn.2.2
        omega
      refine ⟨fun p hp => ?_, fun z n hn => ?_⟩
      · obtain ⟨a1, a2, a3⟩ := i1 p hp
        refine ⟨.inr a1, a2, fun n hn hne => ?_⟩
        rcases hn with hn | hn
        · exact absurd hne (none1 n hn)
        · exact a3 n hn hne
      · rcases hn with hn | hn
        · exact none1 n hn
        · exact i2 z n hn
def rpO (ls : List (Option Int)) (t e : Int) : Option Int := rpB (bandsOf t 0 t ls) e
theorem inB_nonneg {t : Int} (ht : 0 ≤ t) : ∀ (ls : List (Option Int)) (i : Nat) (hi n : Int), (∀ l ∈ ls, ∀ v, l = some v → 0 ≤ v) → inB t i hi ls n → 0 ≤ n
  | [], _, _, _, _, h => h.elim
  | l :: r, i, hi, n, hb, h => by
    rcases h with h | h
    · have := (bandLo_le ht (hb l List.mem_cons_self)).1
      omega
    · exact inB_nonneg ht r _ _ n (fun x hx => hb x (List.mem_cons_of_mem _ hx)) h
theorem rpO_spec {ls : List (Option Int)} (g : Good ls) {t : Int} (ht : 0 ≤ t) (e : Int) :
    (∀ p, rpO ls t e = some p → Kept ls t p ∧ p ≤ e ∧ ∀ n, Kept ls t n → n ≤ e → n ≤ p) ∧ (rpO ls t e = none → ∀ n, Kept ls t n → ¬ n ≤ e) := by
  have hb : ∀ l ∈ ls, ∀ v, l = some v → 0 ≤ v := fun l hl v e => (g.bd l hl v e).1
  have hd : ∀ l, ls.head? = some l → bandLo t l ≤ t + 1 := fun l hl => (bandLo_le ht (hb l (List.mem_of_mem_head? hl))).2
  obtain ⟨a, b⟩ := rpB_spec ht e ls 0 t hd g.asc
  refine ⟨fun p hp => ?_, fun z n hn => ?_⟩
  · obtain ⟨a1, a2, a3⟩ := a p hp
    have p0 := inB_nonneg ht ls 0 t p hb a1
    have p1 := inB_le ht ls 0 t p hd g.asc a1
    exact ⟨(inB_iff g ht p0 p1).mp a1, a2, fun n hn hne => a3 n ((inB_iff g ht hn.1 hn.2.1).mpr hn) hne⟩
  · exact b z n ((inB_iff g ht hn.1 hn.2.1).mpr hn)
/-- the restore point is told by what is kept -/
theorem rpO_some {ls : List (Option Int)} (g : Good ls) {t : Int} (ht : 0 ≤ t) {e p : Int} (hp : Kept ls t p) (he : p ≤ e) (h : ∀ n, Kept ls t n → n ≤ e → n ≤ p) : rpO ls t e = some p := by
  obtain ⟨a, b⟩ := rpO_spec g ht e
  cases z : rpO ls t e with
  | none => exact absurd he (b z p hp)
  | some q =>
    obtain ⟨a1, a2, a3⟩ := a q z
    have h1 := a3 p hp he
    have h2 := h q a1 a2
    rw [show q = p by omega]
theorem rpO_none {ls : List (Option Int)} (g : Good ls) {t : Int} (ht : 0 ≤ t) {e : Int} (h : ∀ n, Kept ls t n → ¬ n ≤ e) : rpO ls t e = none := by
  obtain ⟨a, b⟩ := rpO_spec g ht e
  cases z : rpO ls t e with
  | none => rfl
  | some q =>
    obtain ⟨a1, a2, a3⟩ := a q z
    exact absurd a2 (h q a1)
theorem rpO_short {ls : List (Option Int)} (g : Good ls) {t : Int} (ht : 0 ≤ t) (e : Int) : rpO (short ls) t e = rpO ls t e := by
  obtain ⟨a, b⟩ := rpO_spec g ht e
  cases z : rpO ls t e with
  | none => exact rpO_none (good_short g) ht fun n hn => b z n ((kept_short g.pos).mp hn)
  | some q =>
    obtain ⟨a1, a2, a3⟩ := a q z
    exact rpO_some (good_short g) ht ((kept_short g.pos).mpr a1) a2 fun n hn => a3 n ((kept_short g.pos).mp hn)
def distO (ls : List (Option Int)) (t a : Int) : Option Int := (rpO ls t (t - a)).map fun p => t - a - p
theorem distO_short {ls : List (Option Int)} (g : Good ls) {t : Int} (ht : 0 ≤ t) (a : Int) : distO (short ls) t a = distO ls t a := by
  unfold distO
  rw [rpO_short g ht]
end Rk
namespace Rk
open PySem PySem.Spec PyProof.Rows L2
/-! ### worst distances, by what is kept -/
theorem leO_low {x y : Int} {l : Option Int} (h : leO (some x) l = true) (e : y ≤ x) : leO (some y) l = true := leO_trans (show leO (some y) (some x) = true from decide_eq_true e) h
theorem idx_all {a : Int} : ∀ (ls : List (Option Int)) (k : Nat), (∀ j, idx k ls a = some j → k ≤ j ∧ (∃ l, ls[j - k]? = some l ∧ leO (some (a + 2 ^ j)) l = true) ∧ ∀ i, k ≤ i → i < j → ∃ m, ls[i - k]? = some m ∧ leO (some (a + 2 ^ i)) m = false) ∧
    (idx k ls a = none → ∀ i l, ls[i]? = some l → leO (some (a + 2 ^ (k + i))) l = false)
  | [], k => ⟨fun j h => (by cases h), fun _ i l h => (by simp at h)⟩
  | x :: r, k => by
    have eu : idx k (x :: r) a = if leO (some (a + 2 ^ k)) x = true then some k else idx (k + 1) r a := rfl
    obtain ⟨i1, i2⟩ := idx_all (a := a) r (k + 1)
    rw [eu]
    by_cases c : leO (some (a + 2 ^ k)) x = true
    · rw [if_pos c]
      refine ⟨fun j hj => ?_, fun z => by cases z⟩
      obtain rfl : k = j := Option.some.inj hj
      exact ⟨Nat.le_refl _, ⟨x, by rw [Nat.sub_self]; rfl, c⟩, fun i h1 h2 => absurd h2 (by omega)⟩
    · have cf : leO (some (a + 2 ^ k)) x = false := by
        cases z : leO (some (a + 2 ^ k)) x with
        | true => exact absurd z c
        | false => rfl
      rw [if_neg c]
      refine ⟨fun j hj => ?_, fun z i l hl => ?_⟩
      · obtain ⟨a1, ⟨l, a2, a3⟩, a4⟩ := i1 j hj
        refine ⟨by omega, ⟨l, ?_, a3⟩, fun i h1 h2 => ?_⟩
        · rw [show j - k = (j - (k + 1)) + 1 by omega]
          exact a2
        · by_cases e : i = k
          · subst e
            exact ⟨x, by rw [Nat.sub_self]; rfl, cf⟩
          · obtain ⟨m, b1, b2⟩ := a4 i (by omega) h2
            exact ⟨m, by rw [show i - k = (i - (k + 1)) + 1 by omega]; exact b1, b2⟩
      · cases i with
        | zero =>
          have e : x = l := by simpa using hl
          rw [← e]
          exact cf
        | succ i =>
          have := i2 z i l (by simpa using hl)
          rw [show k + (i + 1) = k + 1 + i by omega]
          exact this
theorem idx_some {ls : List (Option Int)} {a : Int} {j : Nat} (h : idx 0 ls a = some j) : j < ls.length ∧ leO (some (a + 2 ^ j)) (lifeAt ls j) = true ∧ ∀ i, i < j → leO (some (a + 2 ^ i)) (lifeAt ls i) = false := by
  obtain ⟨_, ⟨l, a2, a3⟩, a4⟩ := (idx_all ls 0).1 j h
  rw [Nat.sub_zero] at a2
  refine ⟨(List.getElem?_eq_some_iff.mp a2).1, by rw [lifeAt_lt a2]; exact a3, fun i hi => ?_⟩
  obtain ⟨m, b1, b2⟩ := a4 i (Nat.zero_le _) hi
  rw [Nat.sub_zero] at b1
  rw [lifeAt_lt b1]
  exact b2
theorem idx_none {ls : List (Option Int)} {a : Int} (h : idx 0 ls a = none) : ∀ i, i < ls.length → leO (some (a + 2 ^ i)) (lifeAt ls i) = false := by
  intro i hi
  have e := List.getElem?_eq_getElem hi
  rw [lifeAt_lt e]
  have q := (idx_all ls 0).2 h i _ e
  rw [Nat.zero_add] at q
  exact q
theorem rk_small {n : Int} {j : Nat} (h0 : 0 < n) (h1 : n < 2 ^ j) (hj : j ≤ 1000) : rkI n < j ∧ 2 ^ rkI n ≤ 2 ^ j - n := by
  have r : rkI n < j := by
    by_cases c : rkI n < j
    · exact c
    · exfalso
      have d := (rk_dvd (by omega : 0 ≤ n) hj).mpr (by omega)
      rw [Int.emod_eq_of_lt (by omega) h1] at d
      omega
  refine ⟨r, ?_⟩
  have d1 : (2 : Int) ^ rkI n ∣ n := Int.dvd_of_emod_eq_zero ((rk_dvd (by omega : 0 ≤ n) (by omega)).mpr (Nat.le_refl _))
  have d2 : (2 : Int) ^ rkI n ∣ 2 ^ j := ⟨2 ^ (j - rkI n), by rw [← Int.pow_add]; congr 1; omega⟩
  exact Int.le_of_dvd (by omega) (Int.dvd_sub d2 d1)
theorem late_none {ls : List (Option Int)} {a : Int} {j : Nat} (hj : j ≤ 1000) (f : ∀ i, i < j → leO (some (a + 2 ^ i)) (lifeAt ls i) = false) {n : Int} (h0 : 0 < n) (hn : n ≤ 2 ^ j - 1) : ¬ Kept ls (a + 2 ^ j - 1) n := by
  intro k
  obtain ⟨r, q⟩ := rk_small h0 (by omega : n < 2 ^ j) hj
  have e := leO_low k.2.2 (show a + 2 ^ rkI n ≤ a + 2 ^ j - 1 - n + 1 by omega)
  rw [f _ r] at e
  cases e
theorem emod_le {m s : Int} (h : 0 ≤ m) (hs : 0 < s) : m % s ≤ m := by
  have e := Int.mul_ediv_add_emod m s
  have q := Int.mul_nonneg (Int.le_of_lt hs) (Int.ediv_nonneg h (Int.le_of_lt hs))
  omega
theorem lifeAt_last {ls : List (Option Int)} (h0 : 0 < ls.length) {m : Nat} (h : ls.length - 1 ≤ m) : lifeAt ls m = lifeAt ls (ls.length - 1) := by
  by_cases c : m = ls.length - 1
  · rw [c]
  · exact lifeAt_const h0 m (by omega)
theorem rkI_zero : rkI 0 = 1000 := rfl
theorem dist_at {ls : List (Option Int)} (g : Good ls) {a : Int} (ha : 0 ≤ a) {j : Nat} (h : idx 0 ls a = some j) : distO ls (a + 2 ^ j - 1) a = some (2 ^ j - 1) := by
  obtain ⟨h1, h2, h3⟩ := idx_some h
  have hm := g.most
  have p2 := pow2_pos j
  have e : a + 2 ^ j - 1 - a = 2 ^ j - 1 := by omega
  have k0 : Kept ls (a + 2 ^ j - 1) 0 := ⟨Int.le_refl _, by omega, by
    rw [rkI_zero, show a + 2 ^ j - 1 - 0 + 1 = a + 2 ^ j by omega]
    exact leO_trans h2 (lifeAt_le g (by omega))⟩
  unfold distO
  rw [e, rpO_some g (by omega) k0 (by omega) (fun n hn hne => by
    by_cases c : 0 < n
    · exact absurd hn (late_none (by omega) h3 c hne)
    · omega)]
  show some (2 ^ j - 1 - 0) = _
  rw [Int.sub_zero]
theorem dist_none {ls : List (Option Int)} (g : Good ls) {a : Int} (ha : 0 ≤ a) (h : idx 0 ls a = none) : distO ls (a + 2 ^ (ls.length - 1) - 1) a = none := by
  have h3 := idx_none h
  have hm := g.most
  have h0 := g.pos
  have p2 := pow2_pos (ls.length - 1)
  have e : a + 2 ^ (ls.length - 1) - 1 - a = 2 ^ (ls.length - 1) - 1 := by omega
  unfold distO
  rw [e, rpO_none g (by omega) (fun n hn hne => by
    by_cases c : 0 < n
    · exact late_none (by omega) (fun i hi => h3 i (by omega)) c hne hn
    · have z : n = 0 := by have := hn.1; omega
      subst z
      have k := hn.2.2
      rw [rkI_zero, lifeAt_const h0 1000 (by omega), show a + 2 ^ (ls.length - 1) - 1 - 0 + 1 = a + 2 ^ (ls.length - 1) by omega, h3 _ (by omega)] at k
      cases k)]
  rfl
theorem dist_lt {ls : List (Option Int)} (g : Good ls) {t a d : Int} (ht : 0 ≤ t) (h : distO ls t a = some d) : 0 ≤ d ∧ d ≤ t - a := by
  unfold distO at h
  cases z : rpO ls t (t - a) with
  | none => rw [z] at h; cases h
  | some p =>
    rw [z] at h
    have e : t - a - p = d := Option.some.inj h
    obtain ⟨a1, a2, _⟩ := (rpO_spec g ht (t - a)).1 p z
    have := a1.1
    omega
/-! ### the law's look, rank by rank -/
def gapP (L : Nat) (e : Int) (i : Nat) : Int := if i = L - 1 then e - e % 2 ^ i else e - (e - 2 ^ i) % (2 * 2 ^ i)
def gapF (ls : List (Option Int)) (t e : Int) (i : Nat) : Option Int := if (i = ls.length - 1 ∨ 2 ^ i ≤ e) ∧ leO (some (t - gapP ls.length e i + 1)) (lifeAt ls i) = true then some (e - gapP ls.length e i) else none
def gapL (ls : List (Option Int)) (t e : Int) (n : Nat) : List Int := (List.range n).filterMap (gapF ls t e)
theorem gapL_succ (ls : List (Option Int)) (t e : Int) (n : Nat) : gapL ls t e (n + 1) = gapL ls t e n ++ (match gapF ls t e n with | some x => [x] | none => []) := by
  unfold gapL
  rw [List.range_succ, List.filterMap_append]
  congr 1
  cases h : gapF ls t e n with
  | none => simp [List.filterMap, h]
  | some x => simp [List.filterMap, h]
/-- the candidate of a rank: in range, and of this rank's life -/
theorem gapP_at {ls : List (Option Int)} (g : Good ls) {e : Int} (he : 0 ≤ e) {i : Nat} (hi : i < ls.length) (hc : i = ls.length - 1 ∨ 2 ^ i ≤ e) : 0 ≤ gapP ls.length e i ∧ gapP ls.length e i ≤ e ∧ lifeAt ls (rkI (gapP ls.length e i)) = lifeAt ls i := by
  have p2 := pow2_pos i
  have hm := g.most
  unfold gapP
  by_cases c : i = ls.length - 1
  · rw [if_pos c]
    have m0 := Int.emod_nonneg e (show (2 : Int) ^ i ≠ 0 by omega)
    have m1 := Int.emod_lt_of_pos e p2
    have m2 := mult_self (m := e) p2
    have q0 : 0 ≤ e - e % 2 ^ i := by
      have := emod_le he p2
      omega
    refine ⟨q0, by omega, ?_⟩
    have r := (rk_dvd q0 (by omega : i ≤ 1000)).mp m2
    rw [lifeAt_last g.pos (m := rkI (e - e % 2 ^ i)) (by omega), c]
  · rw [if_neg c]
    have hc2 : 2 ^ i ≤ e := hc.resolve_left c
    have p3 : (0 : Int) < 2 * 2 ^ i := by omega
    have m0 := Int.emod_nonneg (e - 2 ^ i) (show (2 : Int) * 2 ^ i ≠ 0 by omega)
    have m1 := Int.emod_lt_of_pos (e - 2 ^ i) p3
    have m3 : (e - 2 ^ i) % (2 * 2 ^ i) ≤ e - 2 ^ i := emod_le (by omega) p3
    have dv : (2 * 2 ^ i : Int) ∣ (e - 2 ^ i) - (e - 2 ^ i) % (2 * 2 ^ i) := Int.dvd_of_emod_eq_zero (mult_self p3)
    refine ⟨by omega, by omega, ?_⟩
    have r : rkI (e - (e - 2 ^ i) % (2 * 2 ^ i)) = i := by
      obtain ⟨q, hq⟩ := dv
      have n0 : 0 ≤ e - (e - 2 ^ i) % (2 * 2 ^ i) := by omega
      have eq : e - (e - 2 ^ i) % (2 * 2 ^ i) = 2 ^ i * (2 * q + 1) := by
        have h1 : (2 : Int) ^ i * (2 * q + 1) = 2 * 2 ^ i * q + 2 ^ i := by
          rw [Int.mul_add, Int.mul_one, ← Int.mul_assoc, Int.mul_comm (2 ^ i) 2]
        omega
      have a1 := (rk_dvd n0 (by omega : i ≤ 1000)).mp (by rw [eq]; exact Int.mul_emod_right _ _)
      have a2 : ¬ i + 1 ≤ rkI (e - (e - 2 ^ i) % (2 * 2 ^ i)) := by
        intro z
        have b := (rk_dvd n0 (by omega : i + 1 ≤ 1000)).mpr z
        rw [eq, Int.pow_succ, Int.mul_emod_mul_of_pos _ _ p2, show (2 * q + 1) % 2 = 1 by omega, Int.mul_one] at b
        omega
      omega
    rw [r]
theorem gapP_max {ls : List (Option Int)} (g : Good ls) {t e n : Int} (hn : Kept ls t n) (hne : n ≤ e) : ∃ i, i < ls.length ∧ (i = ls.length - 1 ∨ 2 ^ i ≤ e) ∧ n ≤ gapP ls.length e i ∧ lifeAt ls i = lifeAt ls (rkI n) := by
  have h0 := g.pos
  have hm := g.most
  have n0 := hn.1
  by_cases c : rkI n < ls.length - 1
  · have p2 := pow2_pos (rkI n)
    have np : 0 < n := by
      by_cases z : n = 0
      · subst z
        rw [rkI_zero] at c
        omega
      · omega
    have d : (2 : Int) ^ rkI n ∣ n := Int.dvd_of_emod_eq_zero ((rk_dvd n0 (by omega)).mpr (Nat.le_refl _))
    have ge : (2 : Int) ^ rkI n ≤ n := Int.le_of_dvd np d
    refine ⟨rkI n, by omega, .inr (by omega), ?_, rfl⟩
    unfold gapP
    rw [if_neg (by omega)]
    obtain ⟨q, hq⟩ := d
    have odd : q % 2 = 1 := by
      have z : ¬ rkI n + 1 ≤ rkI n := by omega
      rw [← rk_dvd n0 (by omega : rkI n + 1 ≤ 1000)] at z
      have : ¬ (2 : Int) ^ rkI n * q % (2 ^ rkI n * 2) = 0 := by
        rw [← hq, ← Int.pow_succ]
        exact z
      rw [Int.mul_emod_mul_of_pos _ _ p2] at this
      by_cases c2 : q % 2 = 1
      · exact c2
      · exfalso
        rw [show q % 2 = 0 by omega, Int.mul_zero] at this
        exact this rfl
    have p3 : (0 : Int) < 2 * 2 ^ rkI n := by omega
    have dz : (n - 2 ^ rkI n) % (2 * 2 ^ rkI n) = 0 := by
      refine Int.emod_eq_zero_of_dvd ⟨q / 2, ?_⟩
      have e1 : q = 2 * (q / 2) + 1 := by omega
      have e2 : n = 2 ^ rkI n * (2 * (q / 2) + 1) := by rw [← e1]; exact hq
      have h1 : (2 : Int) ^ rkI n * (2 * (q / 2) + 1) = 2 * 2 ^ rkI n * (q / 2) + 2 ^ rkI n := by
        rw [Int.mul_add, Int.mul_one, ← Int.mul_assoc, Int.mul_comm (2 ^ rkI n) 2]
      omega
    have := mult_le p3 (show n - 2 ^ rkI n ≤ e - 2 ^ rkI n by omega) dz
    omega
  · refine ⟨ls.length - 1, by omega, .inl rfl, ?_, ?_⟩
    · unfold gapP
      rw [if_pos rfl]
      exact mult_le (pow2_pos _) hne ((rk_dvd n0 (by omega)).mpr (by omega))
    · exact (lifeAt_last h0 (by omega)).symm
theorem gapL_mem {ls : List (Option Int)} {t e : Int} {n : Nat} {x : Int} : x ∈ gapL ls t e n ↔ ∃ i, i < n ∧ gapF ls t e i = some x := by
  unfold gapL
  rw [List.mem_filterMap]
  constructor
  · rintro ⟨i, hi, h⟩
    exact ⟨i, List.mem_range.mp hi, h⟩
  · rintro ⟨i, hi, h⟩
    exact ⟨i, List.mem_range.mpr hi, h⟩
/-- the least one of the law's list is the distance -/
theorem gap_dist {ls : List (Option Int)} (g : Good ls) {t a : Int} (h0 : 0 ≤ a) (h1 : a ≤ t) :
    (gapL ls t (t - a) ls.length = [] ∧ distO ls t a = none) ∨ ∃ d, distO ls t a = some d ∧ d ∈ gapL ls t (t - a) ls.length ∧ ∀ x ∈ gapL ls t (t - a) ls.length, d ≤ x := by
  have ht : 0 ≤ t := by omega
  have he : 0 ≤ t - a := by omega
  have sound : ∀ x, x ∈ gapL ls t (t - a) ls.length → ∃ n, Kept ls t n ∧ n ≤ t - a ∧ x = t - a - n := by
    intro x hx
    obtain ⟨i, hi, hf⟩ := gapL_mem.mp hx
    unfold gapF at hf
    by_cases c : (i = ls.length - 1 ∨ 2 ^ i ≤ t - a) ∧ leO (some (t - gapP ls.length (t - a) i + 1)) (lifeAt ls i) = true
    · rw [if_pos c] at hf
      obtain ⟨b0, b1, b2⟩ := gapP_at g he hi c.1
      exact ⟨_, ⟨b0, by omega, by rw [b2]; exact c.2⟩, b1, (Option.some.inj hf).symm⟩
    · rw [if_neg c] at hf
      cases hf
  have full : ∀ n, Kept ls t n → n ≤ t - a → ∃ x, x ∈ gapL ls t (t - a) ls.length ∧ x ≤ t - a - n := by
    intro n hn hne
    obtain ⟨i, hi, hc, hp, hl⟩ := gapP_max g hn hne
    refine ⟨t - a - gapP ls.length (t - a) i, gapL_mem.mpr ⟨i, hi, ?_⟩, by omega⟩
    unfold gapF
    refine if_pos ⟨hc, ?_⟩
    rw [hl]
    exact leO_low hn.2.2 (by omega)
  obtain ⟨s1, s2⟩ := rpO_spec g ht (t - a)
  cases z : rpO ls t (t - a) with
  | none =>
    refine .inl ⟨?_, by unfold distO; rw [z]; rfl⟩
    cases e : gapL ls t (t - a) ls.length with
    | nil => rfl
    | cons x r =>
      obtain ⟨n, hn, hne, _⟩ := sound x (by rw [e]; exact List.mem_cons_self)
      exact absurd hne (s2 z n hn)
  | some p =>
    obtain ⟨k1, k2, k3⟩ := s1 p z
    refine .inr ⟨t - a - p, by unfold distO; rw [z]; rfl, ?_, fun x hx => ?_⟩
    · obtain ⟨x, hx, hxl⟩ := full p k1 k2
      obtain ⟨n, hn, hne, ex⟩ := sound x hx
      have := k3 n hn hne
      rw [show t - a - p = x by omega]
      exact hx
    · obtain ⟨n, hn, hne, ex⟩ := sound x hx
      have := k3 n hn hne
      omega
end Rk
namespace Rk
open PySem PySem.Spec PyProof.Rows L2

/-! ### lists of kept points -/
def keptB (ls : List (Option Int)) (t n : Int) : Bool := decide (n ≤ t) && leO (some (t - n + 1)) (lifeAt ls (rkI n))
theorem keptB_iff {ls : List (Option Int)} {t n : Int} (h : 0 ≤ n) : keptB ls t n = true ↔ Kept ls t n := by
  unfold keptB Kept
  rw [Bool.and_eq_true, decide_eq_true_iff]
  exact ⟨fun z => ⟨h, z⟩, fun z => z.2⟩
theorem filter_yes {α : Type} (p : α → Bool) {x : α} (h : p x = true) : List.filter p [x] = [x] := by simp [List.filter, h]
theorem filter_no {α : Type} (p : α → Bool) {x : α} (h : p x = false) : List.filter p [x] = [] := by simp [List.filter, h]
/-- the last one of those that are p -/
theorem filter_last (p : Nat → Bool) : ∀ n, ((((List.range n).filter p).getLast? = none ∧ ∀ k, k < n → p k = false) ∨ ∃ m, ((List.range n).filter p).getLast? = some m ∧ m < n ∧ p m = true ∧ ∀ k, k < n → p k = true → k ≤ m)
  | 0 => .inl ⟨rfl, fun k h => absurd h (by omega)⟩
  | n + 1 => by
    rw [List.range_succ, List.filter_append]
    by_cases h : p n = true
    · refine .inr ⟨n, ?_, by omega, h, fun k hk _ => by omega⟩
      simp [List.filter, h]
    · have hf : p n = false := by simpa using h
      have e : List.filter p [n] = [] := by simp [List.filter, hf]
      rw [e, List.append_nil]
      rcases filter_last p n with ⟨a, b⟩ | ⟨m, a, b, c, d⟩
      · refine .inl ⟨a, fun k hk => ?_⟩
        by_cases z : k = n
        · rw [z]; exact hf
        · exact b k (by omega)
      · refine .inr ⟨m, a, by omega, c, fun k hk hp => ?_⟩
        by_cases z : k = n
        · rw [z, hf] at hp
          cases hp
        · exact d k (by omega) hp
/-- all kept points up to now -/
def keptL (ls : List (Option Int)) (t : Nat) : List Nat := (List.range (t + 1)).filter fun n => keptB ls t ((n : Nat) : Int)
theorem old_last {ls : List (Option Int)} (g : Good ls) (t : Nat) (e : Int) (he : e ≤ t) : rpO ls t e = (((keptL ls t).filter fun n => decide (((n : Nat) : Int) ≤ e)).getLast?).map fun n => ((n : Nat) : Int) := by
  unfold keptL
  rw [List.filter_filter]
  rcases filter_last (fun n => (decide (((n : Nat) : Int) ≤ e) && keptB ls t ((n : Nat) : Int))) (t + 1) with ⟨a, b⟩ | ⟨m, a, b, c, d⟩
  · rw [a]
    refine rpO_none g (by omega) fun n hn hne => ?_
    obtain ⟨k, rfl⟩ := Int.eq_ofNat_of_zero_le hn.1
    have q := b k (by have := hn.2.1; omega)
    rw [decide_eq_true hne, Bool.true_and, (keptB_iff hn.1).mpr hn] at q
    cases q
  · rw [a]
    rw [Bool.and_eq_true, decide_eq_true_iff] at c
    refine rpO_some g (by omega) ((keptB_iff (Int.natCast_nonneg _)).mp c.2) c.1 fun n hn hne => ?_
    obtain ⟨k, rfl⟩ := Int.eq_ofNat_of_zero_le hn.1
    have q := d k (by have := hn.2.1; omega) (by rw [decide_eq_true hne, Bool.true_and]; exact (keptB_iff hn.1).mpr hn)
    show ((k : Nat) : Int) ≤ ((m : Nat) : Int)
    omega
/-! ### where nothing is kept nothing is counted -/
theorem mulN_zero {l h s : Int} (hs : 0 < s) (n : ∀ x, l ≤ x → x ≤ h → ¬ x % s = 0) : mulN l h s = 0 := by
  unfold mulN
  by_cases c : l > h
  · exact if_pos c
  · rw [if_neg c]
    have q := mult_self (m := h) hs
    have m1 := Int.emod_nonneg h (show s ≠ 0 by omega)
    have q2 : ¬ l ≤ h - h % s := fun z => n _ z (by omega) q
    have e1 := Int.mul_ediv_add_emod h s
    have e2 := Int.mul_ediv_add_emod (l - 1) s
    have e3 := Int.emod_nonneg (l - 1) (show s ≠ 0 by omega)
    have e4 := Int.emod_lt_of_pos (l - 1) hs
    have d1 : h / s ≤ (l - 1) / s := by
      rw [Int.le_ediv_iff_mul_le hs, Int.mul_comm]
      omega
    have d2 := Int.ediv_le_ediv hs (show l - 1 ≤ h by omega)
    omega
theorem cntB_zero {low high t : Int} : ∀ (ls : List (Option Int)) (i : Nat) (hi : Int), (∀ n, low ≤ n → n ≤ high → ¬ inB t i hi ls n) → cntB low high t i hi ls = 0
  | [], _, _, _ => rfl
  | l :: r, i, hi, h => by
    have e1 : mulN (max low (bandLo t l)) (min high hi) (2 ^ i) = 0 := mulN_zero (pow2_pos i) fun x h1 h2 z => h x (by omega) (by omega) (.inl ⟨by omega, by omega, z⟩)
    have e2 := cntB_zero r (i + 1) (bandLo t l - 1) fun n h1 h2 z => h n h1 h2 (.inr z)
    show mulN (max low (bandLo t l)) (min high hi) (2 ^ i) + cntB low high t (i + 1) (bandLo t l - 1) r = 0
    rw [e1, e2]
    rfl
theorem cnt_none {ls : List (Option Int)} (g : Good ls) {t low high : Int} (ht : 0 ≤ t) (h0 : 0 ≤ low) (h : ∀ n, low ≤ n → n ≤ high → ¬ Kept ls t n) : cntB low high t 0 t (short ls) = 0 := by
  have g2 := good_short g
  refine cntB_zero (short ls) 0 t fun n h1 h2 z => ?_
  have n1 := inB_le ht (short ls) 0 t n (fun l hl => (bandLo_le ht (fun v e => (g2.bd l (List.mem_of_mem_head? hl) v e).1)).2) g2.asc z
  exact h n h1 h2 ((kept_short g.pos).mp ((inB_iff g2 ht (by omega) n1).mp z))
end Rk
namespace Rk
open PySem PySem.Spec PyProof.Rows L2

/-! ### lists that the heap holds, one by one -/
def LAt (H : Hp) : List V → List (List V) → Prop
  | [], [] => True
  | x :: xs, y :: ys => (∃ t, x = .ref t ∧ H t = some (.lst y)) ∧ LAt H xs ys
  | _, _ => False
theorem LAt.length {H : Hp} : ∀ {xs : List V} {ps : List (List V)}, LAt H xs ps → xs.length = ps.length
  | [], [], _ => rfl
  | _ :: _, _ :: _, h => congrArg (· + 1) (LAt.length h.2)
  | [], _ :: _, h => h.elim
  | _ :: _, [], h => h.elim
theorem LAt.same {H H' : Hp} (s : Same H H') : ∀ {xs : List V} {ps : List (List V)}, LAt H xs ps → LAt H' xs ps
  | [], [], _ => trivial
  | _ :: _, _ :: _, ⟨⟨t, e, h⟩, r⟩ => ⟨⟨t, e, s _ _ h⟩, LAt.same s r⟩
  | [], _ :: _, h => h.elim
  | _ :: _, [], h => h.elim
/-- as same, but for what stands at one place that none of them is -/
theorem LAt.but {H H' : Hp} {D : Addr} (hD : ∀ y, H D = some (.lst y) → False) (s : ∀ b o, H b = some o → b ≠ D → H' b = some o) : ∀ {xs : List V} {ps : List (List V)}, LAt H xs ps → LAt H' xs ps
  | [], [], _ => trivial
  | _ :: _, y :: _, ⟨⟨t, e, h⟩, r⟩ => ⟨⟨t, e, s _ _ h (fun z => hD y (z ▸ h))⟩, LAt.but hD s r⟩
  | [], _ :: _, h => h.elim
  | _ :: _, [], h => h.elim
theorem LAt.snoc {H : Hp} {t : Addr} {p : List V} (e : H t = some (.lst p)) : ∀ {xs : List V} {ps : List (List V)}, LAt H xs ps → LAt H (xs ++ [.ref t]) (ps ++ [p])
  | [], [], _ => ⟨⟨t, rfl, e⟩, trivial⟩
  | _ :: _, _ :: _, ⟨a, r⟩ => ⟨a, LAt.snoc e r⟩
  | [], _ :: _, h => h.elim
  | _ :: _, [], h => h.elim
theorem LAt.get {H : Hp} : ∀ {xs : List V} {ps : List (List V)} {i : Nat} {p : List V}, LAt H xs ps → ps[i]? = some p → ∃ t, xs[i]? = some (.ref t) ∧ H t = some (.lst p)
  | [], [], i, p, _, e => by simp at e
  | x :: _, q :: _, 0, p, ⟨⟨t, a, h⟩, r⟩, e => by
    have e1 : q = p := by simpa using e
    exact ⟨t, by rw [a]; rfl, by rw [← e1]; exact h⟩
  | _ :: xs, _ :: ps, i + 1, p, ⟨_, r⟩, e => LAt.get (xs := xs) (ps := ps) (i := i) r (by simpa using e)
  | [], _ :: _, _, _, h, _ => h.elim
  | _ :: _, [], _, _, h, _ => h.elim
theorem LAt.upd {H : Hp} {D : Addr} {o : HO} : ∀ {xs : List V} {ps : List (List V)}, (∀ x ∈ xs, x ≠ V.ref D) → LAt H xs ps → LAt (L2.upd H D o) xs ps
  | [], [], _, _ => trivial
  | x :: _, _ :: _, n, ⟨⟨t, e, h⟩, r⟩ => ⟨⟨t, e, by
      rw [upd_ne (fun z => n x List.mem_cons_self (by rw [e, z]))]
      exact h⟩, LAt.upd (fun y hy => n y (List.mem_cons_of_mem _ hy)) r⟩
  | [], _ :: _, _, h => h.elim
  | _ :: _, [], _, h => h.elim
/-! ### no distance is greater than the worst one -/
theorem dist_le {ls : List (Option Int)} (g : Good ls) {a t : Int} (ha : 0 ≤ a) (ht : a ≤ t) {j : Nat} (h : idx 0 ls a = some j) : ∃ d, distO ls t a = some d ∧ 0 ≤ d ∧ d ≤ 2 ^ j - 1 ∧ d ≤ t - a := by
  obtain ⟨h1, h2, h3⟩ := idx_some h
  have hm := g.most
  have p2 := pow2_pos j
  have he : 0 ≤ t - a := by omega
  have m0 := Int.emod_nonneg (t - a) (show (2 : Int) ^ j ≠ 0 by omega)
  have m1 := Int.emod_lt_of_pos (t - a) p2
  have m2 := mult_self (m := t - a) p2
  have m3 := emod_le he p2
  have kp : Kept ls t (t - a - (t - a) % 2 ^ j) := by
    refine ⟨by omega, by omega, ?_⟩
    have r := (rk_dvd (by omega : 0 ≤ t - a - (t - a) % 2 ^ j) (by omega : j ≤ 1000)).mp m2
    exact leO_low (leO_trans h2 (lifeAt_le g r)) (by omega)
  obtain ⟨s1, s2⟩ := rpO_spec g (by omega : 0 ≤ t) (t - a)
  cases e : rpO ls t (t - a) with
  | none => exact absurd (show t - a - (t - a) % 2 ^ j ≤ t - a by omega) (s2 e _ kp)
  | some p =>
    obtain ⟨k1, k2, k3⟩ := s1 p e
    have := k3 _ kp (by omega)
    have := k1.1
    exact ⟨t - a - p, by unfold distO; rw [e]; rfl, by omega, by omega, by omega⟩
/-- all gaps of an age from its own tick on -/
def gapsL (ls : List (Option Int)) (a n : Nat) : List (Option Int) := (List.range n).map fun i : Nat => distO ls ((a : Int) + (i : Int)) (a : Int)
theorem gapsL_at {ls : List (Option Int)} {a n i : Nat} (h : i < n) : (gapsL ls a n)[i]? = some (distO ls ((a : Int) + (i : Int)) (a : Int)) := by
  unfold gapsL
  rw [List.getElem?_map, List.getElem?_range h]
  rfl
theorem gapsL_len (ls : List (Option Int)) (a n : Nat) : (gapsL ls a n).length = n := by
  unfold gapsL
  rw [List.length_map, List.length_range]
/-- without a worst distance some gap is None, at the tick told -/
theorem gaps_none {ls : List (Option Int)} (g : Good ls) {a n : Nat} (h : idx 0 ls (a : Int) = none) (hn : 2 ^ ((short ls).length - 1) ≤ n) : none ∈ gapsL ls a n := by
  have g2 := good_short g
  have p2 : 0 < 2 ^ ((short ls).length - 1) := Nat.pow_pos (by decide)
  have e := dist_none g2 (by omega : (0 : Int) ≤ (a : Int)) (by
    have e := due_short ls (a : Int)
    rw [due_idx, due_idx, h] at e
    cases z : idx 0 (short ls) (a : Int) with
    | none => rfl
    | some j => rw [z] at e; cases e)
  have c : ((2 ^ ((short ls).length - 1) : Nat) : Int) = (2 : Int) ^ ((short ls).length - 1) := by rw [Int.natCast_pow]; rfl
  refine List.mem_map.mpr ⟨2 ^ ((short ls).length - 1) - 1, List.mem_range.mpr (by omega), ?_⟩
  rw [← distO_short g (by omega)]
  rw [show (a : Int) + ((2 ^ ((short ls).length - 1) - 1 : Nat) : Int) = (a : Int) + 2 ^ ((short ls).length - 1) - 1 by omega]
  exact e
/-- the gaps with a worst distance: ints, the greatest first at its own place -/
theorem gaps_some {ls : List (Option Int)} (g : Good ls) {a n j : Nat} (h : idx 0 ls (a : Int) = some j) (hn : 2 ^ j ≤ n) :
    ∃ ds : List Int, gapsL ls a n = ds.map some ∧ ds.length = n ∧ ds[2 ^ j - 1]? = some (2 ^ j - 1) ∧ (∀ d ∈ ds, d ≤ 2 ^ j - 1) ∧ (∀ (i : Nat) d, ds[i]? = some d → d ≤ i ∧ 0 ≤ d) := by
  have p2 : 0 < 2 ^ j := Nat.pow_pos (by decide)
  have c : ((2 ^ j : Nat) : Int) = (2 : Int) ^ j := by rw [Int.natCast_pow]; rfl
  have one : ∀ i : Nat, ∃ d, distO ls ((a : Int) + (i : Int)) (a : Int) = some d ∧ 0 ≤ d ∧ d ≤ 2 ^ j - 1 ∧ d ≤ (i : Int) := fun i => by
    obtain ⟨d, d1, d2, d3, d4⟩ := dist_le g (by omega : (0 : Int) ≤ (a : Int)) (show (a : Int) ≤ (a : Int) + (i : Int) by omega) h
    exact ⟨d, d1, d2, d3, by omega⟩
  let f : Nat → Int := fun i => (distO ls ((a : Int) + (i : Int)) (a : Int)).getD 0
  have hf : ∀ i : Nat, distO ls ((a : Int) + (i : Int)) (a : Int) = some (f i) := fun i => by
    obtain ⟨d, d1, _⟩ := one i
    show _ = some ((distO ls ((a : Int) + (i : Int)) (a : Int)).getD 0)
    rw [d1]
    rfl
  have fb : ∀ i : Nat, 0 ≤ f i ∧ f i ≤ 2 ^ j - 1 ∧ f i ≤ (i : Int) := fun i => by
    obtain ⟨d, d1, d2, d3, d4⟩ := one i
    have e : f i = d := by
      have := hf i
      rw [d1] at this
      exact (Option.some.inj this).symm
    rw [e]
    exact ⟨d2, d3, d4⟩
  refine ⟨(List.range n).map f, ?_, by rw [List.length_map, List.length_range], ?_, ?_, ?_⟩
  · unfold gapsL
    rw [List.map_map]
    exact List.map_congr_left fun i _ => hf i
  · rw [List.getElem?_map, List.getElem?_range (by omega)]
    show some (f (2 ^ j - 1)) = _
    have e := dist_at g (by omega : (0 : Int) ≤ (a : Int)) h
    have q := hf (2 ^ j - 1)
    rw [show (a : Int) + ((2 ^ j - 1 : Nat) : Int) = (a : Int) + 2 ^ j - 1 by omega, e] at q
    exact congrArg some (Option.some.inj q).symm
  · intro d hd
    obtain ⟨i, _, rfl⟩ := List.mem_map.mp hd
    exact (fb i).2.1
  · intro i d hd
    rw [List.getElem?_map] at hd
    cases e : (List.range n)[i]? with
    | none => rw [e] at hd; cases hd
    | some k =>
      rw [e] at hd
      have hk := (List.getElem?_eq_some_iff.mp e)
      obtain ⟨hk1, hk2⟩ := hk
      rw [List.getElem_range] at hk2
      have e2 : f k = d := Option.some.inj hd
      rw [← e2, ← hk2]
      exact ⟨(fb i).2.2, (fb i).1⟩
theorem gapO_inj {x y : Option Nat} (h : gapO x = gapO y) : x = y := by
  cases x with
  | none => cases y with
    | none => rfl
    | some j => cases h
  | some i => cases y with
    | none => cases h
    | some j =>
      have e : (2 : Int) ^ i - 1 = 2 ^ j - 1 := Option.some.inj h
      have e2 : (2 : Int) ^ i = 2 ^ j := by omega
      have e3 : (2 : Nat) ^ i = 2 ^ j := by
        have a1 := pow2_natAbs i
        have a2 := pow2_natAbs j
        rw [← a1, ← a2, e2]
      have e4 : i = j := by
        rcases Nat.lt_trichotomy i j with h | h | h
        · have := Nat.pow_lt_pow_right (a := 2) (by decide) h
          omega
        · exact h
        · have := Nat.pow_lt_pow_right (a := 2) (by decide) h
          omega
      rw [e4]
theorem idx_short (ls : List (Option Int)) (a : Int) : idx 0 (short ls) a = idx 0 ls a := by
  have e := due_short ls a
  rw [due_idx, due_idx] at e
  exact gapO_inj e
end Rk
namespace Rk
open PySem PySem.Spec PyProof.Rows L2

/-! ### wishes -/
def wV (p : Int × Int) : List V := [.int p.1, .int p.2]
structure WOk (ws : List (Int × Int)) : Prop where
  bd : ∀ p ∈ ws, 0 ≤ p.1 ∧ p.1 ≤ 10 ^ 18 ∧ 0 ≤ p.2 ∧ p.2 ≤ 10 ^ 18
  asc : ws.Pairwise fun p q => p.1 < q.1 ∧ p.2 < q.2
  pos : 0 < ws.length
  most : ws.length ≤ 12
def okAt (ls : List (Option Int)) (p : Int × Int) : Bool := leO (due 0 ls p.1) (some p.2)
def stepAt (ws : List (Int × Int)) (a : Int) : Option (Int × Int) := ws.find? fun p => decide (a ≤ p.1)
/-! ### how far a distance reaches -/
def rch (w : Int) : List (Option Int × Int) → Option Int → Option Int
  | [], r => r
  | p :: t, r => rch w t (if p.2 ≤ w then p.1 else r)
theorem prom_ge : ∀ (ls : List (Option Int)) (i : Nat) (r : Option Int), ∀ p ∈ prom i r ls, 2 ^ i - 1 ≤ p.2
  | [], _, _, p, hp => nomatch hp
  | l :: t, i, r, p, hp => by
    have h' : p ∈ (if leO (offO i l) r = true then prom (i + 1) r t else (offO i l, 2 ^ i - 1) :: prom (i + 1) (offO i l) t) := hp
    have p2 : (2 : Int) ^ (i + 1) = 2 ^ i * 2 := Int.pow_succ _ _
    have p0 := pow2_pos i
    by_cases c : leO (offO i l) r = true
    · rw [if_pos c] at h'
      have := prom_ge t (i + 1) r p h'
      omega
    · rw [if_neg c] at h'
      rcases List.mem_cons.mp h' with e | h''
      · rw [e]
        show (2 : Int) ^ i - 1 ≤ 2 ^ i - 1
        omega
      · have := prom_ge t (i + 1) _ p h''
        omega
theorem rch_stay {w : Int} : ∀ (ps : List (Option Int × Int)) (r : Option Int), (∀ p ∈ ps, w < p.2) → rch w ps r = r
  | [], _, _ => rfl
  | p :: t, r, h => by
    show rch w t (if p.2 ≤ w then p.1 else r) = r
    rw [if_neg (by have := h p List.mem_cons_self; omega)]
    exact rch_stay t r fun q hq => h q (List.mem_cons_of_mem _ hq)
theorem due_far {w a : Int} {ls : List (Option Int)} {i : Nat} (h : w < 2 ^ i - 1) : leO (due i ls a) (some w) = false := by
  cases e : due i ls a with
  | none => rfl
  | some g =>
    have := prom_due.due_ge ls i a g e
    exact decide_eq_false (by omega)
theorem off_le (a : Int) (i : Nat) (l : Option Int) : leO (some (a + 2 ^ i)) l = leO (some a) (offO i l) := by
  cases l with
  | none => rfl
  | some x =>
    show decide (a + 2 ^ i ≤ x) = decide (a ≤ x - 2 ^ i)
    rw [decide_eq_decide]
    omega
theorem leO_not {x y : Option Int} (h : ¬ leO x y = true) : leO y x = true := by
  cases x with
  | none => cases y <;> rfl
  | some a =>
    cases y with
    | none => exact absurd rfl h
    | some b =>
      have : ¬ a ≤ b := fun z => h (decide_eq_true z)
      exact decide_eq_true (by omega)
theorem rch_due {w a : Int} : ∀ (ls : List (Option Int)) (i : Nat) (r : Option Int), 2 ^ i - 1 ≤ w → leO (some a) (rch w (prom i r ls) r) = (leO (some a) r || leO (due i ls a) (some w))
  | [], _, r, _ => by
    show leO (some a) r = (leO (some a) r || false)
    rw [Bool.or_false]
  | l :: t, i, r, h => by
    have ed : due i (l :: t) a = if leO (some a) (offO i l) = true then some (2 ^ i - 1) else due (i + 1) t a := by
      show (if leO (some (a + 2 ^ i)) l = true then some (2 ^ i - 1) else due (i + 1) t a) = _
      rw [off_le]
    have here : leO (some (2 ^ i - 1 : Int)) (some w) = true := decide_eq_true h
    -- what follows, whatever the reach
    have next : ∀ r', leO (some a) (rch w (prom (i + 1) r' t) r') = (leO (some a) r' || leO (due (i + 1) t a) (some w)) := fun r' => by
      by_cases c : (2 : Int) ^ (i + 1) - 1 ≤ w
      · exact rch_due t (i + 1) r' c
      · rw [rch_stay _ _ (fun p hp => by have := prom_ge t (i + 1) r' p hp; omega), due_far (by omega), Bool.or_false]
    rw [ed]
    show leO (some a) (rch w (if leO (offO i l) r = true then prom (i + 1) r t else (offO i l, 2 ^ i - 1) :: prom (i + 1) (offO i l) t) r) = _
    by_cases c : leO (offO i l) r = true
    · rw [if_pos c, next r]
      by_cases d : leO (some a) (offO i l) = true
      · rw [if_pos d, leO_trans d c, Bool.true_or, Bool.true_or]
      · rw [if_neg d]
    · rw [if_neg c]
      show leO (some a) (rch w (prom (i + 1) (offO i l) t) (if (2 : Int) ^ i - 1 ≤ w then offO i l else r)) = _
      rw [if_pos h, next (offO i l)]
      by_cases d : leO (some a) (offO i l) = true
      · rw [if_pos d, d, here, Bool.true_or, Bool.or_true]
      · rw [if_neg d]
        have df : leO (some a) (offO i l) = false := by
          cases z : leO (some a) (offO i l) with
          | true => exact absurd z d
          | false => rfl
        have rf : leO (some a) r = false := by
          cases z : leO (some a) r with
          | true => exact absurd (leO_trans z (leO_not c)) d
          | false => rfl
        rw [df, rf]
def reachO (ls : List (Option Int)) (w : Int) : Option Int := rch w (prom 0 (some (-1)) ls) (some (-1))
theorem reach_ok {ls : List (Option Int)} {w a : Int} (hw : 0 ≤ w) (ha : 0 ≤ a) : leO (due 0 ls a) (some w) = leO (some a) (reachO ls w) := by
  unfold reachO
  rw [rch_due ls 0 (some (-1)) (by simpa using hw)]
  have : leO (some a) (some (-1)) = false := decide_eq_false (by omega)
  rw [this, Bool.false_or]
theorem reach_low {ls : List (Option Int)} {w : Int} (hw : 0 ≤ w) : leO (some (-1)) (reachO ls w) = true := by
  unfold reachO
  rw [rch_due ls 0 (some (-1)) (by simpa using hw)]
  have : leO (some (-1)) (some (-1)) = true := rfl
  rw [this, Bool.true_or]
/-! ### the first age that is broken -/
def fbL (ls : List (Option Int)) : List (Int × Int) → Option Int
  | [] => none
  | p :: t => if leO ((reachO ls p.2).map (· + 1)) (some p.1) = true then (reachO ls p.2).map (· + 1) else fbL ls t
theorem fb_head {ls : List (Option Int)} {p : Int × Int} : leO ((reachO ls p.2).map (· + 1)) (some p.1) = true ↔ leO (some p.1) (reachO ls p.2) = false := by
  cases e : reachO ls p.2 with
  | none => exact ⟨fun z => (by cases z), fun z => (by cases z)⟩
  | some r =>
    constructor
    · intro z
      have z' : r + 1 ≤ p.1 := of_decide_eq_true z
      exact decide_eq_false (by omega)
    · intro z
      have z' : ¬ p.1 ≤ r := of_decide_eq_false z
      exact decide_eq_true (show r + 1 ≤ p.1 by omega)
theorem fb_none {ls : List (Option Int)} : ∀ ws : List (Int × Int), (∀ p ∈ ws, 0 ≤ p.1 ∧ 0 ≤ p.2) → (fbL ls ws = none ↔ ws.all (okAt ls) = true)
  | [], _ => ⟨fun _ => rfl, fun _ => rfl⟩
  | p :: t, h => by
    have ih := fb_none (ls := ls) t fun q hq => h q (List.mem_cons_of_mem _ hq)
    have hp := h p List.mem_cons_self
    have eo : okAt ls p = leO (some p.1) (reachO ls p.2) := reach_ok hp.2 hp.1
    show (if leO ((reachO ls p.2).map (· + 1)) (some p.1) = true then (reachO ls p.2).map (· + 1) else fbL ls t) = none ↔ _
    rw [List.all_cons, eo]
    by_cases c : leO ((reachO ls p.2).map (· + 1)) (some p.1) = true
    · rw [if_pos c, fb_head.mp c, Bool.false_and]
      refine ⟨fun z => ?_, fun z => by cases z⟩
      rw [z] at c
      cases c
    · have e : leO (some p.1) (reachO ls p.2) = true := by
        cases z : leO (some p.1) (reachO ls p.2) with
        | true => rfl
        | false => exact absurd (fb_head.mpr z) c
      rw [if_neg c, e, Bool.true_and]
      exact ih
theorem fb_some {ls : List (Option Int)} : ∀ (ws : List (Int × Int)) (b : Int), (∀ p ∈ ws, 0 ≤ p.1 ∧ 0 ≤ p.2) → (ws.Pairwise fun p q => p.1 < q.1 ∧ p.2 < q.2) → fbL ls ws = some b →
    0 ≤ b ∧ (∃ q, stepAt ws b = some q ∧ b ≤ q.1 ∧ leO (due 0 ls b) (some q.2) = false) ∧ ∀ a, 0 ≤ a → a < b → ∀ q, stepAt ws a = some q → leO (due 0 ls a) (some q.2) = true
  | [], _, _, _, h => by cases h
  | p :: t, b, h, asc, hb => by
    have hp := h p List.mem_cons_self
    have hb' : (if leO ((reachO ls p.2).map (· + 1)) (some p.1) = true then (reachO ls p.2).map (· + 1) else fbL ls t) = some b := hb
    have low := reach_low (ls := ls) hp.2
    have st : ∀ a, stepAt (p :: t) a = if a ≤ p.1 then some p else stepAt t a := fun a => by
      unfold stepAt
      rw [List.find?_cons]
      by_cases c : a ≤ p.1
      · rw [if_pos c]
        simp [c]
      · rw [if_neg c]
        simp [c]
    by_cases c : leO ((reachO ls p.2).map (· + 1)) (some p.1) = true
    · rw [if_pos c] at hb'
      obtain ⟨r, hr, rfl⟩ : ∃ r, reachO ls p.2 = some r ∧ b = r + 1 := by
        cases z : reachO ls p.2 with
        | none => rw [z] at hb'; cases hb'
        | some r =>
          rw [z] at hb'
          exact ⟨r, rfl, (Option.some.inj hb').symm⟩
      rw [hr] at c low
      have c' : r + 1 ≤ p.1 := of_decide_eq_true c
      have l' : -1 ≤ r := of_decide_eq_true low
      refine ⟨by omega, ⟨p, by rw [st, if_pos c'], c', ?_⟩, fun a a0 a1 q hq => ?_⟩
      · rw [reach_ok hp.2 (by omega), hr]
        exact decide_eq_false (by omega)
      · rw [st, if_pos (by omega)] at hq
        obtain rfl : p = q := Option.some.inj hq
        rw [reach_ok hp.2 a0, hr]
        exact decide_eq_true (by omega)
    · rw [if_neg c] at hb'
      have e : leO (some p.1) (reachO ls p.2) = true := by
        cases z : leO (some p.1) (reachO ls p.2) with
        | true => rfl
        | false => exact absurd (fb_head.mpr z) c
      have asc2 := List.pairwise_cons.mp asc
      obtain ⟨i0, ⟨q, i1, i2, i3⟩, i4⟩ := fb_some t b (fun q hq => h q (List.mem_cons_of_mem _ hq)) asc2.2 hb'
      have qt : q ∈ t := List.mem_of_find?_eq_some i1
      have hq := h q (List.mem_cons_of_mem _ qt)
      have pb : p.1 < b := by
        by_cases z : p.1 < b
        · exact z
        · exfalso
          have k1 : leO (due 0 ls p.1) (some p.2) = true := by rw [reach_ok hp.2 hp.1]; exact e
          have k2 : leO (due 0 ls p.1) (some q.2) = true := leO_trans k1 (show leO (some p.2) (some q.2) = true from decide_eq_true (by have := (asc2.1 q qt).2; omega))
          rw [reach_ok hq.2 hp.1] at k2
          rw [reach_ok hq.2 i0] at i3
          rw [leO_low k2 (by omega)] at i3
          cases i3
      refine ⟨i0, ⟨q, by rw [st, if_neg (by omega)]; exact i1, i2, i3⟩, fun a a0 a1 x hx => ?_⟩
      rw [st] at hx
      by_cases z : a ≤ p.1
      · rw [if_pos z] at hx
        obtain rfl : p = x := Option.some.inj hx
        rw [reach_ok hp.2 a0]
        exact leO_low e z
      · rw [if_neg z] at hx
        exact i4 a a0 a1 x hx
end Rk
namespace Rk
open PySem PySem.Spec PyProof.Rows L2

/-! ### rules by their lives at each rank -/
theorem short_rows_at {ls : List (Option Int)} (h0 : 0 < ls.length) {N : Nat} (h : ls.length ≤ N) : short (rows (lifeAt ls) N) = short ls := by
  rw [short_any (lifeAt ls) h0 (lifeAt_const h0) h, rows_lifeAt]
theorem short_ext {xs ys : List (Option Int)} (h0 : 0 < xs.length) (h1 : 0 < ys.length) (h : ∀ i, lifeAt xs i = lifeAt ys i) : short xs = short ys := by
  rw [← short_rows_at h0 (Nat.le_max_left xs.length ys.length), ← short_rows_at h1 (Nat.le_max_right xs.length ys.length), funext h]
theorem short_inj {xs ys : List (Option Int)} (h0 : 0 < xs.length) (h1 : 0 < ys.length) (h : short xs = short ys) (i : Nat) : lifeAt xs i = lifeAt ys i := by
  rw [← lifeAt_short h0 i, h, lifeAt_short h1 i]
theorem lifeAt_rows {F : Nat → Option Int} {n : Nat} (h0 : 0 < n) (h : ∀ k, n ≤ k → F k = F (n - 1)) (i : Nat) : lifeAt (rows F n) i = F i := by
  by_cases hi : i < n
  · exact lifeAt_lt (rows_get hi)
  · rw [lifeAt_ge (x := F (n - 1)) (by rw [rows_length]; omega) (by rw [List.getLast?_eq_getElem?, rows_length]; exact rows_get (by omega)), h i (by omega)]
theorem lifeAt_map {ls : List (Option Int)} (f : Option Int → Option Int) (h0 : 0 < ls.length) (i : Nat) : lifeAt (ls.map f) i = f (lifeAt ls i) := by
  by_cases hi : i < ls.length
  · have e := List.getElem?_eq_getElem hi
    rw [lifeAt_lt e, lifeAt_lt (x := f ls[i]) (by rw [List.getElem?_map, e]; rfl)]
  · rw [lifeAt_const h0 i (by omega), lifeAt_const (ls := ls.map f) (by rw [List.length_map]; exact h0) i (by rw [List.length_map]; omega), List.length_map]
    have e := List.getElem?_eq_getElem (show ls.length - 1 < ls.length by omega)
    rw [lifeAt_lt e, lifeAt_lt (x := f ls[ls.length - 1]) (by rw [List.getElem?_map, e]; rfl)]
/-- two rules at each rank -/
def twoL (g : Option Int → Option Int → Option Int) (xs ys : List (Option Int)) : List (Option Int) := rows (fun i => g (lifeAt xs i) (lifeAt ys i)) (max xs.length ys.length)
theorem twoL_len (g : Option Int → Option Int → Option Int) (xs ys : List (Option Int)) : (twoL g xs ys).length = max xs.length ys.length := rows_length _ _
theorem lifeAt_two {g : Option Int → Option Int → Option Int} {xs ys : List (Option Int)} (h0 : 0 < xs.length) (h1 : 0 < ys.length) (i : Nat) : lifeAt (twoL g xs ys) i = g (lifeAt xs i) (lifeAt ys i) := by
  unfold twoL
  refine lifeAt_rows (by omega) (fun k hk => ?_) i
  rw [lifeAt_far h0 (Nat.le_max_left xs.length ys.length) hk, lifeAt_far h1 (Nat.le_max_right xs.length ys.length) hk]
/-- the rule so many ticks behind a change -/
def chgL (old new : List (Option Int)) (u : Int) : List (Option Int) := rows (fun i => minO (lifeAt new i) (addO u (lifeAt old i))) (max old.length new.length)
theorem chgL_len (old new : List (Option Int)) (u : Int) : (chgL old new u).length = max old.length new.length := rows_length _ _
theorem lifeAt_chg {old new : List (Option Int)} (h0 : 0 < old.length) (h1 : 0 < new.length) (u : Int) (i : Nat) : lifeAt (chgL old new u) i = minO (lifeAt new i) (addO u (lifeAt old i)) := by
  unfold chgL
  refine lifeAt_rows (by omega) (fun k hk => ?_) i
  rw [lifeAt_far h0 (Nat.le_max_left old.length new.length) hk, lifeAt_far h1 (Nat.le_max_right old.length new.length) hk]
theorem chg_ops {old new : List (Option Int)} (h0 : 0 < old.length) (h1 : 0 < new.length) (u : Int) :
    short (rows (fun i => minO (lifeAt new i) (lifeAt (short (old.map (addO u))) i)) (max new.length (short (old.map (addO u))).length)) = short (chgL old new u) := by
  have p0 : 0 < (old.map (addO u)).length := by rw [List.length_map]; exact h0
  have p1 := short_len_pos p0
  refine short_ext (by rw [rows_length]; omega) (by rw [chgL_len]; omega) (fun i => ?_)
  rw [show rows (fun i => minO (lifeAt new i) (lifeAt (short (old.map (addO u))) i)) (max new.length (short (old.map (addO u))).length) = twoL minO new (short (old.map (addO u))) from rfl, lifeAt_two h1 p1, lifeAt_short p0, lifeAt_map _ h0, lifeAt_chg h0 h1]
theorem chg_short {old new : List (Option Int)} (h0 : 0 < old.length) (h1 : 0 < new.length) (u : Int) : short (chgL (short old) (short new) u) = short (chgL old new u) := by
  have p0 := short_len_pos h0
  have p1 := short_len_pos h1
  refine short_ext (by rw [chgL_len]; omega) (by rw [chgL_len]; omega) (fun i => ?_)
  rw [lifeAt_chg p0 p1, lifeAt_chg h0 h1, lifeAt_short h0, lifeAt_short h1]
theorem minO_le {x y : Option Int} : leO (minO x y) x = true := by
  unfold minO
  by_cases h : leO x y = true
  · rw [if_pos h]; exact leO_refl x
  · rw [if_neg h]; exact leO_not h
theorem minO_le2 {x y : Option Int} : leO (minO x y) y = true := by
  unfold minO
  by_cases h : leO x y = true
  · rw [if_pos h]; exact h
  · rw [if_neg h]; exact leO_refl y
theorem minO_eq {x y : Option Int} (h : leO x y = true) : minO x y = x := by
  unfold minO
  rw [if_pos h]
theorem leO_add {x : Option Int} {u : Int} (h : 0 ≤ u) : leO x (addO u x) = true := by
  cases x with
  | none => rfl
  | some a => exact decide_eq_true (show a ≤ a + u by omega)
theorem addO_0 (x : Option Int) : addO 0 x = x := by
  cases x with
  | none => rfl
  | some a =>
    show some (a + 0) = some a
    rw [Int.add_zero]
theorem chg_le {old new : List (Option Int)} (h0 : 0 < old.length) (h1 : 0 < new.length) (u : Int) (i : Nat) : leO (lifeAt (chgL old new u) i) (lifeAt new i) = true := by
  rw [lifeAt_chg h0 h1]
  exact minO_le
/-- bounds of lives that were reckoned -/
def Bdn (n : Nat) (x : Option Int) : Prop := ∀ i, x = some i → 0 ≤ i ∧ i ≤ ((n : Nat) : Int) * 10 ^ 18
theorem Bdn.mono {n m : Nat} {x : Option Int} (b : Bdn n x) (h : n ≤ m) : Bdn m x := fun i e => by
  have q := b i e
  refine ⟨q.1, Int.le_trans q.2 (Int.mul_le_mul_of_nonneg_right (by omega) (by decide))⟩
theorem Bdn.small {n : Nat} (hn : n ≤ 10 ^ 20) {x : Option Int} (b : Bdn n x) : ∀ i, x = some i → i.natAbs < 2 ^ 600 := fun i e => by
  have q := b i e
  have h : ((n : Nat) : Int) * 10 ^ 18 ≤ (10 ^ 20 : Int) * 10 ^ 18 := Int.mul_le_mul_of_nonneg_right (by omega) (by decide)
  exact Nat.lt_of_le_of_lt (show i.natAbs ≤ 10 ^ 38 by omega) (by decide)
theorem Good.bdn {ls : List (Option Int)} (g : Good ls) (i : Nat) : Bdn 1 (lifeAt ls i) := fun v e => by
  have := g.at i v e
  omega
theorem bdn_min {n : Nat} {x y : Option Int} (a : Bdn n x) (b : Bdn n y) : Bdn n (minO x y) := by
  unfold minO
  by_cases h : leO x y = true
  · rw [if_pos h]; exact a
  · rw [if_neg h]; exact b
theorem bdn_max {n : Nat} {x y : Option Int} (a : Bdn n x) (b : Bdn n y) : Bdn n (maxO x y) := by
  unfold maxO
  by_cases h : leO x y = true
  · rw [if_pos h]; exact b
  · rw [if_neg h]; exact a
theorem bdn_add {n : Nat} {x : Option Int} {u : Int} (b : Bdn n x) (h0 : 0 ≤ u) (h1 : u ≤ 10 ^ 18) : Bdn (n + 1) (addO u x) := fun i e => by
  cases x with
  | none => cases e
  | some v =>
    have q := b v rfl
    have e' : v + u = i := Option.some.inj e
    omega
theorem bdn_chg {n : Nat} {old new : List (Option Int)} (h0 : 0 < old.length) (h1 : 0 < new.length) {u : Int} (u0 : 0 ≤ u) (u1 : u ≤ 10 ^ 18) (a : ∀ i, Bdn n (lifeAt old i)) (b : ∀ i, Bdn (n + 1) (lifeAt new i)) (i : Nat) : Bdn (n + 1) (lifeAt (chgL old new u) i) := by
  rw [lifeAt_chg h0 h1]
  exact bdn_min (b i) (bdn_add (a i) u0 u1)
theorem mem_at {ls : List (Option Int)} {x : Option Int} (h : x ∈ ls) : ∃ i, lifeAt ls i = x := by
  obtain ⟨i, hi⟩ := List.mem_iff_getElem?.mp h
  exact ⟨i, lifeAt_lt hi⟩
theorem small_of {n : Nat} (hn : n ≤ 10 ^ 20) {ls : List (Option Int)} (b : ∀ i, Bdn n (lifeAt ls i)) : ∀ x ∈ ls, ∀ i, x = some i → i.natAbs < 2 ^ 600 := fun x hx => by
  obtain ⟨i, rfl⟩ := mem_at hx
  exact (b i).small hn
theorem bdn_short {n : Nat} {ls : List (Option Int)} (h0 : 0 < ls.length) (b : ∀ i, Bdn n (lifeAt ls i)) (i : Nat) : Bdn n (lifeAt (short ls) i) := by
  rw [lifeAt_short h0]
  exact b i
theorem sh_ttwo {d e : PyData} (x : Sh d 71000 1) (y : Sh e 71000 1) : Sh (.tuple [d, e]) 150000 2 := by
  have z : Sh (.tuple [d, e]) ([d, e].length * 71000 + 2 * [d, e].length + 3) 2 := Sh.tup (k := 1) (n := 71000) fun q hq => by
    rcases List.mem_cons.mp hq with rfl | hq
    · exact x
    · rw [List.mem_singleton.mp hq]
      exact y
  exact z.mono (by show 2 * 71000 + 2 * 2 + 3 ≤ 150000; decide) (Nat.le_refl _)
theorem le_all2 {X Y : List (Option Int)} (h : ∀ i, leO (lifeAt X i) (lifeAt Y i) = true) (n : Nat) : ((List.range n).all fun i => leO (lifeAt X i) (lifeAt Y i)) = true := List.all_eq_true.mpr fun i _ => h i
theorem shown_eq (d : PyData) : (!decide (V.str d.shown = V.str d.shown)) = false := by simp
end Rk
namespace Rk
open PySem PySem.Spec PyProof.Rows L2
open PySem.W (InstAt findIn isFn fnIn)

/-! ### an own class's x[i], x in y -/
section
variable {X : Cx} {k : Nat} {f C : Addr} {sp : Sp} {a b : Expr} {ta tb : TE} {pos : Pos}
def rOwnA (C : Addr) (sp : Sp) : R2 := fun x y H Q => ∃ p dx fs, x = .ref p ∧ H p = some (.ins C dx fs) ∧ sp [.ref p, y] H Q E0
/-- x[i] by the class's own method -/
theorem pe_ixO (m : OwnOp X.K C f "__getitem__") (fi : fnIn X.K f = true) (F : FnR X.prog X.w X.K X.mg X.base CX0 k f sp) (hr : Room (k + 1) X.A) (ha : PE X a ta) (hb : PE X b tb)
    (hs : ∀ o i, subscripted b true o i = runValue (.builtin "lifetime.subscript" ⟨[o, i], []⟩)) : PE X (.Subscript a b pos) (tOp (rOwnA C sp) ta tb) := by
  refine ⟨fun pins s σ H Q I h => ?_⟩
  refine Subscript_ (binT ha hb I h fun v u s2 x y H2 I2 rx ry q => ?_)
  obtain ⟨p, dx, fs, rfl, hp, q⟩ := q
  cases rx
  obtain ⟨oa, da, Ja⟩ := ins_inst I2 hp
  obtain ⟨mm, hF⟩ := I2.fr
  refine PySem.W.sub_K hF I2.ok.mod.kin Ja m.at_ fi m.fn ?_ (hs _ _)
  refine wpAny_call (codeAny_mono (F X.A.in1 X.stack s2 H2 [.ref p, u] [.ref p, y] _ E0 hr.in1 I2.env0.in1 (.cons rfl (.cons ry .nil)) q) ?_)
  intro r s' z
  cases r with
  | error e => exact z.elim
  | ok fl =>
    cases fl with
    | ret u => exact I2.after z
    | _ => exact z.elim
def rOwnIn (C : Addr) (sp : Sp) : R2 := fun x y H Q => ∃ p dx fs, y = .ref p ∧ H p = some (.ins C dx fs) ∧ sp [.ref p, x] H (fun v H' => ∃ r, v = .bl r ∧ Q (.bl r) H') E0
def rOwnNi (C : Addr) (sp : Sp) : R2 := fun x y H Q => ∃ p dx fs, y = .ref p ∧ H p = some (.ins C dx fs) ∧ sp [.ref p, x] H (fun v H' => ∃ r, v = .bl r ∧ Q (.bl (!r)) H') E0
theorem op_inO (m : OwnOp X.K C f "__contains__") (F : FnR X.prog X.w X.K X.mg X.base CX0 k f sp) (hr : Room k X.A) : OpR X (compareOp .In) (rOwnIn C sp) := by
  intro pins s σ H x y v u Q I rx ry h
  obtain ⟨p, dx, fs, rfl, hp, q⟩ := h
  cases ry
  obtain ⟨oa, da, Ja⟩ := ins_inst I hp
  obtain ⟨mm, hF⟩ := I.fr
  refine PySem.W.in_K hF I.ok.mod.kin Ja m.at_ m.fn ?_
  refine wpAny_call (codeAny_mono (run_fnR F hr pass0 I (vs := [.ref p, x]) (.cons rfl (.cons rx .nil)) q) ?_)
  intro r s' z
  cases r with
  | error e => exact z
  | ok fl =>
    cases fl with
    | ret u =>
      obtain ⟨v, H', I', rv, c, rfl, q2⟩ := z
      obtain rfl : u = Value.bool c := rv
      exact wpAny_truthy_bool ⟨.bl c, H', I', rfl, q2⟩
    | _ => exact z.elim
theorem op_notInO (m : OwnOp X.K C f "__contains__") (F : FnR X.prog X.w X.K X.mg X.base CX0 k f sp) (hr : Room k X.A) : OpR X (compareOp .NotIn) (rOwnNi C sp) := by
  intro pins s σ H x y v u Q I rx ry h
  obtain ⟨p, dx, fs, rfl, hp, q⟩ := h
  cases ry
  obtain ⟨oa, da, Ja⟩ := ins_inst I hp
  obtain ⟨mm, hF⟩ := I.fr
  refine PySem.W.notIn_K hF I.ok.mod.kin Ja m.at_ m.fn ?_
  refine wpAny_call (codeAny_mono (run_fnR F hr pass0 I (vs := [.ref p, x]) (.cons rfl (.cons rx .nil)) q) ?_)
  intro r s' z
  cases r with
  | error e => exact z
  | ok fl =>
    cases fl with
    | ret u =>
      obtain ⟨v, H', I', rv, c, rfl, q2⟩ := z
      obtain rfl : u = Value.bool c := rv
      exact wpAny_truthy_bool ⟨.bl (!c), H', I', rfl, q2⟩
    | _ => exact z.elim
end
end Rk
namespace Rk
open PySem PySem.Spec PyProof.Rows L2

/-! ### values of any kind: what they are as data; the lists and dicts in them stand apart from some addresses -/
def keyD : Key → PyData
  | .inl i => .int i
  | .inr x => .str x
mutual
inductive Dq (K : PySem.W.Frag) (bad : List Addr) (H : Hp) : V → PyData → Prop
  | non : Dq K bad H .non .none
  | bl (b : Bool) : Dq K bad H (.bl b) (.bool b)
  | int (i : Int) : Dq K bad H (.int i) (.int i)
  | str (x : Str) : Dq K bad H (.str x) (.str x)
  | lst {a : Addr} {xs : List V} {ds : List PyData} : H a = some (.lst xs) → a ∉ bad → DqAll K bad H xs ds → Dq K bad H (.ref a) (.list ds)
  | tup {a : Addr} {xs : List V} {ds : List PyData} : SqT K H a xs → DqAll K bad H xs ds → Dq K bad H (.ref a) (.tuple ds)
  | dct {a : Addr} {kvs : List (Key × V)} {ds : List (PyData × PyData)} : H a = some (.dK kvs) → a ∉ bad → DqKv K bad H kvs ds → Dq K bad H (.ref a) (.dict ds)
inductive DqAll (K : PySem.W.Frag) (bad : List Addr) (H : Hp) : List V → List PyData → Prop
  | nil : DqAll K bad H [] []
  | cons {v : V} {vs : List V} {d : PyData} {ds : List PyData} : Dq K bad H v d → DqAll K bad H vs ds → DqAll K bad H (v :: vs) (d :: ds)
inductive DqKv (K : PySem.W.Frag) (bad : List Addr) (H : Hp) : List (Key × V) → List (PyData × PyData) → Prop
  | nil : DqKv K bad H [] []
  | cons {k : Key} {v : V} {r : List (Key × V)} {d : PyData} {ds : List (PyData × PyData)} : Dq K bad H v d → DqKv K bad H r ds → DqKv K bad H ((k, v) :: r) ((keyD k, d) :: ds)
end

/-! #### they stand while all but some addresses stand -/
/-- all but what stands at ex is as it was -/
def Buts (ex : List Addr) (H H' : Hp) : Prop := ∀ b o, H b = some o → b ∉ ex → H' b = some o
theorem Buts.of {ex : List Addr} {H H' : Hp} (s : Same H H') : Buts ex H H' := fun b o e _ => s b o e
theorem Buts.refl {ex : List Addr} {H : Hp} : Buts ex H H := fun _ _ e _ => e
theorem Buts.trans {ex : List Addr} {H H1 H2 : Hp} (a : Buts ex H H1) (b : Buts ex H1 H2) : Buts ex H H2 := fun c o e n => b c o (a c o e n) n
theorem Buts.mono {ex ex' : List Addr} {H H' : Hp} (a : Buts ex H H') (h : ∀ x ∈ ex, x ∈ ex') : Buts ex' H H' := fun b o e n => a b o e fun z => n (h b z)
/-- none of these is a tuple -/
def NoTup (ex : List Addr) (H : Hp) : Prop := ∀ e ∈ ex, ∀ o, H e = some o → (∀ xs, o ≠ .tup xs) ∧ ∀ ob u, o ≠ .frz ob u
theorem Buts.sqt {K : PySem.W.Frag} {ex : List Addr} {H H' : Hp} {a : Addr} {xs : List V} (b : Buts ex H H') (n : NoTup ex H) (h : SqT K H a xs) : SqT K H' a xs := by
  rcases h with (h | ⟨o, h⟩) | h
  · exact .inl (.inl (b _ _ h fun z => (n a z _ h).1 _ rfl))
  · exact .inl (.inr ⟨o, b _ _ h fun z => (n a z _ h).2 _ _ rfl⟩)
  · exact .inr h
section
variable {K : PySem.W.Frag} {bad ex : List Addr} {H H' : Hp}
mutual
theorem Dq.buts (b : Buts ex H H') (n : NoTup ex H) (sub : ∀ e ∈ ex, e ∈ bad) : ∀ (d : PyData) (v : V), Dq K bad H v d → Dq K bad H' v d
  | .none, _, h => by cases h; exact .non
  | .bool x, _, h => by cases h; exact .bl x
  | .int i, _, h => by cases h; exact .int i
  | .str x, _, h => by cases h; exact .str x
  | .list ds, _, h => by
    cases h with
    | lst e hb ha => exact .lst (b _ _ e fun z => hb (sub _ z)) hb (Dq.butsAll b n sub ds _ ha)
  | .tuple ds, _, h => by
    cases h with
    | tup e ha => exact .tup (b.sqt n e) (Dq.butsAll b n sub ds _ ha)
  | .dict ds, _, h => by
    cases h with
    | dct e hb ha => exact .dct (b _ _ e fun z => hb (sub _ z)) hb (Dq.butsKv b n sub ds _ ha)
theorem Dq.butsAll (b : Buts ex H H') (n : NoTup ex H) (sub : ∀ e ∈ ex, e ∈ bad) : ∀ (ds : List PyData) (vs : List V), DqAll K bad H vs ds → DqAll K bad H' vs ds
  | [], _, h => by cases h; exact .nil
  | d :: ds, _, h => by
    cases h with
    | cons h1 h2 => exact .cons (Dq.buts b n sub d _ h1) (Dq.butsAll b n sub ds _ h2)
theorem Dq.butsKv (b : Buts ex H H') (n : NoTup ex H) (sub : ∀ e ∈ ex, e ∈ bad) : ∀ (ds : List (PyData × PyData)) (vs : List (Key × V)), DqKv K bad H vs ds → DqKv K bad H' vs ds
  | [], _, h => by cases h; exact .nil
  | d :: ds, _, h => by
    cases h with
    | cons h1 h2 => exact .cons (Dq.buts b n sub _ _ h1) (Dq.butsKv b n sub ds _ h2)
end
theorem Dq.same {d : PyData} {v : V} (h : Dq K bad H v d) (s : Same H H') : Dq K bad H' v d := Dq.buts (ex := []) (Buts.of s) (fun _ z => nomatch z) (fun _ z => nomatch z) d v h
theorem DqAll.same {ds : List PyData} {vs : List V} (h : DqAll K bad H vs ds) (s : Same H H') : DqAll K bad H' vs ds := Dq.butsAll (ex := []) (Buts.of s) (fun _ z => nomatch z) (fun _ z => nomatch z) ds vs h
theorem DqAll.length : ∀ {vs : List V} {ds : List PyData}, DqAll K bad H vs ds → vs.length = ds.length
  | _, _, .nil => rfl
  | _, _, .cons _ r => congrArg (· + 1) (DqAll.length r)
theorem DqAll.at : ∀ {vs : List V} {ds : List PyData} {i : Nat} {v : V}, DqAll K bad H vs ds → vs[i]? = some v → ∃ d, ds[i]? = some d ∧ Dq K bad H v d
  | _, _, i, v, .nil, e => by simp at e
  | _, _, 0, v, .cons (d := d) h _, e => by
    obtain rfl := Option.some.inj e
    exact ⟨d, rfl, h⟩
  | _, _, i + 1, v, .cons _ r, e => DqAll.at (i := i) r e
theorem DqAll.app : ∀ {vs ws : List V} {ds es : List PyData}, DqAll K bad H vs ds → DqAll K bad H ws es → DqAll K bad H (vs ++ ws) (ds ++ es)
  | _, _, _, _, .nil, h => h
  | _, _, _, _, .cons a r, h => .cons a (DqAll.app r h)
theorem DqAll.take : ∀ {vs : List V} {ds : List PyData} (n : Nat), DqAll K bad H vs ds → DqAll K bad H (vs.take n) (ds.take n)
  | _, _, 0, _ => .nil
  | _, _, n + 1, .nil => .nil
  | _, _, n + 1, .cons a r => .cons a (DqAll.take n r)
theorem DqAll.drop : ∀ {vs : List V} {ds : List PyData} (n : Nat), DqAll K bad H vs ds → DqAll K bad H (vs.drop n) (ds.drop n)
  | _, _, 0, h => h
  | _, _, n + 1, .nil => .nil
  | _, _, n + 1, .cons _ r => DqAll.drop n r
theorem DqAll.rev : ∀ {vs : List V} {ds : List PyData}, DqAll K bad H vs ds → DqAll K bad H vs.reverse ds.reverse
  | _, _, .nil => .nil
  | _, _, .cons (v := v) (vs := vs) (d := d) (ds := ds) a r => by
    rw [List.reverse_cons, List.reverse_cons]
    exact DqAll.app (DqAll.rev r) (.cons a .nil)
theorem DqAll.intro {f : α → V} {g : α → PyData} : ∀ (xs : List α), (∀ x ∈ xs, Dq K bad H (f x) (g x)) → DqAll K bad H (xs.map f) (xs.map g)
  | [], _ => .nil
  | x :: r, h => .cons (h x (List.mem_cons_self ..)) (DqAll.intro r fun y hy => h y (List.mem_cons_of_mem _ hy))
theorem tyx_seqt {a : Addr} {xs : List V} (h : SqT K H a xs) : TyX K H (.ref a) (.type "tuple") := by
  rcases h with (h | ⟨o, h⟩) | ⟨o, its, n, h, hc, _⟩
  · exact .base (.tup h)
  · exact .fTuple h
  · exact .kTuple h hc
/-- the type of such a value -/
def tyD : PyData → Value
  | .none => .type "NoneType"
  | .bool _ => .type "bool"
  | .int _ => .type "int"
  | .str _ => .type "str"
  | .list _ => .type "list"
  | .tuple _ => .type "tuple"
  | .dict _ => .type "dict"
theorem Dq.ty {d : PyData} {v : V} (h : Dq K bad H v d) : TyX K H v (tyD d) := by
  cases h with
  | non => exact .base .non
  | bl b => exact .base (.bl b)
  | int i => exact .base (.int i)
  | str x => exact .base (.str x)
  | lst e _ _ => exact .base (.lst e)
  | tup e _ => exact tyx_seqt e
  | dct e _ _ => exact .base (.dK e)
end

/-! #### their repr -/
theorem paired_keys {P : Program} {w : World} : ∀ {es : List DictEntry} {kvs : List (Key × V)} {vs : List (Key × Value)}, KV kvs vs → Pairs (mixKind P w) es vs → ∀ h : Heap, ∃ bs, ReadsAll h (es.map (·.key)) (kvs.map fun p => keyD p.1) bs ∧ bs = []
  | _, _, _, .nil, .nil, h => ⟨[], .nil, rfl⟩
  | _, _, _, .cons (a := p) (b := q) r rr, .cons (e := e) ke ve pr, h => by
    obtain ⟨bs, h1, rfl⟩ := paired_keys rr pr h
    have k1 : keyIs q.1 e.key = true := ke
    rw [← r.1] at k1
    rcases keyIs_shape k1 with ⟨i, t, e1, e2⟩ | ⟨x, t, e1, e2⟩
    · have r1 : Reads h e.key (keyD p.1) [] := by rw [e2, e1]; exact Reads.int i t
      exact ⟨[] ++ [], ReadsAll.cons r1 h1, rfl⟩
    · have r1 : Reads h e.key (keyD p.1) [] := by rw [e2, e1]; exact Reads.str x t
      exact ⟨[] ++ [], ReadsAll.cons r1 h1, rfl⟩
section
variable {X : Cx} {pins : List (Addr × Obj)} {σ : L2.St} {H : Hp} {s : Shared} {bad : List Addr}
mutual
theorem Dq.reads (I : Inv X pins σ H s) (hb : sysModules ∈ bad) : ∀ (d : PyData) (v : V) (u : Value), Dq X.K bad H v d → RelV v u → ∃ as, Reads s.heap u d as ∧ sysModules ∉ as
  | .none, _, _, h, r => by cases h; cases r; exact ⟨_, Reads.none, fun z => nomatch z⟩
  | .bool b, _, _, h, r => by cases h; cases r; exact ⟨_, Reads.bool b, fun z => nomatch z⟩
  | .int i, _, _, h, r => by cases h; obtain ⟨t, rfl⟩ := r; exact ⟨_, Reads.int i t, fun z => nomatch z⟩
  | .str x, _, _, h, r => by cases h; obtain ⟨t, rfl⟩ := r; exact ⟨_, Reads.str x t, fun z => nomatch z⟩
  | .list ds, _, _, h, r => by
    cases h with
    | lst e nb ha =>
      cases r
      obtain ⟨hz, its, n, rv, hg⟩ := (show ObjOk X.prog X.w H s.heap _ (.lst _) from I.hok _ _ e)
      obtain ⟨as, hr, ns⟩ := Dq.readsAll I hb ds _ its ha rv
      refine ⟨_, Reads.list hg rfl rfl hr, fun z => ?_⟩
      rcases List.mem_cons.mp z with z | z
      · exact nb (z ▸ hb)
      · exact ns z
  | .tuple ds, _, _, h, r => by
    cases h with
    | tup e ha =>
      cases r
      obtain ⟨its, rv, ⟨o, ho, hc, n, hd⟩, _⟩ := I.tuple e
      obtain ⟨as, hr, ns⟩ := Dq.readsAll I hb ds _ its ha rv
      exact ⟨_, Reads.tuple ho hc hd hr, ns⟩
  | .dict ds, _, _, h, r => by
    cases h with
    | dct e nb ha =>
      cases r
      obtain ⟨hz, hm, vs, rel, o, es, ep, ho, hx, hd, _, pr, _⟩ := dk_of I.hok e
      obtain ⟨bs, h1, hbs⟩ := paired_keys rel pr s.heap
      have hk := Dq.kvKeys ds _ ha
      obtain ⟨cs, h2, ns⟩ := Dq.readsKv I hb ds _ vs es.toList ha rel pr
      rw [hk] at h1
      refine ⟨_, Reads.dict ho hx.1 hd h1 h2, fun z => ?_⟩
      subst hbs
      rcases List.mem_cons.mp z with z | z
      · exact nb (z ▸ hb)
      · exact ns z
theorem Dq.kvKeys : ∀ (ds : List (PyData × PyData)) (kvs : List (Key × V)), DqKv X.K bad H kvs ds → (kvs.map fun p => keyD p.1) = ds.map (·.1)
  | [], _, h => by cases h; rfl
  | d :: ds, _, h => by
    cases h with
    | cons h1 h2 => exact congrArg _ (Dq.kvKeys ds _ h2)
theorem Dq.readsKv (I : Inv X pins σ H s) (hb : sysModules ∈ bad) : ∀ (ds : List (PyData × PyData)) (kvs : List (Key × V)) (vs : List (Key × Value)) (es : List DictEntry), DqKv X.K bad H kvs ds → KV kvs vs → Pairs (mixKind X.prog X.w) es vs → ∃ as, ReadsAll s.heap (es.map (·.val)) (ds.map (·.2)) as ∧ sysModules ∉ as
  | [], _, _, _, h, r, p => by
    cases h
    cases r
    cases p
    exact ⟨_, ReadsAll.nil, fun z => nomatch z⟩
  | d :: ds, _, _, _, h, r, p => by
    cases h with
    | cons h1 h2 =>
      cases r with
      | cons r1 r2 =>
        cases p with
        | cons k1 v1 p2 =>
          obtain ⟨as, ha, na⟩ := Dq.reads I hb _ _ _ h1 r1.2
          obtain ⟨bs, hbs, nb⟩ := Dq.readsKv I hb ds _ _ _ h2 r2 p2
          rw [← v1] at ha
          refine ⟨_, ReadsAll.cons ha hbs, fun z => ?_⟩
          rcases List.mem_append.mp z with z | z
          · exact na z
          · exact nb z
theorem Dq.readsAll (I : Inv X pins σ H s) (hb : sysModules ∈ bad) : ∀ (ds : List PyData) (vs : List V) (us : List Value), DqAll X.K bad H vs ds → Vals vs us → ∃ as, ReadsAll s.heap us ds as ∧ sysModules ∉ as
  | [], _, _, h, r => by cases h; cases r; exact ⟨_, ReadsAll.nil, fun z => nomatch z⟩
  | d :: ds, _, _, h, r => by
    cases h with
    | cons h1 h2 =>
      cases r with
      | cons r1 r2 =>
        obtain ⟨as, ha, na⟩ := Dq.reads I hb d _ _ h1 r1
        obtain ⟨bs, hbs, nb⟩ := Dq.readsAll I hb ds _ _ h2 r2
        refine ⟨_, ReadsAll.cons ha hbs, fun z => ?_⟩
        rcases List.mem_append.mp z with z | z
        · exact na z
        · exact nb z
end
end
section
variable {X : Cx}
def rReprQ (K : PySem.W.Frag) : List V → Hp → VK → Prop := fun xs H Q => ∃ x d bad, xs = [x] ∧ Dq K bad H x d ∧ sysModules ∈ bad ∧ d.showable = true ∧ d.depth ≤ 60 ∧ d.shown.length ≤ sizeLine ∧ Q (.str d.shown) H
theorem call_reprQ (hg : X.A.guards = some []) (hu : X.A.units + 64 < cLine) : CallR X (.builtin "repr") (rReprQ X.K) := by
  intro pins s σ H xs us Q I r h
  obtain ⟨x, d, bad, rfl, hd, hb, hs, hdp, hl, q⟩ := h
  obtain ⟨u, rfl, rx⟩ := vals1 r
  obtain ⟨as, rd, ns⟩ := Dq.reads I hb d x u hd rx
  cases hd with
  | non => cases rx; exact PySem.P.repr_of_none ⟨.str _, H, I.tok _, ⟨_, rfl⟩, q⟩
  | bl b => cases rx; exact PySem.P.repr_of_bool ⟨.str _, H, I.tok _, ⟨_, rfl⟩, q⟩
  | int i => obtain ⟨t, rfl⟩ := rx; exact PySem.P.repr_of_int (by simpa [PyData.showable] using hs) ⟨.str _, H, I.tok _, ⟨_, rfl⟩, q⟩
  | str z => obtain ⟨t, rfl⟩ := rx; exact PySem.P.repr_of_str (hsz := hl) ⟨.str _, H, I.tok _, ⟨_, rfl⟩, q⟩
  | lst h1 h2 h3 =>
    cases rx
    exact repr_of_reads' rd hs (fun _ => ns) hg (by omega) (fun _ _ e => e) (fun h' u tk hk => ⟨.str _, H, I.kept (t' := tk) hk, ⟨_, rfl⟩, q⟩) hl
  | tup h1 h2 =>
    cases rx
    exact repr_of_reads' rd hs (fun _ => ns) hg (by omega) (fun _ _ e => e) (fun h' u tk hk => ⟨.str _, H, I.kept (t' := tk) hk, ⟨_, rfl⟩, q⟩) hl
  | dct h1 h2 h3 =>
    cases rx
    exact repr_of_reads' rd hs (fun _ => ns) hg (by omega) (fun _ _ e => e) (fun h' u tk hk => ⟨.str _, H, I.kept (t' := tk) hk, ⟨_, rfl⟩, q⟩) hl
end
/-! #### new lists and dicts stand apart from the module table -/
def tLstX (t : TA) : TE := fun σ H Q => t σ H fun xs H1 => xs.length ≤ sizeLine ∧ ∀ p, H1 p = none → p ≠ sysModules → Q (.ref p) (upd H1 p (.lst xs))
theorem pe_lstX {X : Cx} {es : List Expr} {t : TA} {pos : Pos} (h : PA X es t) : PE X (.List es pos) (tLstX t) := by
  constructor
  intro pins s σ H Q I hq
  refine wpAny_List_spliced (thn (h.run pos pins s σ H _ I hq) fun us s1 y => ?_)
  obtain ⟨xs, H1, I1, r, z, q⟩ := y
  refine ⟨by rw [← r.length]; exact z, .ref s1.heap.objs.size, upd H1 s1.heap.objs.size (.lst xs), ?_, rfl, q _ (I1.hok.fresh (Nat.le_refl _)) (Nat.ne_of_gt I1.big)⟩
  exact I1.laid (t' := s1.toks) (fun b u e => Heap.get?_push_of_some _ e) (Nat.le_refl _) ⟨z, us, 0, r, Heap.get?_push_size _ rfl⟩
/-! #### items of lists and tuples, said of one written part -/
theorem ix_listK {X : Cx} {K : PySem.W.Frag} (hK : X.K = K) : IxR X (rIxL K) := by
  subst hK
  exact ix_list
end Rk
namespace Rk
open PySem PySem.Spec PyProof.Rows L2

/-! ### what repr shows of small values of any kind -/
structure ShQ (d : PyData) (n k : Nat) : Prop where
  s : d.showable = true
  p : d.depth ≤ k
  l : d.shown.length ≤ n
theorem Sh.q {d : PyData} {n k : Nat} (x : Sh d n k) : ShQ d n k := ⟨x.s, x.p, x.l⟩
theorem ShQ.mono {d : PyData} {n k n' k' : Nat} (x : ShQ d n k) (h : n ≤ n') (h' : k ≤ k') : ShQ d n' k' := ⟨x.s, Nat.le_trans x.p h', Nat.le_trans x.l h⟩
theorem shq_all {n k : Nat} : ∀ ds : List PyData, (∀ d ∈ ds, ShQ d n k) → PyData.showableAll ds = true ∧ PyData.depthAll ds ≤ k ∧ ((PyData.shownAll ds).map (·.length)).sum ≤ ds.length * n ∧ (PyData.shownAll ds).length = ds.length
  | [], _ => ⟨rfl, by simp [PyData.depthAll], by simp [PyData.shownAll], rfl⟩
  | d :: r, h => by
    obtain ⟨a1, a3, a4, a5⟩ := shq_all r fun x hx => h x (List.mem_cons_of_mem _ hx)
    have x := h d List.mem_cons_self
    have x3 := x.p
    have x4 := x.l
    refine ⟨?_, ?_, ?_, ?_⟩
    · show (PyData.showable d && PyData.showableAll r) = true
      rw [x.s, a1]
      rfl
    · show max (PyData.depth d) (PyData.depthAll r) ≤ k
      omega
    · show (PyData.shown d).length + ((PyData.shownAll r).map (·.length)).sum ≤ (r.length + 1) * n
      rw [Nat.succ_mul]
      omega
    · show (PyData.shownAll r).length + 1 = r.length + 1
      omega
theorem ShQ.list {n k : Nat} {ds : List PyData} (h : ∀ d ∈ ds, ShQ d n k) : ShQ (.list ds) (ds.length * n + 2 * ds.length + 3) (k + 1) := by
  obtain ⟨a1, a3, a4, a5⟩ := shq_all ds h
  refine ⟨a1, ?_, ?_⟩
  · show PyData.depthAll ds + 1 ≤ k + 1
    omega
  · have e := listText_len_le (PyData.shownAll ds)
    show (listText (PyData.shownAll ds)).length ≤ _
    omega
theorem ShQ.tup {n k : Nat} {ds : List PyData} (h : ∀ d ∈ ds, ShQ d n k) : ShQ (.tuple ds) (ds.length * n + 2 * ds.length + 3) (k + 1) := by
  obtain ⟨a1, a3, a4, a5⟩ := shq_all ds h
  refine ⟨a1, ?_, ?_⟩
  · show PyData.depthAll ds + 1 ≤ k + 1
    omega
  · have e := tupleText_len_le (PyData.shownAll ds)
    show (tupleText (PyData.shownAll ds)).length ≤ _
    omega
theorem ShQ.dict0 : ShQ (.dict []) 2 1 := ⟨rfl, by simp [PyData.depth, PyData.depthKv], by decide +kernel⟩
theorem ShQ.dictA {d : PyData} {n k : Nat} (x : ShQ d n k) : ShQ (.dict [(.str "a", d)]) (n + 10) (k + 1) := by
  have x3 := x.p
  have x4 := x.l
  refine ⟨?_, ?_, ?_⟩
  · show (true && PyData.showable d && true) = true
    rw [x.s]
    rfl
  · show max (max 0 (PyData.depth d)) 0 + 1 ≤ k + 1
    omega
  · show (dictText [(reprText "a" ++ ": " ++ PyData.shown d)]).length ≤ n + 10
    have e : dictText [(reprText "a" ++ ": " ++ PyData.shown d)] = ("{" : Str) ++ (reprText "a" ++ ": " ++ PyData.shown d) ++ "}" := rfl
    rw [e, Str.length_append, Str.length_append, Str.length_append, Str.length_append]
    have e1 : ("{" : Str).length = 1 := by decide +kernel
    have e2 : ("}" : Str).length = 1 := by decide +kernel
    have e3 : (reprText "a").length = 3 := by decide +kernel
    have e4 : (": " : Str).length = 2 := by decide +kernel
    rw [e1, e2, e3, e4]
    omega
theorem ShQ.ok {d : PyData} {n k : Nat} (x : ShQ d n k) (h : n ≤ 1000000) (h' : k ≤ 60) : d.showable = true ∧ d.depth ≤ 60 ∧ d.shown.length ≤ sizeLine := by
  have l := x.l
  refine ⟨x.s, Nat.le_trans x.p h', ?_⟩
  rw [sizeLine_eq]
  omega
/-! ### new dicts stand apart from the module table -/
def tDNewX : TE := fun _ H Q => ∀ p, H p = none → p ≠ sysModules → Q (.ref p) (upd H p (.dK []))
theorem pe_dnewX {X : Cx} {pos : Pos} : PE X (.Dict [] [] pos) tDNewX := ⟨fun pins s σ H Q I h =>
  wpAny_Dict_empty ⟨.ref s.heap.objs.size, _, I.laid (a := s.heap.objs.size) (o := .dK []) (t' := s.toks) (fun _ _ q => Heap.get?_push_of_some _ q) (Nat.le_refl _) (dk_empty s.heap I.big), rfl, h _ (I.hok.fresh (Nat.le_refl _)) (Nat.ne_of_gt I.big)⟩⟩
def tDispX (trs : List (TE × TE)) : TE := fun σ H Q => ∀ p, H p = none → p ≠ sysModules → tPairs trs σ (upd H p (.dK [])) fun ps H2 => H2 p = some (.dK []) ∧ ∃ kvs : List (Key × V), ps = kvs.map (fun kv => (kV kv.1, kv.2)) ∧ kvs.length ≤ 15 ∧ Q (.ref p) (upd H2 p (.dK (mergeK [] kvs)))
theorem pe_dispX {X : Cx} {pos : Pos} {keys : List (Option Expr)} {values : List Expr} {trs : List (TE × TE)} (h : PPs X pos keys values trs) (hall : keys.all (·.isSome) = true) (hl : keys.length = values.length) (h0 : keys ≠ [])
    (h15 : keys.length ≤ 15) : PE X (.Dict keys values pos) (tDispX trs) := by
  refine ⟨fun pins s σ H Q I q => ?_⟩
  have hn := I.hok.fresh (Nat.le_refl s.heap.objs.size)
  have hb := Nat.ne_of_gt I.big
  have I1 := I.laid (a := s.heap.objs.size) (o := .dK []) (h' := s.heap.push { cls := .type "dict", data := .dict #[] }) (t' := s.toks) (fun _ _ q => Heap.get?_push_of_some _ q) (Nat.le_refl _) (dk_empty s.heap I.big)
  refine wpAny_Dict_walk (knd := mixKind X.prog X.w) hall hl h0 h15 (thn (h.run pins _ σ _ _ I1 (q _ hn hb)) fun ws s2 ⟨ps, H2, I2, rel, e, kvs, ep, lk, q2⟩ => ?_)
  subst ep
  obtain ⟨rs, c, rk⟩ := carries_of (P := X.prog) (w := X.w) rel
  obtain ⟨z, hd, vs0, r0, dd⟩ := dk_of I2.hok e
  cases r0
  refine ⟨rs, c, dd, fun h' dd' hs => ⟨.ref s.heap.objs.size, _, ?_, rfl, q2⟩⟩
  have hz : (mergeK [] kvs).length ≤ sizeLine := by
    have h1 := length_mergeK kvs []
    rw [List.length_nil] at h1
    rw [sizeLine_eq]; omega
  have he : ∃ q, h'.get? s.heap.objs.size = some q := let ⟨q, _, _, hq, _⟩ := dd'; ⟨q, hq⟩
  exact d_write I2 (by rw [e]; exact True.intro) hs he (dk_new hz hd (rk.merge .nil) dd')
/-! ### numbers among the values -/
/-- an integer from 0 that is no bool -/
def natD : PyData → Bool
  | .int i => decide (0 ≤ i)
  | _ => false
/-- the values that are ints, and no bools -/
def intD : PyData → Option Int
  | .int i => some i
  | _ => none
/-- such a value, small, and apart from the module table and the addresses at ex -/
def AnyV (K : PySem.W.Frag) (ex : List Addr) (H : Hp) (v : V) (d : PyData) : Prop := Dq K (sysModules :: ex) H v d ∧ ShQ d 200000 20
theorem AnyV.buts {K : PySem.W.Frag} {ex : List Addr} {H H' : Hp} {v : V} {d : PyData} (h : AnyV K ex H v d) (b : Buts ex H H') (n : NoTup ex H) : AnyV K ex H' v d :=
  ⟨Dq.buts b n (fun e he => List.mem_cons_of_mem _ he) d v h.1, h.2⟩
theorem AnyV.same {K : PySem.W.Frag} {ex : List Addr} {H H' : Hp} {v : V} {d : PyData} (h : AnyV K ex H v d) (s : Same H H') : AnyV K ex H' v d := ⟨h.1.same s, h.2⟩
theorem signs_small (s : String) : ∀ c ∈ (Str.ofString s).cps.toList, c < 16 ^ 8 := by
  intro c hc
  rw [signs_ofString] at hc
  obtain ⟨ch, _, rfl⟩ := List.mem_map.mp hc
  have h : ch.val.toNat < 2 ^ 32 := ch.val.toNat_lt
  exact h
/-- a number as text -/
theorem ShQ.num {i : Int} (h : i.natAbs < 2 ^ 600) : ShQ (.str (Str.ofString (toString i))) 8000 0 := by
  have q := PySem.Flt.log2_lt_of (by decide : 0 < 600) h
  refine ⟨rfl, by simp [PyData.depth], ?_⟩
  have e := int_text_length_le (k := 600) (by decide) q
  have e2 := StrLaws.reprText_len (Str.ofString (toString i)) (signs_small _)
  show (reprText (Str.ofString (toString i))).length ≤ 8000
  have e3 : (Str.ofString (toString i)).length = (toString i).length := PySem.ofString_length _
  omega
end Rk
namespace Rk
open PySem PySem.Spec PyProof.Rows L2

/-! ### ints and bools as numbers -/
def zI : V → Option Int
  | .int i => some i
  | .bl b => some (if b = true then 1 else 0)
  | _ => none
section
variable {X : Cx}
def rAddZ : R2 := fun x y H Q => ∃ i j : Int, zI x = some i ∧ y = .int j ∧ Q (.int (i + j)) H
theorem op_addZ : OpR X (binaryOp .Add) rAddZ := by
  intro pins s σ H x y v u Q I rx ry h
  obtain ⟨i, j, hx, hy, q⟩ := h
  subst hy
  obtain ⟨t, rfl⟩ := ry
  cases x with
  | int a =>
    cases hx
    obtain ⟨t2, rfl⟩ := rx
    exact add_int ⟨.int _, H, I.tok _, ⟨_, rfl⟩, q⟩
  | bl b =>
    cases hx
    cases rx
    exact PySem.IntBool.add_bool_int ⟨.int _, H, I.tok _, ⟨_, rfl⟩, q⟩
  | _ => cases hx
def rSubZ : R2 := fun x y H Q => ∃ i j : Int, zI x = some i ∧ y = .int j ∧ Q (.int (i - j)) H
theorem op_subZ : OpR X (binaryOp .Sub) rSubZ := by
  intro pins s σ H x y v u Q I rx ry h
  obtain ⟨i, j, hx, hy, q⟩ := h
  subst hy
  obtain ⟨t, rfl⟩ := ry
  cases x with
  | int a =>
    cases hx
    obtain ⟨t2, rfl⟩ := rx
    exact sub_int ⟨.int _, H, I.tok _, ⟨_, rfl⟩, q⟩
  | bl b =>
    cases hx
    cases rx
    exact PySem.IntBool.sub_bool_int ⟨.int _, H, I.tok _, ⟨_, rfl⟩, q⟩
  | _ => cases hx
/-- == and != of values of any kind but dicts -/
def rEqQ (K : PySem.W.Frag) : R2 := fun x y H Q => ∃ bad d e, sysModules ∈ bad ∧ Dq K bad H x d ∧ Dq K bad H y e ∧ SeqAt.shaped d = true ∧ SeqAt.shaped e = true ∧ Q (.bl (PyData.eqv d e)) H
def rNeQ (K : PySem.W.Frag) : R2 := fun x y H Q => ∃ bad d e, sysModules ∈ bad ∧ Dq K bad H x d ∧ Dq K bad H y e ∧ SeqAt.shaped d = true ∧ SeqAt.shaped e = true ∧ Q (.bl (!PyData.eqv d e)) H
theorem op_eqQ (hu : X.A.units + 64 < cLine) : OpR X (compareOp .Eq) (rEqQ X.K) := by
  intro pins s σ H x y v u Q I rx ry h
  obtain ⟨bad, d, e, hb, hd, he, sd, se, q⟩ := h
  obtain ⟨as, r1, _⟩ := Dq.reads I hb d x v hd rx
  obtain ⟨bs, r2, _⟩ := Dq.reads I hb e y u he ry
  exact SeqAt.compareEq_shaped r1 r2 sd se hu ⟨.bl _, H, I, rfl, q⟩
theorem op_neQ (hu : X.A.units + 64 < cLine) : OpR X (compareOp .NotEq) (rNeQ X.K) := by
  intro pins s σ H x y v u Q I rx ry h
  obtain ⟨bad, d, e, hb, hd, he, sd, se, q⟩ := h
  obtain ⟨as, r1, _⟩ := Dq.reads I hb d x v hd rx
  obtain ⟨bs, r2, _⟩ := Dq.reads I hb e y u he ry
  exact SeqAt.compareNe_shaped r1 r2 sd se hu ⟨.bl _, H, I, rfl, q⟩
theorem op_eqQK {K : PySem.W.Frag} (hK : X.K = K) (hu : X.A.units + 64 < cLine) : OpR X (compareOp .Eq) (rEqQ K) := by
  subst hK
  exact op_eqQ hu
theorem op_neQK {K : PySem.W.Frag} (hK : X.K = K) (hu : X.A.units + 64 < cLine) : OpR X (compareOp .NotEq) (rNeQ K) := by
  subst hK
  exact op_neQ hu
def boolT (b : Bool) : Str := if b then "True" else "False"
theorem call_strZ : CallR X (.type "str") (fun xs H Q => (∃ i, xs = [.int i] ∧ i.natAbs.log2 < 1920 ∧ Q (.str (toString i)) H) ∨ ∃ b, xs = [.bl b] ∧ Q (.str (boolT b)) H) := by
  intro pins s σ H xs us Q I r h
  rcases h with ⟨i, rfl, hz, q⟩ | ⟨b, rfl, q⟩
  · obtain ⟨u, rfl, t, rfl⟩ := vals1 r
    exact PySem.P.str_of_int hz ⟨.str _, H, I.tok _, ⟨_, rfl⟩, q⟩
  · obtain ⟨u, rfl, rx⟩ := vals1 r
    cases rx
    exact PySem.P.str_of_bool ⟨.str (boolT b), H, I.tok _, ⟨_, rfl⟩, q⟩
/-- list(t): a list of its own, apart from the module table -/
def rListX (K : PySem.W.Frag) : List V → Hp → VK → Prop := fun xs H Q => ∃ p ys, xs = [.ref p] ∧ SqT K H p ys ∧ ∀ l, H l = none → l ≠ sysModules → Q (.ref l) (upd H l (.lst ys))
theorem call_listX : CallR X (.type "list") (rListX X.K) := by
  intro pins s σ H xs us Q I r h
  obtain ⟨p, ys, rfl, hq, q⟩ := h
  obtain ⟨u, rfl, rx⟩ := vals1 r
  cases rx
  obtain ⟨its, r', pl, hz⟩ := I.tuple hq
  have hlen := r'.length
  obtain ⟨o, ho, hc, n, hd⟩ := pl
  refine call_list_seq p (.inr rfl) ho hc hd (fun h' c' kp e => ?_) (by simp only [List.size_toArray] <;> omega)
  exact ⟨.ref s.heap.objs.size, _, I.laid (t' := s.toks) kp (Nat.le_refl _) (show ObjOk X.prog X.w _ h' _ (.lst ys) from ⟨hz, its, c', r', e⟩), rfl, q _ (I.hok.fresh (Nat.le_refl _)) (Nat.ne_of_gt I.big)⟩
theorem call_listXK {K : PySem.W.Frag} (hK : X.K = K) : CallR X (.type "list") (rListX K) := by
  subst hK
  exact call_listX
/-! ### sums and slices of tuples, whatever their form -/
def rCatQ (K : PySem.W.Frag) : R2 := fun x y H Q => ∃ (a b : Addr) (xs ys : List V), x = .ref a ∧ y = .ref b ∧ SqT K H a xs ∧ SqT K H b ys ∧ xs.length + ys.length ≤ sizeLine ∧
  ∀ r H', Same H H' → SqT K H' r (xs ++ ys) → Q (.ref r) H'
theorem op_catQ : OpR X (binaryOp .Add) (rCatQ X.K) := by
  intro pins s σ H x y v u Q I rx ry h
  obtain ⟨a, b, xs, ys, ex, ey, ha, hb, hz, q⟩ := h
  refine op_catA pins s σ H x y v u Q I rx ry ⟨a, b, xs, ys, ex, ey, ha, hb, hz, fun z => ?_, fun _ z => ?_, fun _ _ p hp => ?_⟩
  · refine q b H (Same.refl _) ?_
    rw [z, List.nil_append]
    exact hb
  · refine q a H (Same.refl _) ?_
    rw [z, List.append_nil]
    exact ha
  · exact q p _ (same_upd hp) (SqT.of upd_same)
theorem op_catQK {K : PySem.W.Frag} (hK : X.K = K) : OpR X (binaryOp .Add) (rCatQ K) := by
  subst hK
  exact op_catQ
def rSlQ (K : PySem.W.Frag) : V → Option Int → Option Int → Hp → VK → Prop := fun x lo hi H Q => ∃ (a : Addr) (xs : List V), x = .ref a ∧ SqT K H a xs ∧
  ∀ r H', Same H H' → SqT K H' r (cutV xs lo hi) → Q (.ref r) H'
theorem sl_tupQ : SlR X (rSlQ X.K) := by
  intro pins s σ H x v vl vu lo hi sl Q I rx hs pl pu h
  obtain ⟨a, xs, e, hx, q⟩ := h
  exact sl_tupB pins s σ H x v vl vu lo hi sl Q I rx hs pl pu ⟨a, xs, e, hx, fun r H' z => q r H' (rSlB_same z) (rSlB_at hx z)⟩
theorem sl_tupQK {K : PySem.W.Frag} (hK : X.K = K) : SlR X (rSlQ K) := by
  subst hK
  exact sl_tupQ
end
theorem cut_to (xs : List V) (n : Nat) : cutV xs none (some (n : Int)) = xs.take n := by
  have h0 : HT.sIx xs.length 0 none = 0 := by
    unfold HT.sIx
    simp
  have h : HT.sIx xs.length xs.length (some (n : Int)) = min n xs.length := by
    unfold HT.sIx
    simp
    omega
  unfold cutV
  rw [h0, h, List.drop_zero, Nat.sub_zero]
  rcases Nat.le_total n xs.length with c | c
  · rw [Nat.min_eq_left c]
  · rw [Nat.min_eq_right c, List.take_of_length_le c, List.take_of_length_le (Nat.le_refl _)]
theorem cut_from (xs : List V) (n : Nat) : cutV xs (some (n : Int)) none = xs.drop n := by
  have h0 : HT.sIx xs.length xs.length none = xs.length := by
    unfold HT.sIx
    simp
  have h : HT.sIx xs.length 0 (some (n : Int)) = min n xs.length := by
    unfold HT.sIx
    simp
    omega
  unfold cutV
  rw [h0, h]
  rcases Nat.le_total n xs.length with c | c
  · rw [Nat.min_eq_left c, List.take_of_length_le (by rw [List.length_drop]; exact Nat.le_refl _)]
  · rw [Nat.min_eq_right c, List.drop_eq_nil_of_le c, List.drop_eq_nil_of_le (Nat.le_refl _), List.take_nil]
theorem cut_last (xs : List V) (h : xs ≠ []) : ∃ v, cutV xs (some (-1)) none = [v] ∧ xs.getLast? = some v := by
  have hl : 0 < xs.length := List.length_pos_iff.mpr h
  have h0 : HT.sIx xs.length xs.length none = xs.length := by
    unfold HT.sIx
    simp
  have h1 : HT.sIx xs.length 0 (some (-1)) = xs.length - 1 := by
    unfold HT.sIx
    simp
    omega
  refine ⟨xs.getLast h, ?_, List.getLast?_eq_some_getLast h⟩
  unfold cutV
  rw [h0, h1, show xs.length - (xs.length - 1) = 1 by omega, List.drop_eq_getElem_cons (show xs.length - 1 < xs.length by omega), List.getLast_eq_getElem h]
  rfl
/-! ### t[::-1] -/
section
variable {prog : Program} {w : World} {A : Around} {E : Value → Shared → Prop} {s : Shared}
theorem sliceApplied_rev {sl : Addr} {vs : Value} {n : Nat} {Q : Int × Int × Nat → Shared → Prop} (hs : s.heap.IsSliceOf sl .none .none vs) (ps : IsPart vs (some (-1)))
    (h : Q ((n : Int) - 1, -1, n) s) : wpAny (model prog w) A (Builtin.Slice.sliceApplied (.ref sl) (pure (n : Int))) Q E s := by
  obtain ⟨os, hos, hcs, hds⟩ := id hs
  unfold Builtin.Slice.sliceApplied Builtin.Slice.sliceFields
  refine wpAny_bind (wpAny_bind (wpAny_field hos hds (x := .none) rfl (wpAny_bind (wpAny_field hos hds (x := .none) rfl (wpAny_bind (wpAny_field hos hds (x := vs) rfl (wpAny_pure ?_)))))))
  refine wpAny_bind (HT.slicePart_ ps ?_)
  show wpAny _ _ (if ((-1 : Int) == 0) = true then _ else _) _ _ s
  rw [if_neg (by decide)]
  refine wpAny_bind (HT.slicePart_ .none (wpAny_bind (HT.slicePart_ .none (wpAny_bind (wpAny_pure ?_)))))
  show wpAny _ _ (pure ((n : Int) - 1, (-1 : Int), Builtin.Slice.slicePlaces ((n : Int) - 1) (-1) (-1))) _ _ s
  have e : Builtin.Slice.slicePlaces ((n : Int) - 1) (-1) (-1) = n := by
    unfold Builtin.Slice.slicePlaces
    rw [if_neg (by decide)]
    by_cases c : n = 0
    · subst c
      decide
    · rw [if_pos (by omega), show (-(-1) : Int) = 1 by decide, Int.ediv_one]
      omega
  rw [e]
  exact wpAny_pure h
theorem filterMap_same {α β : Type} {f g : α → Option β} : ∀ l : List α, (∀ x ∈ l, f x = g x) → l.filterMap f = l.filterMap g
  | [], _ => rfl
  | x :: r, h => by
    rw [List.filterMap_cons, List.filterMap_cons, h x List.mem_cons_self, filterMap_same r fun y hy => h y (List.mem_cons_of_mem _ hy)]
theorem pick_rev (xs : Array Value) : ((List.range xs.size).filterMap fun (m : Nat) => xs[(((xs.size : Int) - 1) + (m : Int) * (-1)).toNat]?).toArray = xs.toList.reverse.toArray := by
  have e : ((List.range xs.size).filterMap fun (m : Nat) => xs[(((xs.size : Int) - 1) + (m : Int) * (-1)).toNat]?) = ((List.range xs.size).map fun k => xs.size - 1 - k).filterMap (xs[·]?) := by
    rw [List.filterMap_map]
    apply filterMap_same
    intro m hm
    have := List.mem_range.mp hm
    have e2 : (((xs.size : Int) - 1) + (m : Int) * (-1)).toNat = xs.size - 1 - m := by omega
    rw [e2]
    rfl
  rw [e, PySem.W.krv_range, List.filterMap_reverse, PySem.W.krv_all]
theorem getItem_tuple_rev {t sl : Addr} {items : Array Value} {vs : Value} {Q : Value → Shared → Prop} (ht : IsTup s.heap t items) (hs : s.heap.IsSliceOf sl .none .none vs) (ps : IsPart vs (some (-1)))
    (h : Q (.ref s.heap.objs.size) { s with heap := s.heap.push { cls := .type "tuple", data := .seq items.toList.reverse.toArray } })
    (hsz : items.size ≤ sizeLine) : wpAny (model prog w) A (getItem (.ref t) (.ref sl)) Q E s := by
  have htake : sizeOk (.seq items.toList.reverse.toArray) := by
    show items.toList.reverse.toArray.size ≤ sizeLine
    rw [List.size_toArray, List.length_reverse, Array.length_toList]
    exact hsz
  obtain ⟨os, hos, hcs, hds⟩ := id hs
  have hTs : s.TypeIs (.ref sl) "slice" := ⟨os, hos, hcs⟩
  unfold getItem
  try with_reducible refine wpAny_holding ?_
  first | refine wpAny_bind (wpAny_pure ?_) | skip
  refine wpAny_bind (wpAny_sequenceKey ht.typeIs (by decide) ?_)
  refine wpAny_bind (wpAny_callSpecial?_slot (name := Str.ofString "__getitem__") ht.typeIs PyProof.Rows.slot_tuple_getitem
    (wpAny_call_entry PyProof.Rows.slot_tuple_getitem ht.typeIs PyProof.Rows.entry_tuple_getitem ?_ (PyProof.Rows.args_tuple_getitem _ _)))
  show wpAny _ _ (Builtin.Tuple.tupleItemsOf (.ref t) >>= _) _ _ s
  refine wpAny_bind (tupleItemsOf_ ht ?_)
  refine wpAny_bind (wpAny_typeOf hTs ?_)
  rw [if_pos (by decide)]
  refine wpAny_bind (sliceApplied_rev hs ps ?_)
  have hno : ¬ ((((items.size : Int) - 1) == 0 && (-1 : Int) == 1 && items.size == items.size) = true) := by
    rw [show ((-1 : Int) == 1) = false by decide, Bool.and_false, Bool.false_and]
    exact Bool.false_ne_true
  show wpAny _ _ (if (((items.size : Int) - 1) == 0 && (-1 : Int) == 1 && items.size == items.size) = true then _ else _) _ _ s
  rw [if_neg hno, pick_rev]
  first
    | exact wpAny_bind (m := Builtin.Tuple.tupleExact _) (wpAny_newObj_type (wpAny_pure ⟨_, rfl, wpAny_pure h⟩) htake)
    | exact wpAny_bind (m := Builtin.Tuple.tupleExact _) (wpAny_newObj_type (wpAny_bind (wpAny_pure (wpAny_pure ⟨_, rfl, wpAny_pure h⟩))) htake)
    | exact wpAny_bind (wpAny_bind (m := Builtin.Tuple.tupleExact _) (wpAny_newObj_type (wpAny_pure (wpAny_pure ⟨_, rfl, wpAny_pure h⟩)) htake))
    | exact wpAny_bind (wpAny_bind (m := Builtin.Tuple.tupleExact _) (wpAny_newObj_type (wpAny_pure ⟨_, rfl, wpAny_pure h⟩) htake))
end
section
variable {X : Cx}
def tRevT (K : PySem.W.Frag) (te : TE) : TE := fun σ H Q => te σ H fun x H1 => ∃ a xs, x = .ref a ∧ SqT K H1 a xs ∧ ∀ p, H1 p = none → Q (.ref p) (upd H1 p (.tup xs.reverse))
theorem pe_revT {K : PySem.W.Frag} (hK : X.K = K) {e : Expr} {te : TE} {k : Nat} {p1 p2 p3 pos : Pos} (he : PE X e te) : PE X (.Subscript e (.Slice none none (some (.UnaryOp .USub (.Constant (.int 1) k p1) p2)) p3) pos) (tRevT K te) := by
  subst hK
  refine ⟨fun pins s σ H Q I h => ?_⟩
  refine Subscript_ (thn (he.run pins s σ H _ I h) fun v s1 ⟨x, H1, I1, r1, q1⟩ => ?_)
  obtain ⟨a, xs, ex, hx, q⟩ := q1
  subst ex
  cases r1
  have hst : PO X (some (.UnaryOp .USub (.Constant (.int 1) k p1) p2)) (tPart (tUn (rU fun i => .int (-i)) (tC (.int 1)))) := po_some (pe_un un_neg pe_int)
  refine wpAny_Slice ?_
  rw [evalPart_none]
  refine wpAny_pure ?_
  refine wpAny_pure ?_
  refine thn (hst.run pins s1 σ H1 (fun o H4 => o = some (-1) ∧ H4 = H1) I1 ⟨1, rfl, -1, rfl, rfl, rfl⟩) fun vs s4 ⟨o, H4, I4, ps, eo, e4⟩ => ?_
  subst eo e4
  have I5 : Inv X pins σ H4 { s4 with heap := s4.heap.push { cls := .type "slice", data := .fields #[.none, .none, vs] } } := I4.kept (t' := s4.toks) fun b ob q => Heap.get?_push_of_some _ q
  obtain ⟨its, r, ht, hz⟩ := I5.tuple hx
  have hlen := r.length
  show wpAny (model X.prog X.w) X.A (subscriptTail e (.Slice none none (some (.UnaryOp .USub (.Constant (.int 1) k p1) p2)) p3) (.ref a) (.ref s4.heap.objs.size)) (EP X pins σ Q) X.xe { s4 with heap := s4.heap.push { cls := .type "slice", data := .fields #[.none, .none, vs] } }
  refine tail_any (ops := [.ref a, .ref s4.heap.objs.size]) ht.typeIs PyProof.Rows.slot_tuple_getitem.lookup ?_ (by with_unfolding_all rfl)
  refine getItem_tuple_rev ht (Heap.IsSliceOf.new _ .none .none vs) ps ?_ (by rw [List.size_toArray]; omega)
  refine ⟨.ref _, _, I5.laid (t' := s4.toks) (o := .tup xs.reverse) (fun b ob q => Heap.get?_push_of_some _ q) (Nat.le_refl _) ?_, rfl, q _ (I5.hok.fresh (Nat.le_refl _))⟩
  exact ⟨by rw [List.length_reverse]; exact hz, _, r.reverse, IsTup.new _ _⟩
end
end Rk
namespace Rk
open PySem PySem.Spec PyProof.Rows L2

/-! ### data: what repr shows of tuples, part by part -/
def pw (ds : List PyData) : Nat := (ds.map fun d => d.shown.length + 2).sum
theorem pw_nil : pw [] = 0 := rfl
theorem pw_cons (d : PyData) (ds : List PyData) : pw (d :: ds) = d.shown.length + 2 + pw ds := by simp [pw]
theorem pw_append (xs ys : List PyData) : pw (xs ++ ys) = pw xs + pw ys := by simp [pw]
theorem pw_reverse (xs : List PyData) : pw xs.reverse = pw xs := by
  induction xs with
  | nil => rfl
  | cons x r ih => rw [List.reverse_cons, pw_append, ih, pw_cons, pw_cons, pw_nil]; omega
theorem pw_take_drop (ds : List PyData) (i : Nat) : pw (ds.take i) + pw (ds.drop i) = pw ds := by rw [← pw_append, List.take_append_drop]
theorem pw_len (ds : List PyData) : 2 * ds.length ≤ pw ds := by
  induction ds with
  | nil => exact Nat.le_refl _
  | cons d r ih => rw [pw_cons, List.length_cons]; omega
theorem pw_split {ds : List PyData} {i : Nat} {d : PyData} (h : ds[i]? = some d) : pw ds = pw (ds.take i) + (d.shown.length + 2) + pw (ds.drop (i + 1)) := by
  obtain ⟨hi, e⟩ := List.getElem?_eq_some_iff.mp h
  rw [← pw_take_drop ds i, List.drop_eq_getElem_cons hi, e, pw_cons]
  omega
theorem shownAll_piled : ∀ ds : List PyData, piled (PyData.shownAll ds) = pw ds
  | [] => by simp [PyData.shownAll, pw, piled]
  | d :: r => by
    have ih := shownAll_piled r
    show piled (PyData.shown d :: PyData.shownAll r) = _
    rw [piled_cons, ih, pw_cons]
theorem piled_sum : ∀ ts : List Str, piled ts = (ts.map (·.length)).sum + 2 * ts.length
  | [] => rfl
  | t :: r => by
    rw [piled_cons, piled_sum r, List.map_cons, List.sum_cons, List.length_cons]
    omega
theorem pw_le_tup (ds : List PyData) : pw ds ≤ (PyData.shown (.tuple ds)).length := by
  have h := piled_le_tupleText (PyData.shownAll ds)
  rw [shownAll_piled] at h
  exact h
theorem tup_le_pw (ds : List PyData) : (PyData.shown (.tuple ds)).length ≤ pw ds + 3 := by
  have h := tupleText_len_le (PyData.shownAll ds)
  have e := piled_sum (PyData.shownAll ds)
  rw [shownAll_piled] at e
  show (tupleText (PyData.shownAll ds)).length ≤ _
  omega
theorem list_le_pw (ds : List PyData) : (PyData.shown (.list ds)).length ≤ pw ds + 3 := by
  have h := listText_len_le (PyData.shownAll ds)
  have e := piled_sum (PyData.shownAll ds)
  rw [shownAll_piled] at e
  show (listText (PyData.shownAll ds)).length ≤ _
  omega
theorem showAll_iff : ∀ ds : List PyData, PyData.showableAll ds = true ↔ ∀ d ∈ ds, d.showable = true
  | [] => ⟨(fun _ _ h => nomatch h), fun _ => rfl⟩
  | d :: r => by
    show (PyData.showable d && PyData.showableAll r) = true ↔ _
    rw [Bool.and_eq_true, showAll_iff r]
    exact ⟨fun h x hx => (List.mem_cons.mp hx).elim (fun e => e ▸ h.1) (fun hx => h.2 x hx), fun h => ⟨h d List.mem_cons_self, fun x hx => h x (List.mem_cons_of_mem _ hx)⟩⟩
theorem depthAll_iff (k : Nat) : ∀ ds : List PyData, PyData.depthAll ds ≤ k ↔ ∀ d ∈ ds, d.depth ≤ k
  | [] => ⟨(fun _ _ h => nomatch h), fun _ => Nat.zero_le _⟩
  | d :: r => by
    show max (PyData.depth d) (PyData.depthAll r) ≤ k ↔ _
    rw [Nat.max_le, depthAll_iff k r]
    exact ⟨fun h x hx => (List.mem_cons.mp hx).elim (fun e => e ▸ h.1) (fun hx => h.2 x hx), fun h => ⟨h d List.mem_cons_self, fun x hx => h x (List.mem_cons_of_mem _ hx)⟩⟩
theorem layAll_iff : ∀ ds : List PyData, PyData.canLayAll0 ds = true ↔ ∀ d ∈ ds, d.canLay0 = true
  | [] => ⟨(fun _ _ h => nomatch h), fun _ => rfl⟩
  | d :: r => by
    show (PyData.canLay0 d && PyData.canLayAll0 r) = true ↔ _
    rw [Bool.and_eq_true, layAll_iff r]
    exact ⟨fun h x hx => (List.mem_cons.mp hx).elim (fun e => e ▸ h.1) (fun hx => h.2 x hx), fun h => ⟨h d List.mem_cons_self, fun x hx => h x (List.mem_cons_of_mem _ hx)⟩⟩
theorem lay_tup (ds : List PyData) : (PyData.tuple ds).canLay0 = true ↔ ∀ d ∈ ds, d.canLay0 = true := layAll_iff ds
theorem lay_list (ds : List PyData) : (PyData.list ds).canLay0 = true ↔ ∀ d ∈ ds, d.canLay0 = true := layAll_iff ds
/-- a part of a tuple that is shown -/
theorem ShQ.parts {ds : List PyData} {n k : Nat} (x : ShQ (.tuple ds) n k) : pw ds ≤ n ∧ ∀ d ∈ ds, d.showable = true ∧ d.depth + 1 ≤ k := by
  obtain ⟨s, p, l⟩ := x
  have s' : PyData.showableAll ds = true := s
  have p' : PyData.depthAll ds + 1 ≤ k := p
  refine ⟨Nat.le_trans (pw_le_tup ds) l, fun d hd => ⟨(showAll_iff ds).mp s' d hd, ?_⟩⟩
  have := (depthAll_iff (k - 1) ds).mp (by omega) d hd
  omega
theorem ShQ.tup_of {ds : List PyData} {n k : Nat} (h : ∀ d ∈ ds, d.showable = true ∧ d.depth + 1 ≤ k) (hk : 1 ≤ k) (hn : pw ds + 3 ≤ n) : ShQ (.tuple ds) n k := by
  refine ⟨(showAll_iff ds).mpr fun d hd => (h d hd).1, ?_, Nat.le_trans (tup_le_pw ds) hn⟩
  show PyData.depthAll ds + 1 ≤ k
  have := (depthAll_iff (k - 1) ds).mpr fun d hd => by have := (h d hd).2; omega
  omega
theorem ShQ.list_of {ds : List PyData} {n k : Nat} (h : ∀ d ∈ ds, d.showable = true ∧ d.depth + 1 ≤ k) (hk : 1 ≤ k) (hn : pw ds + 3 ≤ n) : ShQ (.list ds) n k := by
  refine ⟨(showAll_iff ds).mpr fun d hd => (h d hd).1, ?_, Nat.le_trans (list_le_pw ds) hn⟩
  show PyData.depthAll ds + 1 ≤ k
  have := (depthAll_iff (k - 1) ds).mpr fun d hd => by have := (h d hd).2; omega
  omega
theorem strOk_of (s : String) : PyData.strOk (Str.ofString s) = true := by
  show (Str.ofString s).cps.all (fun c => decide (c < 0x110000)) = true
  rw [← Array.all_toList, signs_ofString, List.all_map, List.all_eq_true]
  intro c hc
  have h := c.valid
  show decide (c.toNat < 0x110000) = true
  refine decide_eq_true ?_
  have h2 : c.val.toNat < 0xd800 ∨ 0xdfff < c.val.toNat ∧ c.val.toNat < 0x110000 := h
  show c.val.toNat < 0x110000
  omega
/-! ### data of a few depths: tuples, whole numbers and others -/
/-- tuples nest at most so deep, and their numbers are small -/
def Td (b : Int) : Nat → PyData → Prop
  | 0, _ => False
  | n + 1, .tuple ds => ∀ d ∈ ds, Td b n d
  | _ + 1, .int i => -b ≤ i ∧ i ≤ b
  | _ + 1, _ => True
/-- tuples and whole numbers, nothing else -/
def Ti : Nat → PyData → Prop
  | 0, _ => False
  | n + 1, .tuple ds => ∀ d ∈ ds, Ti n d
  | _ + 1, .int _ => True
  | _ + 1, _ => False
theorem Td.mono {b c : Int} (h : b ≤ c) : ∀ {n m : Nat} {d : PyData}, n ≤ m → Td b n d → Td c m d
  | 0, _, _, _, z => z.elim
  | n + 1, 0, _, hm, _ => absurd hm (by omega)
  | n + 1, m + 1, d, hm, z => by
    cases d with
    | tuple ds => exact fun x hx => Td.mono h (by omega) (z x hx)
    | int i => exact ⟨by have := z.1; omega, Int.le_trans z.2 h⟩
    | none => trivial
    | bool _ => trivial
    | str _ => trivial
    | list _ => trivial
    | dict _ => trivial
section
variable {K : PySem.W.Frag} {bad bad' : List Addr} {H : Hp}
mutual
theorem Dq.wider (b : ∀ x, x ∈ bad' → x ∈ bad ∨ H x = none) : ∀ (d : PyData) (v : V), Dq K bad H v d → Dq K bad' H v d
  | .none, _, h => by cases h; exact .non
  | .bool x, _, h => by cases h; exact .bl x
  | .int i, _, h => by cases h; exact .int i
  | .str x, _, h => by cases h; exact .str x
  | .list ds, _, h => by
    cases h with
    | lst e hb ha => exact .lst e (fun z => by rcases b _ z with z | z; exact hb z; rw [e] at z; cases z) (Dq.widerAll b ds _ ha)
  | .tuple ds, _, h => by
    cases h with
    | tup e ha => exact .tup e (Dq.widerAll b ds _ ha)
  | .dict ds, _, h => by
    cases h with
    | dct e hb ha => exact .dct e (fun z => by rcases b _ z with z | z; exact hb z; rw [e] at z; cases z) (Dq.widerKv b ds _ ha)
theorem Dq.widerAll (b : ∀ x, x ∈ bad' → x ∈ bad ∨ H x = none) : ∀ (ds : List PyData) (vs : List V), DqAll K bad H vs ds → DqAll K bad' H vs ds
  | [], _, h => by cases h; exact .nil
  | d :: ds, _, h => by
    cases h with
    | cons h1 h2 => exact .cons (Dq.wider b d _ h1) (Dq.widerAll b ds _ h2)
theorem Dq.widerKv (b : ∀ x, x ∈ bad' → x ∈ bad ∨ H x = none) : ∀ (ds : List (PyData × PyData)) (vs : List (Key × V)), DqKv K bad H vs ds → DqKv K bad' H vs ds
  | [], _, h => by cases h; exact .nil
  | d :: ds, _, h => by
    cases h with
    | cons h1 h2 => exact .cons (Dq.wider b _ _ h1) (Dq.widerKv b ds _ h2)
end
end
theorem Dq.lay_dict {ds : List (PyData × PyData)} : (PyData.dict ds).canLay0 = false := rfl
end Rk
namespace Rk
open PySem PySem.Spec PyProof.Rows L2

/-! ### when a change is over -/
def stepS (t : Int) : Option Int → Option Int → Option Int
  | some _, none => none
  | some a, some b => some (max t (b - a))
  | none, _ => some t
def setS (F G : Nat → Option Int) : Nat → Option Int
  | 0 => some 0
  | n + 1 => match setS F G n with
    | none => none
    | some t => stepS t (F n) (G n)
theorem stepS_ge {t u : Int} {f g : Option Int} (h : stepS t f g = some u) : t ≤ u := by
  cases f with
  | none => cases h; exact Int.le_refl _
  | some a =>
    cases g with
    | none => cases h
    | some b =>
      have : max t (b - a) = u := Option.some.inj h
      omega
theorem setS_nonneg {F G : Nat → Option Int} : ∀ {n : Nat} {u : Int}, setS F G n = some u → 0 ≤ u
  | 0, u, h => by cases h; exact Int.le_refl _
  | n + 1, u, h => by
    unfold setS at h
    cases e : setS F G n with
    | none => rw [e] at h; cases h
    | some t =>
      rw [e] at h
      have := setS_nonneg e
      have := stepS_ge h
      omega
theorem stepS_idem {t u : Int} {f g : Option Int} (h : stepS t f g = some u) : stepS u f g = some u := by
  cases f with
  | none => rfl
  | some a =>
    cases g with
    | none => cases h
    | some b =>
      have e : max t (b - a) = u := Option.some.inj h
      show some (max u (b - a)) = some u
      congr 1
      omega
theorem setS_const {F G : Nat → Option Int} {n : Nat} (h0 : 0 < n) (hF : ∀ k, n ≤ k → F k = F (n - 1)) (hG : ∀ k, n ≤ k → G k = G (n - 1)) : ∀ {m : Nat}, n ≤ m → setS F G m = setS F G n := by
  obtain ⟨j, rfl⟩ : ∃ j, n = j + 1 := ⟨n - 1, by omega⟩
  intro m
  induction m with
  | zero => intro h; omega
  | succ m ih =>
    intro h
    by_cases e : j + 1 = m + 1
    · rw [e]
    · have hm : j + 1 ≤ m := by omega
      have ih' := ih hm
      rw [show setS F G (m + 1) = (match setS F G m with | none => none | some t => stepS t (F m) (G m)) from rfl, ih', hF m hm, hG m hm, show j + 1 - 1 = j by omega]
      cases e1 : setS F G (j + 1) with
      | none => rfl
      | some u =>
        show stepS u (F j) (G j) = some u
        rw [show setS F G (j + 1) = (match setS F G j with | none => none | some t => stepS t (F j) (G j)) from rfl] at e1
        cases e2 : setS F G j with
        | none => rw [e2] at e1; cases e1
        | some t => rw [e2] at e1; exact stepS_idem e1
/-- the same of two rules -/
def setL (ls ms : List (Option Int)) : Option Int := setS (lifeAt ls) (lifeAt ms) (max ls.length ms.length)
theorem setL_far {ls ms : List (Option Int)} (h0 : 0 < ls.length) (h1 : 0 < ms.length) {m : Nat} (h : max ls.length ms.length ≤ m) : setS (lifeAt ls) (lifeAt ms) m = setL ls ms :=
  setS_const (F := lifeAt ls) (G := lifeAt ms) (n := max ls.length ms.length) (by omega) (fun k hk => lifeAt_far h0 (Nat.le_max_left ls.length ms.length) hk) (fun k hk => lifeAt_far h1 (Nat.le_max_right ls.length ms.length) hk) h
theorem setL_ext {ls ms ls' ms' : List (Option Int)} (h0 : 0 < ls.length) (h1 : 0 < ms.length) (h0' : 0 < ls'.length) (h1' : 0 < ms'.length) (e : ∀ i, lifeAt ls i = lifeAt ls' i) (e' : ∀ i, lifeAt ms i = lifeAt ms' i) : setL ls ms = setL ls' ms' := by
  rw [← setL_far h0 h1 (Nat.le_max_left _ (max ls'.length ms'.length)), ← setL_far h0' h1' (Nat.le_max_right (max ls.length ms.length) _), funext e, funext e']
theorem setL_short {ls ms : List (Option Int)} (h0 : 0 < ls.length) (h1 : 0 < ms.length) : setL (short ls) (short ms) = setL ls ms :=
  setL_ext (short_len_pos h0) (short_len_pos h1) h0 h1 (lifeAt_short h0) (lifeAt_short h1)
theorem setS_some {F G : Nat → Option Int} : ∀ {n : Nat} {u : Int}, setS F G n = some u → ∀ i, i < n → ∀ v, u ≤ v → leO (G i) (addO v (F i)) = true
  | 0, u, _, i, hi, _, _ => absurd hi (Nat.not_lt_zero _)
  | n + 1, u, h, i, hi, v, hv => by
    unfold setS at h
    cases e : setS F G n with
    | none => rw [e] at h; cases h
    | some t =>
      rw [e] at h
      have tu := stepS_ge h
      by_cases c : i = n
      · subst c
        cases ef : F i with
        | none => exact by cases G i <;> rfl
        | some a =>
          rw [ef] at h
          cases eg : G i with
          | none => rw [eg] at h; cases h
          | some b =>
            rw [eg] at h
            have : max t (b - a) = u := Option.some.inj h
            exact decide_eq_true (show b ≤ a + v by omega)
      · exact setS_some e i (by omega) v (by omega)
theorem setS_none {F G : Nat → Option Int} : ∀ {n : Nat}, setS F G n = none → ∃ i, i < n ∧ ∃ a, F i = some a ∧ G i = none
  | 0, h => by cases h
  | n + 1, h => by
    unfold setS at h
    cases e : setS F G n with
    | none =>
      obtain ⟨i, hi, q⟩ := setS_none e
      exact ⟨i, by omega, q⟩
    | some t =>
      rw [e] at h
      cases ef : F n with
      | none => rw [ef] at h; cases h
      | some a =>
        rw [ef] at h
        cases eg : G n with
        | none => exact ⟨n, by omega, a, ef, eg⟩
        | some b => rw [eg] at h; cases h
theorem setS_tight {F G : Nat → Option Int} : ∀ {n : Nat} {u : Int}, setS F G n = some u → u ≠ 0 → ∃ i, i < n ∧ ∃ a, F i = some a ∧ G i = some (a + u)
  | 0, u, h, hu => by cases h; exact absurd rfl hu
  | n + 1, u, h, hu => by
    unfold setS at h
    cases e : setS F G n with
    | none => rw [e] at h; cases h
    | some t =>
      rw [e] at h
      by_cases c : t = u
      · obtain ⟨i, hi, q⟩ := setS_tight e (by rw [c]; exact hu)
        rw [c] at q
        exact ⟨i, by omega, q⟩
      · cases ef : F n with
        | none => rw [ef] at h; exact absurd (Option.some.inj h) c
        | some a =>
          rw [ef] at h
          cases eg : G n with
          | none => rw [eg] at h; cases h
          | some b =>
            rw [eg] at h
            have : max t (b - a) = u := Option.some.inj h
            exact ⟨n, by omega, a, ef, by rw [eg]; congr 1; omega⟩
/-- behind the ticks of settled the change is over -/
theorem chg_over {ls ms : List (Option Int)} (h0 : 0 < ls.length) (h1 : 0 < ms.length) {u v : Int} (h : setL ls ms = some u) (hv : u ≤ v) : short (chgL ls ms v) = short ms := by
  refine short_ext (by rw [chgL_len]; omega) h1 (fun i => ?_)
  rw [lifeAt_chg h0 h1, minO_eq]
  have e := setL_far h0 h1 (Nat.le_max_left (max ls.length ms.length) (i + 1))
  rw [h] at e
  exact setS_some e i (by omega) v hv
theorem chg_never {ls ms : List (Option Int)} (h0 : 0 < ls.length) (h1 : 0 < ms.length) {v : Int} (h : setL ls ms = none) : short (chgL ls ms v) ≠ short ms := fun z => by
  obtain ⟨i, hi, a, ef, eg⟩ := setS_none h
  have q := short_inj (by rw [chgL_len]; omega) h1 z i
  rw [lifeAt_chg h0 h1, ef, eg] at q
  cases q
theorem chg_early {ls ms : List (Option Int)} (h0 : 0 < ls.length) (h1 : 0 < ms.length) {u : Int} (h : setL ls ms = some u) (hu : u ≠ 0) : short (chgL ls ms (u - 1)) ≠ short ms := fun z => by
  obtain ⟨i, hi, a, ef, eg⟩ := setS_tight h hu
  have q := short_inj (by rw [chgL_len]; omega) h1 z i
  rw [lifeAt_chg h0 h1, ef, eg] at q
  have e : minO (some (a + u)) (addO (u - 1) (some a)) = some (a + (u - 1)) := by
    show (if leO (some (a + u)) (some (a + (u - 1))) = true then some (a + u) else some (a + (u - 1))) = some (a + (u - 1))
    rw [if_neg (fun w => by have := of_decide_eq_true w; omega)]
  rw [e] at q
  have := Option.some.inj q
  omega
theorem setS_add {F : Nat → Option Int} {u : Int} (hu : 0 ≤ u) : ∀ {n : Nat}, setS F (fun i => addO u (F i)) n = some (if ∃ i, i < n ∧ F i ≠ none then u else 0)
  | 0 => by rw [if_neg (fun ⟨i, h, _⟩ => absurd h (Nat.not_lt_zero _))]; rfl
  | n + 1 => by
    unfold setS
    rw [setS_add hu (n := n)]
    show stepS _ (F n) (addO u (F n)) = _
    cases ef : F n with
    | none =>
      have e : (∃ i, i < n + 1 ∧ F i ≠ none) ↔ (∃ i, i < n ∧ F i ≠ none) := ⟨fun ⟨i, h, q⟩ => ⟨i, by
        rcases Nat.lt_or_ge i n with z | z
        · exact z
        · have : i = n := by omega
          subst this
          exact absurd ef q, q⟩, fun ⟨i, h, q⟩ => ⟨i, by omega, q⟩⟩
      show some _ = some _
      simp only [e]
    | some a =>
      rw [if_pos (⟨n, by omega, by rw [ef]; exact fun z => nomatch z⟩ : ∃ i, i < n + 1 ∧ F i ≠ none)]
      show some (max _ (a + u - a)) = some u
      congr 1
      by_cases c : ∃ i, i < n ∧ F i ≠ none
      · rw [if_pos c]; omega
      · rw [if_neg c]; omega
theorem setS_sub {F : Nat → Option Int} {u : Int} (hu : 0 ≤ u) : ∀ {n : Nat}, setS (fun i => addO u (F i)) F n = some 0
  | 0 => rfl
  | n + 1 => by
    unfold setS
    rw [setS_sub hu (n := n)]
    show stepS 0 (addO u (F n)) (F n) = some 0
    cases F n with
    | none => rfl
    | some a =>
      show some (max 0 (a - (a + u))) = some 0
      congr 1
      omega
theorem setL_add {ls : List (Option Int)} (h0 : 0 < ls.length) (up : ∀ i j, i ≤ j → leO (lifeAt ls i) (lifeAt ls j) = true) {u : Int} (hu : 0 ≤ u) : setL ls (short (ls.map (addO u))) = some (if lifeAt ls 0 = none then 0 else u) := by
  have hm : 0 < (ls.map (addO u)).length := by rw [List.length_map]; exact h0
  have e1 : setL ls (short (ls.map (addO u))) = setL ls (ls.map (addO u)) := setL_ext h0 (short_len_pos hm) h0 hm (fun _ => rfl) (lifeAt_short hm)
  rw [e1]
  unfold setL
  rw [List.length_map, Nat.max_self, funext (fun i => lifeAt_map (addO u) h0 i), setS_add hu]
  congr 1
  by_cases c : lifeAt ls 0 = none
  · rw [if_pos c, if_neg]
    rintro ⟨i, _, q⟩
    have z := up 0 i (Nat.zero_le _)
    rw [c] at z
    cases e : lifeAt ls i with
    | none => exact q e
    | some a => rw [e] at z; cases z
  · rw [if_neg c, if_pos ⟨0, h0, c⟩]
theorem setL_sub {ls : List (Option Int)} (h0 : 0 < ls.length) {u : Int} (hu : 0 ≤ u) : setL (short (ls.map (addO u))) ls = some 0 := by
  have hm : 0 < (ls.map (addO u)).length := by rw [List.length_map]; exact h0
  have e1 : setL (short (ls.map (addO u))) ls = setL (ls.map (addO u)) ls := setL_ext (short_len_pos hm) h0 hm h0 (lifeAt_short hm) (fun _ => rfl)
  rw [e1]
  unfold setL
  rw [List.length_map, Nat.max_self, funext (fun i => lifeAt_map (addO u) h0 i), setS_sub hu]
theorem setS_bd {n : Nat} {F G : Nat → Option Int} (hF : ∀ i v, F i = some v → 0 ≤ v) (hG : ∀ i, Bdn n (G i)) : ∀ {m : Nat}, Bdn n (setS F G m)
  | 0 => fun i e => by
    cases e
    exact ⟨Int.le_refl _, Int.mul_nonneg (by omega) (by decide)⟩
  | m + 1 => fun u e => by
    unfold setS at e
    cases e1 : setS F G m with
    | none => rw [e1] at e; cases e
    | some t =>
      rw [e1] at e
      have b := setS_bd hF hG t e1
      cases ef : F m with
      | none => rw [ef] at e; cases e; exact b
      | some a =>
        rw [ef] at e
        cases eg : G m with
        | none => rw [eg] at e; cases e
        | some g =>
          rw [eg] at e
          have h : max t (g - a) = u := Option.some.inj e
          have := hF m a ef
          have := hG m g eg
          omega
end Rk
namespace Rk
open PySem PySem.Spec PyProof.Rows L2

/-! ### a def with a star parameter, by its name -/
structure DfS (K : PySem.W.Frag) (mg : Str → Option Value) (x : Str) (st : Stmt) : Prop where
  ex : ∃ (f : Addr) (fd : FuncData), Fun K x x st f fd ∧ mg x = some (.ref f)
def HasS (P : Program) (w : World) (K : PySem.W.Frag) (mg : Str → Option Value) (base : Heap) (k : Nat) (x : Str) (sp : Sp) : Prop :=
  ∃ f : Addr, mg x = some (.ref f) ∧ PySem.W.keepIn K (.ref f) = true ∧ FnR P w K mg base CX0 k f sp
section
variable {X : Cx} {k : Nat} {sp : Sp} {x : Str} {p pos : Pos} {e : Expr} {es : List Expr} {t : TA}
theorem pe_hasS (h : HasS X.prog X.w X.K X.mg X.base k x sp) (hr : Room k X.A) (gx : Gl X x) (ha : PA X (e :: es) t) (hdb : (x == ("__debug__" : Str)) = false := by decide)
    (he : starEach (e :: es) X.env = (false, eval e X.env) :: starEach es X.env := by rfl) (hpl : (backTo pos (starEach es X.env)).any (·.1) = false := by rfl) :
    PE X (.Call (.Name x p) (e :: es) [] pos) (tCall sp [] E0 t) := by
  obtain ⟨f, m, kp, F⟩ := h
  constructor
  intro pins s σ H Q I hq
  refine wpAny_Call_Name_kw (ld_glob I gx m ?_ hdb)
  refine PySem.W.callWith_K (h₀ := X.base) I.ok.mod.kin kp (thn (ha.run pos pins s σ H _ I hq) ?_) he hpl
  rintro us s1 ⟨vs, H1, I1, r, q⟩
  refine ⟨I1.kIn, ?_⟩
  have q' : sp vs H1 Q E0 := by
    rw [List.append_nil] at q
    exact q
  exact wpAny_call (run_fnR F hr pass0 I1 r q')
end

/-! ### changes one behind another -/
def afterS (x : List (Option Int)) : List (List (Option Int) × Int) → List (Option Int)
  | [] => x
  | c :: cs => afterS (short (chgL x c.1 c.2)) cs
theorem afterS_snoc {x : List (Option Int)} {cs : List (List (Option Int) × Int)} {c : List (Option Int) × Int} : afterS x (cs ++ [c]) = short (chgL (afterS x cs) c.1 c.2) := by
  induction cs generalizing x with
  | nil => rfl
  | cons d cs ih => exact ih
theorem afterS_app {x : List (Option Int)} {cs ds : List (List (Option Int) × Int)} : afterS x (cs ++ ds) = afterS (afterS x cs) ds := by
  induction cs generalizing x with
  | nil => rfl
  | cons d cs ih => exact ih
theorem chg_pos {x y : List (Option Int)} {u : Int} (h : 0 < x.length) : 0 < (short (chgL x y u)).length := short_len_pos (by rw [chgL_len]; omega)
theorem chg_len {x y : List (Option Int)} {u : Int} {n : Nat} (h : x.length ≤ n) (h' : y.length ≤ n) : (short (chgL x y u)).length ≤ n := Nat.le_trans (short_len_le _) (by rw [chgL_len]; omega)
theorem chg_shortR {x y : List (Option Int)} (h : 0 < x.length) (h' : 0 < y.length) (u : Int) : short (chgL x (short y) u) = short (chgL x y u) := by
  have p1 := short_len_pos h'
  refine short_ext (by rw [chgL_len]; omega) (by rw [chgL_len]; omega) (fun i => ?_)
  rw [lifeAt_chg h p1, lifeAt_chg h h', lifeAt_short h']
theorem chg_shortL {x y : List (Option Int)} (h : 0 < x.length) (h' : 0 < y.length) (u : Int) : short (chgL (short x) y u) = short (chgL x y u) := by
  have p1 := short_len_pos h
  refine short_ext (by rw [chgL_len]; omega) (by rw [chgL_len]; omega) (fun i => ?_)
  rw [lifeAt_chg p1 h', lifeAt_chg h h', lifeAt_short h]
/-- what stands at the changes of a call -/
def ChAt (RA : Hp → Addr → List (Option Int) → Prop) (H : Hp) : List V → List (List (Option Int) × Int) → Prop
  | [], [] => True
  | v :: vs, c :: cs => (∃ t r, v = .ref t ∧ H t = some (.tup [.ref r, .int c.2]) ∧ RA H r c.1 ∧ 0 < c.1.length ∧ c.1.length ≤ 1000) ∧ ChAt RA H vs cs
  | _, _ => False
section
variable {RA : Hp → Addr → List (Option Int) → Prop} {H H' : Hp}
theorem ChAt.length : ∀ {xs : List V} {cs : List (List (Option Int) × Int)}, ChAt RA H xs cs → xs.length = cs.length
  | [], [], _ => rfl
  | _ :: _, _ :: _, h => congrArg (· + 1) (ChAt.length h.2)
  | [], _ :: _, h => h.elim
  | _ :: _, [], h => h.elim
theorem ChAt.keep (k : ∀ t ys, H t = some (.tup ys) → H' t = some (.tup ys)) (l : ∀ r ls, RA H r ls → RA H' r ls) : ∀ {xs : List V} {cs : List (List (Option Int) × Int)}, ChAt RA H xs cs → ChAt RA H' xs cs
  | [], [], _ => trivial
  | _ :: _, _ :: _, ⟨⟨t, r, e, h, q, z⟩, w⟩ => ⟨⟨t, r, e, k _ _ h, l _ _ q, z⟩, ChAt.keep k l w⟩
  | [], _ :: _, h => h.elim
  | _ :: _, [], h => h.elim
theorem ChAt.snoc {xs : List V} {cs : List (List (Option Int) × Int)} {t r : Addr} {c : List (Option Int) × Int} (h : ChAt RA H xs cs) (e : H t = some (.tup [.ref r, .int c.2])) (q : RA H r c.1) (z : 0 < c.1.length) (z' : c.1.length ≤ 1000) : ChAt RA H (xs ++ [.ref t]) (cs ++ [c]) := by
  induction xs generalizing cs with
  | nil =>
    cases cs with
    | nil => exact ⟨⟨t, r, rfl, e, q, z, z'⟩, trivial⟩
    | cons _ _ => exact h.elim
  | cons x xs ih =>
    cases cs with
    | nil => exact h.elim
    | cons d ds => exact ⟨h.1, ih h.2⟩
theorem ChAt.at {xs : List V} {cs : List (List (Option Int) × Int)} (h : ChAt RA H xs cs) {i : Nat} {x : V} (e : xs[i]? = some x) : ∃ t r c, x = .ref t ∧ cs[i]? = some c ∧ H t = some (.tup [.ref r, .int c.2]) ∧ RA H r c.1 ∧ 0 < c.1.length ∧ c.1.length ≤ 1000 := by
  induction xs generalizing cs i with
  | nil => simp at e
  | cons y ys ih =>
    cases cs with
    | nil => exact h.elim
    | cons d ds =>
      cases i with
      | zero =>
        obtain ⟨t, r, e1, h1, q, z⟩ := h.1
        simp at e
        exact ⟨t, r, d, e ▸ e1, rfl, h1, q, z⟩
      | succ i => exact ih h.2 (by simpa using e)
end
theorem drop_cons2 {α : Type} {l : List α} {i : Nat} {c : α} (h : l[i]? = some c) : l.drop i = c :: l.drop (i + 1) := by
  obtain ⟨hi, e⟩ := List.getElem?_eq_some_iff.mp h
  rw [List.drop_eq_getElem_cons hi, e]
theorem after_len {n : Nat} {cs : List (List (Option Int) × Int)} (hc : ∀ c ∈ cs, c.1.length ≤ n) : ∀ {x : List (Option Int)}, x.length ≤ n → (afterS x cs).length ≤ n := by
  induction cs with
  | nil => exact fun h => h
  | cons d ds ih => exact fun h => ih (fun c h' => hc c (List.mem_cons_of_mem _ h')) (chg_len h (hc d (List.mem_cons_self ..)))
theorem after_pos {cs : List (List (Option Int) × Int)} : ∀ {x : List (Option Int)}, 0 < x.length → 0 < (afterS x cs).length := by
  induction cs with
  | nil => exact fun h => h
  | cons d ds ih => exact fun h => ih (chg_pos h)
theorem minO_assoc2 {g x : Option Int} {u v : Int} (h : 0 ≤ v) : minO g (addO v (minO g (addO u x))) = minO g (addO (u + v) x) := by
  cases g with
  | none =>
    cases x with
    | none => rfl
    | some x =>
      show some (x + u + v) = some (x + (u + v))
      rw [Int.add_assoc]
  | some g =>
    cases x with
    | none =>
      show (if leO (some g) (some (g + v)) = true then some g else some (g + v)) = some g
      rw [if_pos (show leO (some g) (some (g + v)) = true from decide_eq_true (by omega : g ≤ g + v))]
    | some x =>
      by_cases c : g ≤ x + u
      · have e1 : minO (some g) (addO u (some x)) = some g := minO_eq (decide_eq_true c)
        rw [e1, minO_eq (show leO (some g) (addO v (some g)) = true from decide_eq_true (by omega : g ≤ g + v)), minO_eq (show leO (some g) (addO (u + v) (some x)) = true from decide_eq_true (by omega : g ≤ x + (u + v)))]
      · have e1 : minO (some g) (addO u (some x)) = some (x + u) := by
          unfold minO
          rw [if_neg (show ¬ leO (some g) (addO u (some x)) = true from fun z => c (of_decide_eq_true z))]
          rfl
        rw [e1]
        show minO (some g) (some (x + u + v)) = minO (some g) (some (x + (u + v)))
        rw [Int.add_assoc]
theorem chg_twice {x g : List (Option Int)} (h : 0 < x.length) (h' : 0 < g.length) {u v : Int} (hv : 0 ≤ v) : short (chgL (short (chgL x g u)) g v) = short (chgL x g (u + v)) := by
  have p : 0 < (chgL x g u).length := by rw [chgL_len]; omega
  refine short_ext (by rw [chgL_len]; omega) (by rw [chgL_len]; omega) (fun i => ?_)
  rw [lifeAt_chg (short_len_pos p) h', lifeAt_short p, lifeAt_chg h h', lifeAt_chg h h', minO_assoc2 hv]
/-- a change for no ticks -/
theorem chg_none {x g : List (Option Int)} (h : 0 < x.length) (h' : 0 < g.length) (u : Int) : short (chgL (short (chgL x g 0)) x u) = short (chgL (short (rows (fun i => minO (lifeAt x i) (lifeAt g i)) (max x.length g.length))) x u) := by
  rw [show short (chgL x g 0) = short (rows (fun i => minO (lifeAt x i) (lifeAt g i)) (max x.length g.length)) from ?_]
  refine short_ext (by rw [chgL_len]; omega) (by rw [rows_length]; omega) (fun i => ?_)
  rw [show rows (fun i => minO (lifeAt x i) (lifeAt g i)) (max x.length g.length) = twoL minO x g from rfl, lifeAt_two h h', lifeAt_chg h h', addO_0, minO_comm]
end Rk
set_option maxHeartbeats 1000000
namespace Rk
open PySem PySem.Spec PyProof.Rows L2 GenW
open Sem (wp)

/-! ### for loops in a generator's body -/
section
variable {M : Model} {A : Around} {R : GenEnd} {Y : Protocol} {n : Nat} {s₀ : Shared} {c : Code} {fs : List Frame} {s : Shared} {env : Env}
  {K : Flow → Sem PySem.Fin} {J : Value → Sem PySem.Fin} {gd : Bool → Bool} {lv : List Value → List Value}
theorem seg_For {target iter : Expr} {body : List Stmt} {pos : Pos} (hs : ∀ x, foldedSetIterable iter env x = pure x)
    (h : wpAny M (A.over c fs) (eval iter env) (fun x s1 => wpAny M (A.over c fs) (pyIter x) (fun it s2 => ∀ p, Seg M A R Y n s₀ (.forLoop target it body [] env) (M.den (.forLoop target it body [] env))
      (.ret (fun r => ((match r with | .ok f => (.pure f : Sem Flow) | .error e => .raise e).onRaise (cameBack env)).wrap K J gd lv) none (gd false) (lv []) c p [] :: fs) s2) (fun x s' => Seg M A R Y n s₀ c (J x) fs s') s1) (fun x s' => Seg M A R Y n s₀ c (J x) fs s') s) :
    Seg M A R Y n s₀ c ((exec (.For target iter body [] pos) env).wrap K J gd lv) fs s := by
  rw [exec_For]
  refine seg_bind_wrap (wpAny_standAt ?_)
  refine seg_bind_wrap (wpAny_mono h (fun x s1 h1 => ?_) fun _ _ z => z)
  refine seg_bind_wrap (wpAny_of_eq (hs x) ?_)
  refine seg_bind_wrap (wpAny_standAt ?_)
  refine seg_bind_wrap (wpAny_holding (wpAny_mono h1 (fun it s2 h2 => ?_) fun _ _ z => z))
  exact seg_call h2
end
section
variable {prog : Program} {w : World} {A : Around} {R : GenEnd} {Y : Protocol} {n : Nat} {s₀ : Shared} {fs : List Frame} {s : Shared} {env : Env}
abbrev excF (env : Env) (x : Value) : Sem PySem.Fin := (do noteFrame x env; theTreesLotGoes x : Sem Unit).wrap (fun _ => .raise x) .raise id id
theorem seg_forLoop {target : Expr} {it : Value} {body : List Stmt}
    (h : wpAny (model prog w) (A.over (.forLoop target it body [] env) fs) (pyNext it) (fun r s1 => match r with
      | none => Seg (model prog w) A R Y n s₀ (.block [] env) (.pure (.done .next)) fs s1
      | some v => wpAny (model prog w) (A.over (.forLoop target it body [] env) fs) (letOwnedTupleGo target it v) (fun _ s2 => wpAny (model prog w) (A.over (.forLoop target it body [] env) fs) (assign target env v) (fun _ s3 =>
          Seg (model prog w) A R Y n s₀ (.forLoop target it body [] env) ((execs body env).wrap (fun f => match f with
            | .next | .cont => .pure (.again (.forLoop target it body [] env))
            | .brk => .pure (.done .next)
            | .ret v => .pure (.done (.ret v))) (excF env) id id) fs s3)
          (fun x s' => Seg (model prog w) A R Y n s₀ (.forLoop target it body [] env) (excF env x) fs s') s2) (fun x s' => Seg (model prog w) A R Y n s₀ (.forLoop target it body [] env) (excF env x) fs s') s1)
      (fun x s' => Seg (model prog w) A R Y n s₀ (.forLoop target it body [] env) (excF env x) fs s') s) :
    Seg (model prog w) A R Y n s₀ (.forLoop target it body [] env) ((model prog w).den (.forLoop target it body [] env)) fs s := by
  show Seg _ A R Y n s₀ _ ((forTurn target it body [] env).onRaise (fun x => do noteFrame x env; theTreesLotGoes x)) fs s
  have ex : ∀ x s', Seg (model prog w) A R Y n s₀ (.forLoop target it body [] env) (excF env x) fs s' → Seg (model prog w) A R Y n s₀ (.forLoop target it body [] env) ((do noteFrame x env; theTreesLotGoes x : Sem Unit).bind fun _ => .raise x) fs s' := fun x s' z => by
    rw [Sem.bind_eq_wrap]
    exact z
  unfold forTurn
  rw [Sem.onRaise_eq_wrap]
  refine seg_bind_wrap (wpAny_standAt ?_)
  refine seg_bind_wrap (wpAny_onRaise (wpAny_mono h (fun r s1 h1 => ?_) fun x s' z => wpAny_standAt (ex x s' z)))
  cases r with
  | none => exact seg_again rfl h1
  | some v =>
    refine seg_bind_wrap (wpAny_mono h1 (fun _ s2 h2 => ?_) fun x s' z => ex x s' z)
    refine seg_bind_wrap (wpAny_mono h2 (fun _ s3 h3 => ?_) fun x s' z => ex x s' z)
    rw [Sem.bind_eq_wrap', Sem.wrap_wrap]
    rw [Sem.wrap_congr (execs body env) _ _ (K' := fun f => match f with
            | .next | .cont => .pure (.again (.forLoop target it body [] env))
            | .brk => .pure (.done .next)
            | .ret v => .pure (.done (.ret v))) (H' := excF env)
        (fun f => by cases f <;> rfl)
        (fun e => by first | exact Sem.bind_eq_wrap _ _ | (show (do noteFrame e env; theTreesLotGoes e : Sem Unit).bind (fun _ => .raise e) = _; rw [Sem.bind_eq_wrap]))]
    exact h3
end
section
variable {X : Cx}
def tGFor (wi : TI) (g : TG) (tb : TGn) : TGn := fun D ys σ H => wi σ H fun J H1 => ∃ W : Nat → Nat → List V → L2.St → Hp → Prop, (∃ m, W 0 m ys σ H1) ∧ ∀ i m ys σ H, W i m ys σ H →
  (J.stop i H ∧ D.nx ys σ H) ∨ (J.go i H ∧ ∃ N : List V → L2.St → Hp → Prop, (∀ ys' σ' H', N ys' σ' H' → ∃ m', m' < m ∧ W (i + 1) m' ys' σ' H') ∧ ∀ x H', J.yld i H x H' → g x σ H' fun σ2 H2 => tb { D with nx := N, ct := N, bk := D.nx } ys σ2 H2)
/-- fewer pins -/
theorem GI.less {S : Addr} {ip pl : List (Addr × Obj)} {ys : List V} {σ : L2.St} {H : Hp} {s : Shared} (h : GI X S (ip ++ pl) ys σ H s) : GI X S ip ys σ H s := by
  obtain ⟨acc, c, r, I⟩ := h
  refine ⟨acc, c, r, ?_⟩
  have I2 : Inv X (((S, lstObj acc c) :: ip) ++ pl) σ H s := I
  exact I2.unpinned
theorem gs_for {tg iter : Expr} {body : List Stmt} {wi : TI} {g : TG} {tb : TGn} {pos : Pos} (hp : PassesOwn (model X.prog X.w) X.A X.env X.xe) (hc : X.calm = true) (hi : PI X tg iter wi) (hg : PG X tg g) (hb : GSs X body tb)
    (hs : ∀ x, foldedSetIterable iter X.env x = pure x := by intro _; rfl) : GS X (.For tg iter body [] pos) (tGFor wi g tb) := by
  refine ⟨fun A S ip R n ys s₀ c fs K Jx gd lv s σ H D gc hn k hI ht => ?_⟩
  obtain ⟨acc0, cc0, r0, I0⟩ := hI
  refine seg_For hs ?_
  rw [gc.over]
  refine wpAny_mono (hi.run _ s σ H _ I0 ht) (fun v s1 h1 => wpAny_mono h1 (fun itv s2 h2 => ?_) fun x s' hx => k.exc n s₀ x s' hx) fun x s' hx => k.exc n s₀ x s' hx
  obtain ⟨it, fp, tn, J, H2, e, I2, T, st2, f2, W, ⟨m0, w0⟩, turn⟩ := h2
  subst e
  intro p
  have gl := fun (kk : Result → Sem PySem.Fin) => gc_loop (k := kk) (c' := .forLoop tg (.ref it) body [] X.env) (l := lv []) (kp := []) (p := p) gc rfl rfl
  have hSfp : ∀ b ∈ fp, S ≠ b := fun b hb => (f2 b hb).2.2.2.2.2 (S, lstObj acc0 cc0) (List.mem_append_right _ List.mem_cons_self)
  have stat : ∀ {H' : Hp} {acc : Array Value} {cc : Nat}, (∀ b ∈ fp, H' b = none) → ∀ b ∈ fp, FpOk X ((S, lstObj acc cc) :: ip) H' b := fun {H' acc cc} hn' b hb => by
    obtain ⟨_, q1, q2, q3, q4, q5⟩ := f2 b hb
    refine ⟨hn' b hb, q1, q2, q3, q4, fun p hp' => ?_⟩
    rcases List.mem_append.mp hp' with z | z
    · exact q5 p (List.mem_append_left _ z)
    · rcases List.mem_cons.mp z with z | z
      · rw [z]; exact hSfp b hb
      · exact q5 p (List.mem_append_right _ (List.mem_cons_of_mem _ z))
  have loop : ∀ (m i n : Nat) (ys : List V) (s₀ s : Shared) (σ : L2.St) (H : Hp), n + ys.length = sizeLine → W i m ys σ H → GI X S ip ys σ H s → tn i s.heap → (∀ b ∈ fp, H b = none) →
      Seg (model X.prog X.w) A R (GY X S) n s₀ (.forLoop tg (.ref it) body [] X.env) ((model X.prog X.w).den (.forLoop tg (.ref it) body [] X.env))
        (.ret (fun r => ((match r with | .ok f => (.pure f : Sem Flow) | .error e => .raise e).onRaise (cameBack X.env)).wrap K Jx gd lv) none (gd false) (lv []) c p [] :: fs) s := by
    intro m
    induction m using Nat.strongRecOn with
    | ind m ih =>
      intro i n ys s₀ s σ H hn w hI st fr
      have ee : ∀ (n : Nat) (s₀ : Shared) (x : Value) (s' : Shared), X.xe x s' → Seg (model X.prog X.w) A R (GY X S) n s₀ (.forLoop tg (.ref it) body [] X.env)
          (excF X.env x) (.ret (fun r => ((match r with | .ok f => (.pure f : Sem Flow) | .error e => .raise e).onRaise (cameBack X.env)).wrap K Jx gd lv) none (gd false) (lv []) c p [] :: fs) s' := fun n s₀ x s' hx => by
        refine seg_wrap ?_
        rw [(gl _).over]
        refine wpAny_bind (wpAny_mono (hp x s' hx) (fun _ s'' hcb => wpAny_theTreesLotGoes ?_) fun y s'' hcb => ?_)
        · exact seg_leaf (.error x) (seg_cameBack gc k hcb)
        · exact seg_leaf (.error y) (seg_cameBack gc k hcb)
      refine seg_forLoop ?_
      rw [(gl _).over]
      obtain ⟨acc, cc, r, I⟩ := hI
      rcases turn i m ys σ H w with ⟨stop, qn⟩ | ⟨go, N, hN, step⟩
      · refine wpAny_mono (T.done X rfl rfl rfl hc i _ s σ H X.xe I (stat fr) st stop) (fun r1 s4 h4 => ?_) fun x s' hx => ee n s₀ x s' hx
        obtain ⟨hr, I4⟩ := h4
        subst hr
        exact seg_leaf (.ok .next) (k.ok n ys s₀ s4 .next hn ⟨σ, H, ⟨acc, cc, r, I4⟩, qn⟩)
      · refine wpAny_mono (T.item X rfl rfl rfl hc i _ s σ H X.xe I (stat fr) st go) (fun r1 s4 h4 => ?_) fun x s' hx => ee n s₀ x s' hx
        obtain ⟨u, hr, h4⟩ := h4
        subst hr
        refine wpAny_mono h4 (fun _ s5 h5 => ?_) fun x s' hx => ee n s₀ x s' hx
        obtain ⟨x, H5, I5, r5, y5, st5, fr5⟩ := h5
        have I5' := I5.pinned (stat fr5) (T.obj _ _ st5)
        refine wpAny_mono (hg.run _ s5 σ H5 x u _ I5' r5 (step x H5 y5)) (fun _ s6 h6 => ?_) fun x s' hx => ee n s₀ x s' hx
        obtain ⟨σ6, H6, I6, q6⟩ := h6
        have gl2 : GC X S (ip ++ pinsAt fp s5.heap) A (.forLoop tg (.ref it) body [] X.env) (.ret (fun r => ((match r with | .ok f => (.pure f : Sem Flow) | .error e => .raise e).onRaise (cameBack X.env)).wrap K Jx gd lv) none (gd false) (lv []) c p [] :: fs) id := by
          have q := gl (fun r => ((match r with | .ok f => (.pure f : Sem Flow) | .error e => .raise e).onRaise (cameBack X.env)).wrap K Jx gd lv)
          refine ⟨q.pn, fun p hp' => ?_, q.apart, q.over, q.split, q.guard, q.gd⟩
          rcases List.mem_append.mp hp' with z | z
          · exact q.ip p z
          · exact (hSfp p.1 (of_pinsAt z).1).symm
        have again : ∀ {n' : Nat} {ys' : List V} {s₀' s3 : Shared}, n' + ys'.length = sizeLine → (∃ σ3 H3, GI X S (ip ++ pinsAt fp s5.heap) ys' σ3 H3 s3 ∧ N ys' σ3 H3) → Seg (model X.prog X.w) A R (GY X S) n' s₀' (.forLoop tg (.ref it) body [] X.env) (.pure (.again (.forLoop tg (.ref it) body [] X.env))) (.ret (fun r => ((match r with | .ok f => (.pure f : Sem Flow) | .error e => .raise e).onRaise (cameBack X.env)).wrap K Jx gd lv) none (gd false) (lv []) c p [] :: fs) s3 := fun {n' ys' s₀' s3} hn' h => by
          obtain ⟨σ3, H3, I3, n3⟩ := h
          obtain ⟨m', hm, w3⟩ := hN ys' σ3 H3 n3
          obtain ⟨acc3, cc3, r3, J3⟩ := id I3
          have pin3 : ∀ b o, (b, o) ∈ pinsAt fp s5.heap → s3.heap.get? b = some o ∧ H3 b = none := fun b o hb => by
            have q := J3.pin (b, o) (List.mem_append_right _ (List.mem_cons_of_mem _ (List.mem_append_right _ hb)))
            exact ⟨q.1, q.2.1⟩
          refine seg_again rfl (ih m' hm (i + 1) n' ys' s₀' s3 σ3 H3 hn' w3 (GI.less I3) (T.keep _ _ _ st5 fun b hb o e => (pin3 b o (mem_pinsAt hb e)).1) fun b hb => ?_)
          obtain ⟨o, e, _⟩ := T.obj _ _ st5 b hb
          exact (pin3 b o (mem_pinsAt hb e)).2
        refine hb.run A S (ip ++ pinsAt fp s5.heap) R n ys s₀ _ _ _ _ id id s6 σ6 H6 { D with nx := N, ct := N, bk := D.nx } gl2 hn ⟨fun n' ys' s₀' s3 f hn' hs => ?_, fun n' s₀' x s3 hx => ee n' s₀' x s3 hx⟩ ⟨acc, cc, r, I6⟩ q6
        cases f with
        | next => exact again hn' hs
        | cont => exact again hn' hs
        | brk =>
          obtain ⟨σ3, H3, I3, q3⟩ := hs
          exact seg_leaf (.ok .next) (k.ok n' ys' s₀' s3 .next hn' ⟨σ3, H3, GI.less I3, q3⟩)
        | ret v =>
          obtain ⟨x3, σ3, H3, I3, r3, q3⟩ := hs
          exact seg_leaf (.ok (.ret v)) (k.ok n' ys' s₀' s3 (.ret v) hn' ⟨x3, σ3, H3, GI.less I3, r3, q3⟩)
  exact loop m0 0 n ys s₀ s2 σ H2 hn w0 ⟨acc0, cc0, r0, I2⟩ st2 (fun b hb => (f2 b hb).1)
end
end Rk
namespace Rk
open PySem PySem.Spec PyProof.Rows L2 GenW

/-! ### range with a great step -/
def RgW (i j c : Int) (n : Nat) : Prop := 0 < c ∧ c.natAbs < 2 ^ 4000 ∧ Builtin.Range.small i j c = true ∧ Builtin.Range.rangeSize i j c = n
def iRng3W (ta : TA) : TI := fun σ H R => ta σ H fun vs H1 => ∃ (i j c : Int) (n : Nat), vs = [.int i, .int j, .int c] ∧ RgW i j c n ∧ R (Itc i c n) H1
section
variable {X : Cx} {tg : Expr}
theorem pi_range3W {a b c : Expr} {ta : TA} {p pos : Pos} (hg : Gl X "range") (hm : X.mg "range" = none) (ha : PA X [a, b, c] ta)
    (hs : starEach [a, b, c] X.env = (false, eval a X.env) :: starEach [b, c] X.env := by rfl) (hpl : (backTo pos (starEach [b, c] X.env)).any (·.1) = false := by rfl) :
    PI X tg (.Call (.Name "range" p) [a, b, c] [] pos) (iRng3W ta) := by
  refine ⟨fun pins s σ H R I h => ?_⟩
  refine Call_ (ld_blt I hg hm boot_range (PyProof.Rows.callWith_type1 (thn (ha.run pos pins s σ H _ I h) fun us s1 ⟨vs, H1, I1, r1, q1⟩ => ?_) hs hpl))
  obtain ⟨i, j, k, n, e, ⟨c0, c1, c2, c3⟩, q⟩ := q1
  subst e
  cases r1 with
  | cons r rr =>
    cases rr with
    | cons r' rr =>
      cases rr with
      | cons r'' rr =>
        cases rr
        obtain ⟨t, rfl⟩ := r
        obtain ⟨t', rfl⟩ := r'
        obtain ⟨t'', rfl⟩ := r''
        refine call_range_3 (by omega) ?_ (.inl (PyProof.noPylong_of_log2 (Nat.lt_of_lt_of_le (PySem.Flt.log2_lt_of (k := 4000) (by decide) c1) (by decide))))
        refine wpAny_pyIter_range (IsRange.new ..) c2 ?_
        have I2 : Inv X pins σ H1 { s1 with heap := s1.heap.push { cls := .type "range", data := .fields #[.int i t, .int j t', .int k t''] } } := I1.kept (t' := s1.toks) fun b o e => Heap.get?_push_of_some _ e
        refine pi_one (tk := s1.toks) I2 _ (turn_rangeC _ i k n) ?_ q
        have e1 : i + ((0 : Nat) : Int) * k = i := by simp
        have e2 : (n : Int) - ((0 : Nat) : Int) = Builtin.Range.rangeSize i j k := by rw [c3]; simp
        show IsRangeIter _ _ (i + ((0 : Nat) : Int) * k) ((n : Int) - ((0 : Nat) : Int)) k
        rw [e1, e2]
        exact Heap.get?_push_size _ rfl
end
/-- how many turns -/
def stepsN (i j c : Int) : Nat := if i < j then ((j - i - 1) / c + 1).toNat else 0
theorem div_le_self {a c : Int} (h : 0 ≤ a) (hc : 0 < c) : 0 ≤ a / c ∧ a / c ≤ a := ⟨Int.ediv_nonneg h (by omega), by
  have := Int.ediv_le_self c h
  exact this⟩
theorem rgW_up {i j c : Int} (hc : 0 < c) (hc' : c ≤ 2 ^ 61) (hi : 0 ≤ i) (hi' : i < 2 ^ 62) (hj : 0 ≤ j) (hj' : j < 2 ^ 62) : RgW i j c (stepsN i j c) := by
  have sz : Builtin.Range.rangeSize i j c = ((stepsN i j c : Nat) : Int) ∧ 0 ≤ Builtin.Range.rangeSize i j c ∧ Builtin.Range.rangeSize i j c ≤ 2 ^ 62 := by
    unfold Builtin.Range.rangeSize stepsN
    rw [if_pos (show c > 0 by omega)]
    by_cases h : i < j
    · rw [if_pos h, if_pos h]
      obtain ⟨q1, q2⟩ := div_le_self (a := j - i - 1) (c := c) (by omega) hc
      refine ⟨by omega, by omega, by omega⟩
    · rw [if_neg h, if_neg h]
      exact ⟨rfl, Int.le_refl _, by decide⟩
  refine ⟨hc, Nat.lt_of_le_of_lt (show c.natAbs ≤ 2 ^ 61 by omega) (Nat.pow_lt_pow_right (by decide) (by decide)), ?_, sz.1⟩
  obtain ⟨s1, s2, s3⟩ := sz
  unfold Builtin.Range.small
  generalize Builtin.Range.rangeSize i j c = z at *
  simp only [Builtin.Range.rangeFitsLong, Bool.and_eq_true, Bool.or_eq_true, decide_eq_true_eq, beq_iff_eq, show c > 0 from hc, if_true]
  omega

/-! ### for loops of a generator, over a list and over a range -/
theorem gfor_list {K : PySem.W.Frag} {a : Addr} {xs : List V} {g : TG} {tb : TGn} {D : GEnds} {ys : List V} {σ : L2.St} {H : Hp} (Pv : Nat → List V → L2.St → Hp → Prop) (h0 : Pv 0 ys σ H) (hl : ∀ i ys σ H, i ≤ xs.length → Pv i ys σ H → SqL K H a xs)
    (hs : ∀ i x ys σ H, xs[i]? = some x → Pv i ys σ H → g x σ H fun σ2 H2 => tb { D with nx := Pv (i + 1), ct := Pv (i + 1), bk := D.nx } ys σ2 H2) (hd : ∀ ys σ H, Pv xs.length ys σ H → D.nx ys σ H) :
    ∃ W : Nat → Nat → List V → L2.St → Hp → Prop, (∃ m, W 0 m ys σ H) ∧ ∀ i m ys σ H, W i m ys σ H →
      ((Itl K a).stop i H ∧ D.nx ys σ H) ∨ ((Itl K a).go i H ∧ ∃ N : List V → L2.St → Hp → Prop, (∀ ys' σ' H', N ys' σ' H' → ∃ m', m' < m ∧ W (i + 1) m' ys' σ' H') ∧ ∀ x H', (Itl K a).yld i H x H' → g x σ H' fun σ2 H2 => tb { D with nx := N, ct := N, bk := D.nx } ys σ2 H2) := by
  refine ⟨fun i m ys σ H => m = xs.length - i ∧ i ≤ xs.length ∧ Pv i ys σ H, ⟨xs.length, by simp, Nat.zero_le _, h0⟩, ?_⟩
  rintro i m ys σ H ⟨rfl, hi, p⟩
  have q := hl i ys σ H hi p
  by_cases hlt : i < xs.length
  · refine .inr ⟨⟨xs, xs[i], q, by simp [hlt]⟩, Pv (i + 1), fun ys' σ' H' p' => ⟨xs.length - (i + 1), by omega, rfl, hlt, p'⟩, fun x H' y => ?_⟩
    obtain ⟨e, y⟩ := y
    subst e
    exact hs i x ys σ _ (y xs q) p
  · have e : i = xs.length := by omega
    subst e
    exact .inl ⟨⟨xs, q, Nat.le_refl _⟩, hd ys σ H p⟩
theorem gfor_rangeC {lo c : Int} {n : Nat} {g : TG} {tb : TGn} {D : GEnds} {ys : List V} {σ : L2.St} {H : Hp} (Pv : Nat → List V → L2.St → Hp → Prop) (h0 : Pv 0 ys σ H)
    (hs : ∀ i ys σ H, i < n → Pv i ys σ H → g (.int (lo + (i : Nat) * c)) σ H fun σ2 H2 => tb { D with nx := Pv (i + 1), ct := Pv (i + 1), bk := D.nx } ys σ2 H2) (hd : ∀ ys σ H, Pv n ys σ H → D.nx ys σ H) :
    ∃ W : Nat → Nat → List V → L2.St → Hp → Prop, (∃ m, W 0 m ys σ H) ∧ ∀ i m ys σ H, W i m ys σ H →
      ((Itc lo c n).stop i H ∧ D.nx ys σ H) ∨ ((Itc lo c n).go i H ∧ ∃ N : List V → L2.St → Hp → Prop, (∀ ys' σ' H', N ys' σ' H' → ∃ m', m' < m ∧ W (i + 1) m' ys' σ' H') ∧ ∀ x H', (Itc lo c n).yld i H x H' → g x σ H' fun σ2 H2 => tb { D with nx := N, ct := N, bk := D.nx } ys σ2 H2) := by
  refine ⟨fun i m ys σ H => m = n - i ∧ i ≤ n ∧ Pv i ys σ H, ⟨n, by simp, Nat.zero_le _, h0⟩, ?_⟩
  rintro i m ys σ H ⟨rfl, hi, p⟩
  by_cases hlt : i < n
  · refine .inr ⟨hlt, Pv (i + 1), fun ys' σ' H' p' => ⟨n - (i + 1), by omega, rfl, hlt, p'⟩, fun x H' y => ?_⟩
    obtain ⟨e, y⟩ := y
    subst e y
    exact hs i ys σ _ hlt p
  · have e : i = n := by omega
    subst e
    exact .inl ⟨Nat.le_refl _, hd ys σ H p⟩
end Rk
namespace Rk
open PySem PySem.Spec PyProof.Rows L2 GenW

/-! ### the points of a band, ascending -/
def lo2 (lo s : Int) : Int := lo + (-lo) % s
def bandPts (b : Int × Int × Int) : List Int := (List.range (stepsN (lo2 b.1 b.2.2) (b.2.1 + 1) b.2.2)).map fun (k : Nat) => lo2 b.1 b.2.2 + (k : Int) * b.2.2
theorem lo2_spec {lo s : Int} (hs : 0 < s) : lo ≤ lo2 lo s ∧ lo2 lo s % s = 0 ∧ lo2 lo s < lo + s := by
  unfold lo2
  have h0 := Int.emod_nonneg (-lo) (show s ≠ 0 by omega)
  have h1 := Int.emod_lt_of_pos (-lo) hs
  refine ⟨by omega, ?_, by omega⟩
  have e : lo + (-lo) % s = -(s * ((-lo) / s)) := by
    have := Int.emod_add_mul_ediv (-lo) s
    omega
  rw [e]
  exact Int.emod_eq_zero_of_dvd ⟨-((-lo) / s), by rw [Int.mul_neg]⟩
theorem stepsN_mem {i j c x : Int} (hc : 0 < c) : (∃ k : Nat, k < stepsN i j c ∧ x = i + (k : Int) * c) ↔ (i ≤ x ∧ x < j ∧ (x - i) % c = 0) := by
  unfold stepsN
  constructor
  · rintro ⟨k, hk, rfl⟩
    by_cases h : i < j
    · rw [if_pos h] at hk
      have q0 : 0 ≤ (j - i - 1) / c := Int.ediv_nonneg (by omega) (by omega)
      have hk2 : (k : Int) ≤ (j - i - 1) / c := by omega
      have m := Int.mul_le_mul_of_nonneg_right hk2 (show 0 ≤ c by omega)
      have d := Int.ediv_mul_le (j - i - 1) (show c ≠ 0 by omega)
      have n0 : 0 ≤ (k : Int) * c := Int.mul_nonneg (by omega) (by omega)
      refine ⟨by omega, by omega, ?_⟩
      rw [show i + (k : Int) * c - i = (k : Int) * c by omega]
      exact Int.mul_emod_left _ _
    · rw [if_neg h] at hk
      omega
  · rintro ⟨h1, h2, h3⟩
    obtain ⟨q, hq⟩ := Int.dvd_of_emod_eq_zero h3
    have hq0 : 0 ≤ q := by
      rcases Int.lt_or_le q 0 with z | z
      · have := Int.mul_neg_of_pos_of_neg hc z
        omega
      · exact z
    refine ⟨q.toNat, ?_, ?_⟩
    · rw [if_pos (by omega)]
      have d : q ≤ (j - i - 1) / c := by
        rw [Int.le_ediv_iff_mul_le hc, Int.mul_comm]
        omega
      omega
    · rw [show ((q.toNat : Nat) : Int) = q by omega, Int.mul_comm]
      omega
theorem bandPts_mem {b : Int × Int × Int} (hs : 0 < b.2.2) {x : Int} : x ∈ bandPts b ↔ b.1 ≤ x ∧ x ≤ b.2.1 ∧ x % b.2.2 = 0 := by
  obtain ⟨h1, h2, h3⟩ := lo2_spec (lo := b.1) hs
  unfold bandPts
  rw [List.mem_map]
  have key := stepsN_mem (i := lo2 b.1 b.2.2) (j := b.2.1 + 1) (x := x) hs
  have dv : (x - lo2 b.1 b.2.2) % b.2.2 = x % b.2.2 := by
    rw [Int.sub_emod, h2, Int.sub_zero, Int.emod_emod]
  constructor
  · rintro ⟨k, hk, e⟩
    obtain ⟨q1, q2, q3⟩ := key.mp ⟨k, List.mem_range.mp hk, e.symm⟩
    rw [dv] at q3
    exact ⟨by omega, by omega, q3⟩
  · rintro ⟨q1, q2, q3⟩
    have q4 : lo2 b.1 b.2.2 ≤ x := by
      rcases Int.lt_or_le x (lo2 b.1 b.2.2) with z | z
      · exfalso
        rw [← dv] at q3
        obtain ⟨q, hq⟩ := Int.dvd_of_emod_eq_zero q3
        have : q < 0 := by
          rcases Int.lt_or_le q 0 with y | y
          · exact y
          · have := Int.mul_nonneg (show 0 ≤ b.2.2 by omega) y
            omega
        have m : b.2.2 * q ≤ b.2.2 * (-1) := Int.mul_le_mul_of_nonneg_left (by omega) (by omega)
        omega
      · exact z
    obtain ⟨k, hk, e⟩ := key.mpr ⟨q4, by omega, by rw [dv]; exact q3⟩
    exact ⟨k, List.mem_range.mpr hk, e.symm⟩
/-- strictly ascending -/
def Up (xs : List Int) : Prop := xs.Pairwise (· < ·)
theorem bandPts_up {b : Int × Int × Int} (hs : 0 < b.2.2) : Up (bandPts b) := by
  unfold Up bandPts
  rw [List.pairwise_map]
  refine List.Pairwise.imp ?_ (List.pairwise_lt_range (n := _))
  intro i j h
  have : (i : Int) * b.2.2 < (j : Int) * b.2.2 := Int.mul_lt_mul_of_pos_right (by omega) hs
  omega
theorem up_ext : ∀ {xs ys : List Int}, Up xs → Up ys → (∀ x, x ∈ xs ↔ x ∈ ys) → xs = ys
  | [], [], _, _, _ => rfl
  | [], y :: ys, _, _, h => absurd ((h y).mpr (List.mem_cons_self ..)) (List.not_mem_nil)
  | x :: xs, [], _, _, h => absurd ((h x).mp (List.mem_cons_self ..)) (List.not_mem_nil)
  | x :: xs, y :: ys, hx, hy, h => by
    have px := List.pairwise_cons.mp hx
    have py := List.pairwise_cons.mp hy
    have e : x = y := by
      have a := (h x).mp (List.mem_cons_self ..)
      have b := (h y).mpr (List.mem_cons_self ..)
      rcases List.mem_cons.mp a with z | z
      · exact z
      · rcases List.mem_cons.mp b with w | w
        · exact w.symm
        · have := py.1 x z
          have := px.1 y w
          omega
    subst e
    congr 1
    refine up_ext px.2 py.2 fun z => ⟨fun hz => ?_, fun hz => ?_⟩
    · rcases List.mem_cons.mp ((h z).mp (List.mem_cons_of_mem _ hz)) with w | w
      · have := px.1 z hz
        omega
      · exact w
    · rcases List.mem_cons.mp ((h z).mpr (List.mem_cons_of_mem _ hz)) with w | w
      · have := py.1 z hz
        omega
      · exact w
def genL (bs : List (Int × Int × Int)) : List Int := bs.reverse.flatMap bandPts
theorem genL_cons (b : Int × Int × Int) (bs : List (Int × Int × Int)) : genL (b :: bs) = genL bs ++ bandPts b := by
  unfold genL
  rw [List.reverse_cons, List.flatMap_append, List.flatMap_cons, List.flatMap_nil, List.append_nil]
theorem genL_mem {t : Int} : ∀ (ls : List (Option Int)) (i : Nat) (hi x : Int), x ∈ genL (bandsOf t i hi ls) ↔ inB t i hi ls x
  | [], _, _, x => by
    unfold genL bandsOf inB
    simp
  | l :: r, i, hi, x => by
    show x ∈ genL ((bandLo t l, hi, 2 ^ i) :: bandsOf t (i + 1) (bandLo t l - 1) r) ↔ (bandLo t l ≤ x ∧ x ≤ hi ∧ x % 2 ^ i = 0) ∨ inB t (i + 1) (bandLo t l - 1) r x
    rw [genL_cons, List.mem_append, genL_mem r (i + 1) (bandLo t l - 1) x, bandPts_mem (b := (bandLo t l, hi, 2 ^ i)) (Int.pow_pos (by decide))]
    exact or_comm
theorem genL_up {t : Int} (ht : 0 ≤ t) : ∀ (ls : List (Option Int)) (i : Nat) (hi : Int), (∀ l, ls.head? = some l → bandLo t l ≤ hi + 1) → (∀ (i : Nat) (x y : Option Int), ls[i]? = some x → ls[i + 1]? = some y → leO x y = true) → Up (genL (bandsOf t i hi ls))
  | [], _, _, _, _ => by unfold genL bandsOf; exact List.Pairwise.nil
  | l :: r, i, hi, h0, ha => by
    show Up (genL ((bandLo t l, hi, 2 ^ i) :: bandsOf t (i + 1) (bandLo t l - 1) r))
    rw [genL_cons]
    have h1 : ∀ m, r.head? = some m → bandLo t m ≤ bandLo t l - 1 + 1 := fun m hm => by
      have q := ha 0 l m rfl (by
        cases r with
        | nil => cases hm
        | cons a r => exact hm)
      have := bandLo_mono ht q
      omega
    have h2 : ∀ (i : Nat) (x y : Option Int), r[i]? = some x → r[i + 1]? = some y → leO x y = true := fun i x y hx hy => ha (i + 1) x y hx hy
    refine List.pairwise_append.mpr ⟨genL_up ht r (i + 1) _ h1 h2, bandPts_up (b := (bandLo t l, hi, 2 ^ i)) (Int.pow_pos (by decide)), fun x hx y hy => ?_⟩
    have q1 := inB_le ht r (i + 1) _ x h1 h2 ((genL_mem r (i + 1) _ x).mp hx)
    have q2 := (bandPts_mem (b := (bandLo t l, hi, 2 ^ i)) (Int.pow_pos (by decide))).mp hy
    have q3 : bandLo t l ≤ y := q2.1
    omega
theorem up_keptL (ls : List (Option Int)) (t : Nat) : Up ((keptL ls t).map fun n => ((n : Nat) : Int)) := by
  unfold Up keptL
  rw [List.pairwise_map]
  refine List.Pairwise.imp ?_ (List.Pairwise.filter _ (List.pairwise_lt_range (n := t + 1)))
  intro a b h
  omega
theorem keptL_mem {ls : List (Option Int)} {t n : Nat} : n ∈ keptL ls t ↔ n ≤ t ∧ keptB ls t ((n : Nat) : Int) = true := by
  unfold keptL
  rw [List.mem_filter, List.mem_range]
  constructor
  · rintro ⟨a, b⟩; exact ⟨by omega, b⟩
  · rintro ⟨a, b⟩; exact ⟨by omega, b⟩
/-- what the walk hands out is what is kept -/
theorem genL_kept {ls : List (Option Int)} (g : Good ls) (t : Nat) : genL (bandsOf (t : Int) 0 (t : Int) ls) = (keptL ls t).map fun n => ((n : Nat) : Int) := by
  have ht : (0 : Int) ≤ (t : Int) := Int.natCast_nonneg t
  have h0 : ∀ l, ls.head? = some l → bandLo (t : Int) l ≤ (t : Int) + 1 := fun l hl => (bandLo_le ht (fun v e => (g.bd l (List.mem_of_mem_head? hl) v e).1)).2
  refine up_ext (genL_up ht ls 0 _ h0 g.asc) (up_keptL ls t) fun x => ?_
  rw [genL_mem, List.mem_map]
  constructor
  · intro h
    have h1 := inB_le ht ls 0 _ x h0 g.asc h
    have h2 := inB_nonneg ht ls 0 _ x (fun l hl v e => (g.bd l hl v e).1) h
    obtain ⟨n, rfl⟩ := Int.eq_ofNat_of_zero_le h2
    exact ⟨n, keptL_mem.mpr ⟨by omega, (keptB_iff h2).mpr ((inB_iff g ht h2 h1).mp h)⟩, rfl⟩
  · rintro ⟨n, hn, rfl⟩
    obtain ⟨q1, q2⟩ := keptL_mem.mp hn
    exact (inB_iff g ht (Int.natCast_nonneg n) (by omega)).mpr ((keptB_iff (Int.natCast_nonneg n)).mp q2)
theorem keptL_len (ls : List (Option Int)) (t : Nat) : (keptL ls t).length ≤ t + 1 := by
  unfold keptL
  refine Nat.le_trans (List.length_filter_le _ _) ?_
  rw [List.length_range]
  exact Nat.le_refl _
theorem keptB_short {ls : List (Option Int)} (h0 : 0 < ls.length) (t n : Int) : keptB (short ls) t n = keptB ls t n := by
  unfold keptB
  rw [lifeAt_short h0]
theorem keptL_short {ls : List (Option Int)} (h0 : 0 < ls.length) (t : Nat) : keptL (short ls) t = keptL ls t := by
  unfold keptL
  congr 1
  funext n
  exact keptB_short h0 _ _
theorem keptL_ext {ls ms : List (Option Int)} (h : ∀ i, lifeAt ls i = lifeAt ms i) (t : Nat) : keptL ls t = keptL ms t := by
  unfold keptL keptB
  congr 1
  funext n
  rw [h]

/-! ### reckoned lives are lives again, where they are small enough -/
theorem good_reckoned {ls : List (Option Int)} (h0 : 0 < ls.length) (h1 : ls.length ≤ 61) (up : ∀ i j, i ≤ j → leO (lifeAt ls i) (lifeAt ls j) = true) (bd : ∀ i v, lifeAt ls i = some v → 0 ≤ v ∧ v ≤ 10 ^ 18) : Good (short ls) := by
  have s0 := short_len_pos h0
  have s1 := short_len_le ls
  have idem : short (short ls) = short ls := short_ext s0 h0 (fun i => lifeAt_short h0 i)
  have at_ : ∀ i x, (short ls)[i]? = some x → lifeAt ls i = x := fun i x e => by rw [← lifeAt_short h0 i, lifeAt_lt e]
  generalize hm : short ls = ms at *
  have none_last : ∀ i, i + 1 < ms.length → ms[i]? ≠ some none := fun i hi e => by
    obtain ⟨j, hj⟩ : ∃ j, ms.length = j + 2 := ⟨ms.length - 2, by omega⟩
    have z : ∀ k, i ≤ k → lifeAt ls k = none := fun k hk => by
      have q := up i k hk
      rw [at_ i none e] at q
      cases r : lifeAt ls k with
      | none => rfl
      | some v => rw [r] at q; cases q
    have e1 : ms[j + 1]? = some none := by
      have q := List.getElem?_eq_getElem (show j + 1 < ms.length by omega)
      rw [q, ← z (j + 1) (by omega), at_ (j + 1) _ q]
    have e0 : ms[j]? = some none := by
      have q := List.getElem?_eq_getElem (show j < ms.length by omega)
      rw [q, ← z j (by omega), at_ j _ q]
    have c : cutN ms ms.length = ms.length := by
      have q : (short ms).length = ms.length := by rw [idem]
      unfold short at q
      rw [List.length_take] at q
      have := cutN_le ms ms.length
      omega
    rw [hj, cutN_eq (by rw [e1, e0])] at c
    have := cutN_le ms (j + 1)
    omega
  obtain ⟨ini, l, rfl⟩ : ∃ ini l, ms = ini ++ [l] := ⟨ms.dropLast, ms.getLast (by intro z; rw [z] at s0; simp at s0), (List.dropLast_concat_getLast _).symm⟩
  have some_ini : ∀ x ∈ ini, ∃ v, x = some v := fun x hx => by
    obtain ⟨i, hi⟩ := List.mem_iff_getElem?.mp hx
    have hil := (List.getElem?_eq_some_iff.mp hi).1
    cases x with
    | some v => exact ⟨v, rfl⟩
    | none => exact absurd (by rw [List.getElem?_append_left hil, hi]) (none_last i (by rw [List.length_append]; show i + 1 < ini.length + 1; omega))
  obtain ⟨is, rfl⟩ : ∃ is : List Int, ini = is.map some := by
    refine ⟨ini.map fun x => x.getD 0, ?_⟩
    rw [List.map_map]
    have : ini.map _root_.id = ini := List.map_id ini
    conv => lhs; rw [← this]
    refine List.map_congr_left fun x hx => ?_
    obtain ⟨v, rfl⟩ := some_ini x hx
    rfl
  refine ⟨s0, Nat.le_trans s1 h1, ⟨is, l, rfl, fun v hv => ?_, fun v hv => ?_⟩, fun i x y hx hy => ?_⟩
  · obtain ⟨i, hi⟩ := List.mem_iff_getElem?.mp hv
    have hil := (List.getElem?_eq_some_iff.mp hi).1
    exact bd i v (at_ i (some v) (by rw [List.getElem?_append_left (by rw [List.length_map]; exact hil), List.getElem?_map, hi]; rfl))
  · exact bd is.length v (at_ is.length (some v) (by rw [List.getElem?_append_right (by rw [List.length_map]; exact Nat.le_refl _), List.length_map, Nat.sub_self, hv]; rfl))
  · rw [← at_ i x hx, ← at_ (i + 1) y hy]
    exact up i (i + 1) (by omega)
end Rk
namespace Rk
open PySem PySem.Spec PyProof.Rows L2 GenW
theorem TAt.rev {H : Hp} : ∀ {xs : List V} {ps : List (List V)}, TAt H xs ps → TAt H xs.reverse ps.reverse
  | [], [], _ => trivial
  | x :: xs, p :: ps, ⟨⟨t, e, h⟩, r⟩ => by
    rw [List.reverse_cons, List.reverse_cons, e]
    exact TAt.snoc h (TAt.rev r)
  | [], _ :: _, h => h.elim
  | _ :: _, [], h => h.elim
/-- what is out amid a band -/
def outL (bs : List (Int × Int × Int)) (i : Nat) : List Int := (bs.reverse.take i).flatMap bandPts
theorem outL_succ {bs : List (Int × Int × Int)} {i : Nat} {b : Int × Int × Int} (h : bs.reverse[i]? = some b) : outL bs (i + 1) = outL bs i ++ bandPts b := by
  unfold outL
  rw [List.take_add_one, h, List.flatMap_append]
  show _ ++ List.flatMap bandPts [b] = _
  rw [List.flatMap_cons, List.flatMap_nil, List.append_nil]
theorem outL_all (bs : List (Int × Int × Int)) : outL bs bs.length = genL bs := by
  unfold outL genL
  rw [← List.length_reverse, List.take_length]
theorem outL_mono (bs : List (Int × Int × Int)) {i j : Nat} (h : i ≤ j) : (outL bs i).length ≤ (outL bs j).length := by
  unfold outL
  have e : bs.reverse.take i = (bs.reverse.take j).take i := by rw [List.take_take, show min i j = i by omega]
  rw [e]
  conv => rhs; rw [← List.take_append_drop i (bs.reverse.take j)]
  rw [List.flatMap_append, List.length_append]
  omega
theorem out_len {bs : List (Int × Int × Int)} {i k : Nat} {b : Int × Int × Int} (h : bs.reverse[i]? = some b) (hk : k < (bandPts b).length) : (outL bs i ++ (bandPts b).take k).length < (genL bs).length := by
  have h1 := outL_mono bs (show i + 1 ≤ bs.length by
    have := (List.getElem?_eq_some_iff.mp h).1
    rw [List.length_reverse] at this
    omega)
  rw [outL_all, outL_succ h, List.length_append] at h1
  rw [List.length_append, List.length_take]
  omega
theorem bandPts_len (b : Int × Int × Int) : (bandPts b).length = stepsN (lo2 b.1 b.2.2) (b.2.1 + 1) b.2.2 := by
  unfold bandPts
  rw [List.length_map, List.length_range]
theorem bandPts_take (b : Int × Int × Int) {k : Nat} (hk : k < stepsN (lo2 b.1 b.2.2) (b.2.1 + 1) b.2.2) : (bandPts b).take (k + 1) = (bandPts b).take k ++ [lo2 b.1 b.2.2 + (k : Int) * b.2.2] := by
  rw [List.take_add_one]
  congr 1
  unfold bandPts
  rw [List.getElem?_map, List.getElem?_range hk]
  rfl
end Rk
namespace Rk
open PySem PySem.Spec PyProof.Rows L2 GenW

/-! ### reckoned rules and their points -/
structure RL (B : Int) (ls : List (Option Int)) : Prop where
  pos : 0 < ls.length
  most : ls.length ≤ 61
  up : ∀ i j, i ≤ j → leO (lifeAt ls i) (lifeAt ls j) = true
  bd : ∀ i v, lifeAt ls i = some v → 0 ≤ v ∧ v ≤ B
theorem Good.rl {ls : List (Option Int)} (g : Good ls) {B : Int} (h : ∀ x ∈ ls, ∀ v, x = some v → v ≤ B) : RL B ls :=
  ⟨g.pos, g.most, fun i j h => lifeAt_le g h, fun i v e => ⟨(g.at i v e).1, h _ (lifeAt_mem g.pos i) v e⟩⟩
theorem RL.mono {B B' : Int} {ls : List (Option Int)} (r : RL B ls) (h : B ≤ B') : RL B' ls := ⟨r.pos, r.most, r.up, fun i v e => ⟨(r.bd i v e).1, Int.le_trans (r.bd i v e).2 h⟩⟩
theorem RL.short {B : Int} {ls : List (Option Int)} (r : RL B ls) : RL B (short ls) := by
  refine ⟨short_len_pos r.pos, Nat.le_trans (short_len_le ls) r.most, fun i j h => ?_, fun i v e => ?_⟩
  · rw [lifeAt_short r.pos, lifeAt_short r.pos]
    exact r.up i j h
  · rw [lifeAt_short r.pos] at e
    exact r.bd i v e
theorem RL.good {B : Int} {ls : List (Option Int)} (r : RL B ls) (h : B ≤ 10 ^ 18) : Good (Rk.short ls) := good_reckoned r.pos r.most r.up fun i v e => ⟨(r.bd i v e).1, Int.le_trans (r.bd i v e).2 h⟩
theorem leO_minO (x g h : Option Int) : leO x (minO g h) = (leO x g && leO x h) := by
  unfold minO
  by_cases c : leO g h = true
  · rw [if_pos c]
    cases e : leO x g with
    | false => rfl
    | true => rw [leO_trans e c]; rfl
  · rw [if_neg c]
    have c2 := leO_not c
    cases e : leO x h with
    | false => rw [Bool.and_false]
    | true => rw [leO_trans e c2]; rfl
theorem leO_minO2 {g h g' h' : Option Int} (a : leO g g' = true) (b : leO h h' = true) : leO (minO g h) (minO g' h') = true := by
  rw [leO_minO, leO_trans minO_le a, leO_trans minO_le2 b]
  rfl
theorem leO_addO {u : Int} {x y : Option Int} (h : leO x y = true) : leO (addO u x) (addO u y) = true := by
  cases x with
  | none =>
    cases y with
    | none => rfl
    | some b => cases h
  | some a =>
    cases y with
    | none => rfl
    | some b =>
      have := of_decide_eq_true h
      exact decide_eq_true (by omega : a + u ≤ b + u)
theorem minO_some {g h : Option Int} {v : Int} (e : minO g h = some v) : g = some v ∨ h = some v := by
  unfold minO at e
  by_cases c : leO g h = true
  · rw [if_pos c] at e; exact .inl e
  · rw [if_neg c] at e; exact .inr e
theorem RL.chg {B : Int} {ls ms : List (Option Int)} (a : RL B ls) (b : RL B ms) {u : Int} (hu : 0 ≤ u) : RL (B + u) (chgL ls ms u) := by
  refine ⟨by rw [chgL_len]; have := a.pos; omega, by rw [chgL_len]; have := a.most; have := b.most; omega, fun i j h => ?_, fun i v e => ?_⟩
  · rw [lifeAt_chg a.pos b.pos, lifeAt_chg a.pos b.pos]
    exact leO_minO2 (b.up i j h) (leO_addO (a.up i j h))
  · rw [lifeAt_chg a.pos b.pos] at e
    rcases minO_some e with z | z
    · have := b.bd i v z
      omega
    · cases f : lifeAt ls i with
      | none => rw [f] at z; cases z
      | some w =>
        rw [f] at z
        have e2 : w + u = v := Option.some.inj z
        have := a.bd i w f
        omega
theorem keptB_chg0 {ls ms : List (Option Int)} (h0 : 0 < ls.length) (h1 : 0 < ms.length) (t n : Int) : keptB (chgL ls ms 0) t n = (keptB ms t n && keptB ls t n) := by
  unfold keptB
  rw [lifeAt_chg h0 h1, addO_0, leO_minO]
  cases decide (n ≤ t) <;> cases leO (some (t - n + 1)) (lifeAt ms (rkI n)) <;> rfl
theorem leO_shift {a u : Int} {x : Option Int} : leO (some a) (addO (u + 1) x) = leO (some (a - 1)) (addO u x) := by
  cases x with
  | none => rfl
  | some b =>
    show decide (a ≤ b + (u + 1)) = decide (a - 1 ≤ b + u)
    by_cases h : a ≤ b + (u + 1)
    · rw [decide_eq_true h, decide_eq_true (by omega)]
    · rw [decide_eq_false h, decide_eq_false (by omega)]
theorem keptB_step {ls ms : List (Option Int)} (h0 : 0 < ls.length) (h1 : 0 < ms.length) {t n u : Int} (hn : n ≤ t) : keptB (chgL ls ms (u + 1)) (t + 1) n = (keptB ms (t + 1) n && keptB (chgL ls ms u) t n) := by
  unfold keptB
  rw [lifeAt_chg h0 h1, lifeAt_chg h0 h1, leO_minO, leO_minO, leO_shift, decide_eq_true (show n ≤ t + 1 by omega), decide_eq_true hn, Bool.true_and, Bool.true_and, Bool.true_and]
  rw [show t + 1 - n + 1 - 1 = t - n + 1 by omega]
  cases e : leO (some (t + 1 - n + 1)) (lifeAt ms (rkI n)) with
  | false => rfl
  | true =>
    have q : leO (some (t - n + 1)) (lifeAt ms (rkI n)) = true := leO_low e (by omega)
    rw [q]
    rfl
theorem keptB_new {ls ms : List (Option Int)} (h0 : 0 < ls.length) (h1 : 0 < ms.length) (hb : ∀ i v, lifeAt ls i = some v → 0 ≤ v) {t u : Int} (hu : 0 ≤ u) : keptB (chgL ls ms (u + 1)) t t = keptB ms t t := by
  unfold keptB
  rw [lifeAt_chg h0 h1, leO_minO, decide_eq_true (Int.le_refl t), Bool.true_and, Bool.true_and]
  have q : leO (some (t - t + 1)) (addO (u + 1) (lifeAt ls (rkI t))) = true := by
    cases e : lifeAt ls (rkI t) with
    | none => rfl
    | some v =>
      have := hb _ v e
      exact decide_eq_true (by omega : t - t + 1 ≤ v + (u + 1))
  rw [q, Bool.and_true]
def kB (ms : List (Option Int)) (t : Nat) : Nat → Bool := fun n => keptB ms ((t : Nat) : Int) ((n : Nat) : Int)
theorem keptL_chg0 {ls ms : List (Option Int)} (h0 : 0 < ls.length) (h1 : 0 < ms.length) (t : Nat) : keptL (chgL ls ms 0) t = (keptL ls t).filter (kB ms t) := by
  unfold keptL kB
  rw [List.filter_filter]
  refine List.filter_congr fun n _ => ?_
  rw [keptB_chg0 h0 h1]
theorem keptL_step {ls ms : List (Option Int)} (h0 : 0 < ls.length) (h1 : 0 < ms.length) (hb : ∀ i v, lifeAt ls i = some v → 0 ≤ v) (t u : Nat) : keptL (chgL ls ms ((u : Nat) + 1 : Int)) (t + 1) = (keptL (chgL ls ms (u : Nat)) t ++ [t + 1]).filter (kB ms (t + 1)) := by
  unfold keptL
  rw [List.range_succ, List.filter_append, List.filter_append, List.filter_filter]
  congr 1
  · refine List.filter_congr fun n hn => ?_
    have hn' := List.mem_range.mp hn
    have q := keptB_step h0 h1 (t := (t : Int)) (n := ((n : Nat) : Int)) (u := (u : Int)) (by omega)
    unfold kB
    rw [show (((t + 1 : Nat)) : Int) = (t : Int) + 1 by omega]
    exact q
  · refine List.filter_congr fun n hn => ?_
    rw [List.mem_singleton.mp hn]
    exact keptB_new h0 h1 hb (by omega)
theorem dpN {K : PySem.W.Frag} {H : Hp} {a : Addr} {ns : List Nat} (h : SqL K H a (ns.map fun n => V.int ((n : Nat) : Int))) : Dp K H (.ref a) (.list ((ns.map fun n => ((n : Nat) : Int)).map PyData.int)) := by
  refine .lst (xs := ns.map fun n => V.int ((n : Nat) : Int)) h ?_
  have := dpAll_ints (K := K) (H := H) (ns.map fun n => ((n : Nat) : Int))
  rw [List.map_map] at this
  exact this
end Rk
namespace Rk
open PySem PySem.Spec PyProof.Rows L2 GenW

/-! ### how many points are kept, and how many of them in a range -/
theorem steps_mulN {lo hi s : Int} (hs : 0 < s) : ((stepsN (lo2 lo s) (hi + 1) s : Nat) : Int) = mulN lo hi s := by
  obtain ⟨w1, w2, w3⟩ := lo2_spec (lo := lo) hs
  generalize lo2 lo s = z at *
  have e : s * (z / s) = z := by have := Int.mul_ediv_add_emod z s; omega
  generalize z / s = k at *
  have e1 : (lo - 1) / s = k - 1 := by
    have e2 : lo - 1 = (lo - 1 - s * (k - 1)) + s * (k - 1) := by omega
    have e3 : s * (k - 1) = z - s := by rw [Int.mul_sub, e, Int.mul_one]
    rw [e2, Int.add_mul_ediv_left _ _ (by omega), Int.ediv_eq_zero_of_lt (by omega) (by omega), Int.zero_add]
  have e4 : hi / s = (hi - z) / s + k := by
    have e2 : hi = (hi - z) + s * k := by omega
    conv => lhs; rw [e2]
    rw [Int.add_mul_ediv_left _ _ (by omega)]
  unfold stepsN mulN
  rw [e1, e4]
  by_cases h : z < hi + 1
  · have h2 : ¬ lo > hi := by omega
    rw [if_pos h, if_neg h2, show hi + 1 - z - 1 = hi - z by omega]
    have := Int.ediv_nonneg (show 0 ≤ hi - z by omega) (show 0 ≤ s by omega)
    omega
  · rw [if_neg h]
    by_cases h2 : lo > hi
    · rw [if_pos h2]; rfl
    · rw [if_neg h2]
      have e5 : (hi - z) / s = -1 := by
        have e2 : hi - z = (hi - z + s) + s * (-1) := by omega
        rw [e2, Int.add_mul_ediv_left _ _ (by omega), Int.ediv_eq_zero_of_lt (by omega) (by omega), Int.zero_add]
      rw [e5]
      omega
def inR (low high : Int) : Int → Bool := fun x => decide (low ≤ x) && decide (x ≤ high)
theorem inR_iff {low high x : Int} : inR low high x = true ↔ low ≤ x ∧ x ≤ high := by
  unfold inR
  rw [Bool.and_eq_true, decide_eq_true_eq, decide_eq_true_eq]
theorem band_filter {b : Int × Int × Int} (hs : 0 < b.2.2) (low high : Int) : (bandPts b).filter (inR low high) = bandPts (max low b.1, min high b.2.1, b.2.2) := by
  refine up_ext (List.Pairwise.filter _ (bandPts_up hs)) (bandPts_up hs) fun x => ?_
  rw [List.mem_filter, bandPts_mem hs, bandPts_mem (b := (max low b.1, min high b.2.1, b.2.2)) hs, inR_iff]
  show _ ↔ max low b.1 ≤ x ∧ x ≤ min high b.2.1 ∧ x % b.2.2 = 0
  omega
theorem cntB_filter (low high t : Int) : ∀ (ls : List (Option Int)) (i : Nat) (hi : Int), ((((genL (bandsOf t i hi ls)).filter (inR low high)).length : Nat) : Int) = cntB low high t i hi ls
  | [], _, _ => rfl
  | l :: r, i, hi => by
    have p : (0 : Int) < 2 ^ i := Int.pow_pos (by decide)
    show ((((genL ((bandLo t l, hi, 2 ^ i) :: bandsOf t (i + 1) (bandLo t l - 1) r)).filter (inR low high)).length : Nat) : Int) = mulN (max low (bandLo t l)) (min high hi) (2 ^ i) + cntB low high t (i + 1) (bandLo t l - 1) r
    rw [genL_cons, List.filter_append, List.length_append, band_filter (b := (bandLo t l, hi, 2 ^ i)) p, bandPts_len, ← cntB_filter low high t r (i + 1) (bandLo t l - 1), ← steps_mulN p]
    show (((_ + stepsN (lo2 (max low (bandLo t l)) (2 ^ i)) (min high hi + 1) (2 ^ i) : Nat)) : Int) = _
    omega
theorem cnt_kept {ls : List (Option Int)} (g : Good ls) (t : Nat) (low high : Int) : cntB low high (t : Int) 0 (t : Int) ls = ((((keptL ls t).filter fun n => inR low high ((n : Nat) : Int)).length : Nat) : Int) := by
  rw [← cntB_filter, genL_kept g, List.filter_map, List.length_map]
  rfl
theorem cnt_all {ls : List (Option Int)} (g : Good ls) (t : Nat) : cntB 0 (t : Int) (t : Int) 0 (t : Int) ls = (((keptL ls t).length : Nat) : Int) := by
  rw [cnt_kept g, List.filter_eq_self.mpr]
  intro n hn
  have := (keptL_mem.mp hn).1
  exact inR_iff.mpr ⟨by omega, by omega⟩
end Rk
namespace Rk
open PySem PySem.Spec PyProof.Rows L2 GenW

/-! ### comprehensions whose items leave all as it was: [e(x) for x in .. if p(x)] -/
/-- one turn -/
def CoTurn (σ : L2.St) (vs : List Nat) (g : TG) (tt : TT) (te : TE) (H1 H' : Hp) (v : V) (b : Bool) (y : V) : Prop :=
  ∀ (N : V → Hp → Prop) (S : Hp → Prop), (b = true → ∀ H4, Same H' H4 → N y H4) → (b = false → ∀ H3, Same H' H3 → S H3) →
    g v (wipe σ vs) H' fun σ2 H2 => wipe σ2 vs = wipe σ vs ∧ tt σ2 H2 fun c H3 => if c = true then te σ2 H3 N else S H3
section
variable {α : Type} {f : α → V} {p : α → Bool} {e : α → V} {ks : List α} {g : TG} {tt : TT} {te : TE} {vs : List Nat} {σ : L2.St} {H1 : Hp} {D : Addr} {Qd : Hp → Prop}
def CoP (ks : List α) (p : α → Bool) (e : α → V) (H1 : Hp) (D : Addr) : Nat → Hp → Prop := fun j H' => Same H1 H' ∧ H' D = some (.lst (((ks.take j).filter p).map e))
theorem CoP.start (hD : H1 D = none) : CoP ks p e H1 D 0 (upd H1 D (.lst [])) := ⟨same_upd hD, upd_same⟩
theorem CoP.turn (hD : H1 D = none) (hl : ks.length < sizeLine) {j : Nat} {x : α} {H' : Hp} (hj : ks[j]? = some x) (hP : CoP ks p e H1 D j H') (ht : Same H1 H' → CoTurn σ vs g tt te H1 H' (f x) (p x) (e x)) :
    g (f x) (wipe σ vs) H' fun σ2 H2 => wipe σ2 vs = wipe σ vs ∧ tt σ2 H2 fun b H3 => if b = true then te σ2 H3 fun y H4 => ∃ acc, H4 D = some (.lst acc) ∧ acc.length < sizeLine ∧ CoP ks p e H1 D (j + 1) (upd H4 D (.lst (acc ++ [y]))) else CoP ks p e H1 D (j + 1) H3 := by
  obtain ⟨sm, eD⟩ := hP
  have et : ks.take (j + 1) = ks.take j ++ [x] := by rw [List.take_add_one, hj]; rfl
  have hlt : j < ks.length := by
    by_cases z : j < ks.length
    · exact z
    · rw [List.getElem?_eq_none (by omega)] at hj; cases hj
  refine ht sm _ _ (fun hb H4 s4 => ⟨_, s4 _ _ eD, ?_, fun b o z => ?_, ?_⟩) (fun hb H3 s3 => ⟨sm.trans s3, ?_⟩)
  · refine Nat.lt_of_le_of_lt ?_ hl
    rw [List.length_map]
    exact Nat.le_trans (List.length_filter_le _ _) (by rw [List.length_take]; omega)
  · rw [upd_ne (ne_of_none z hD)]
    exact s4 b o (sm b o z)
  · rw [upd_same, et, List.filter_append, filter_yes p hb, List.map_append]
    rfl
  · rw [s3 _ _ eD, et, List.filter_append, filter_no p hb, List.append_nil]
theorem lc_genL {K : PySem.W.Frag} {a : Addr} (hD : H1 D = none) (hx : SqL K H1 a (ks.map f)) (hl : ks.length < sizeLine) (hs : ∀ x H', x ∈ ks → Same H1 H' → CoTurn σ vs g tt te H1 H' (f x) (p x) (e x)) (hd : ∀ H', Same H1 H' → H' D = some (.lst ((ks.filter p).map e)) → Qd H') :
    ∃ W : Nat → Nat → Hp → Prop, (∃ m, W 0 m (upd H1 D (.lst []))) ∧ ∀ i m H, W i m H → ((Itl K a).stop i H ∧ Qd H) ∨ ((Itl K a).go i H ∧ ∃ Nx : Hp → Prop, (∀ H', Nx H' → ∃ m', m' < m ∧ W (i + 1) m' H') ∧ ∀ x H', (Itl K a).yld i H x H' → g x (wipe σ vs) H' fun σ2 H2 => wipe σ2 vs = wipe σ vs ∧ tt σ2 H2 fun b H3 => if b = true then te σ2 H3 fun y H4 => ∃ acc, H4 D = some (.lst acc) ∧ acc.length < sizeLine ∧ Nx (upd H4 D (.lst (acc ++ [y]))) else Nx H3) := by
  refine lc_list (xs := ks.map f) (CoP ks p e H1 D) (CoP.start hD) (fun i H' _ z => z.1.seq hx) (fun i x H' hi hP => ?_) (fun H' hP => ?_)
  · obtain ⟨n, hn, rfl⟩ := map_at hi
    exact CoP.turn hD hl hn hP fun s => hs n H' (List.mem_of_getElem? hn) s
  · obtain ⟨s, z⟩ := hP
    rw [List.length_map, List.take_length] at z
    exact hd H' s z
theorem lc_genT {K : PySem.W.Frag} {a : Addr} (hD : H1 D = none) (hx : SqT K H1 a (ks.map f)) (hl : ks.length < sizeLine) (hs : ∀ x H', x ∈ ks → Same H1 H' → CoTurn σ vs g tt te H1 H' (f x) (p x) (e x)) (hd : ∀ H', Same H1 H' → H' D = some (.lst ((ks.filter p).map e)) → Qd H') :
    ∃ W : Nat → Nat → Hp → Prop, (∃ m, W 0 m (upd H1 D (.lst []))) ∧ ∀ i m H, W i m H → ((Itt K a).stop i H ∧ Qd H) ∨ ((Itt K a).go i H ∧ ∃ Nx : Hp → Prop, (∀ H', Nx H' → ∃ m', m' < m ∧ W (i + 1) m' H') ∧ ∀ x H', (Itt K a).yld i H x H' → g x (wipe σ vs) H' fun σ2 H2 => wipe σ2 vs = wipe σ vs ∧ tt σ2 H2 fun b H3 => if b = true then te σ2 H3 fun y H4 => ∃ acc, H4 D = some (.lst acc) ∧ acc.length < sizeLine ∧ Nx (upd H4 D (.lst (acc ++ [y]))) else Nx H3) := by
  refine lc_tup (xs := ks.map f) (CoP ks p e H1 D) (CoP.start hD) (fun i H' _ z => SqT.same z.1 hx) (fun i x H' hi hP => ?_) (fun H' hP => ?_)
  · obtain ⟨n, hn, rfl⟩ := map_at hi
    exact CoP.turn hD hl hn hP fun s => hs n H' (List.mem_of_getElem? hn) s
  · obtain ⟨s, z⟩ := hP
    rw [List.length_map, List.take_length] at z
    exact hd H' s z
end
/-- over a range: the items lo, lo + 1, .. -/
theorem lc_genR {lo : Int} {n : Nat} {p : Nat → Bool} {e : Nat → V} {g : TG} {tt : TT} {te : TE} {vs : List Nat} {σ : L2.St} {H1 : Hp} {D : Addr} {Qd : Hp → Prop} (hD : H1 D = none) (hl : n < sizeLine) (hs : ∀ x H', x < n → Same H1 H' → CoTurn σ vs g tt te H1 H' (.int (lo + (x : Int))) (p x) (e x))
    (hd : ∀ H', Same H1 H' → H' D = some (.lst (((List.range n).filter p).map e)) → Qd H') :
    ∃ W : Nat → Nat → Hp → Prop, (∃ m, W 0 m (upd H1 D (.lst []))) ∧ ∀ i m H, W i m H → ((Itr lo n).stop i H ∧ Qd H) ∨ ((Itr lo n).go i H ∧ ∃ Nx : Hp → Prop, (∀ H', Nx H' → ∃ m', m' < m ∧ W (i + 1) m' H') ∧ ∀ x H', (Itr lo n).yld i H x H' → g x (wipe σ vs) H' fun σ2 H2 => wipe σ2 vs = wipe σ vs ∧ tt σ2 H2 fun b H3 => if b = true then te σ2 H3 fun y H4 => ∃ acc, H4 D = some (.lst acc) ∧ acc.length < sizeLine ∧ Nx (upd H4 D (.lst (acc ++ [y]))) else Nx H3) := by
  refine lc_range (CoP (List.range n) p e H1 D) (CoP.start hD) (fun i H' hi hP => ?_) (fun H' hP => ?_)
  · exact CoP.turn (f := fun x => .int (lo + (x : Nat))) hD (by rw [List.length_range]; exact hl) (List.getElem?_range hi) hP fun s => hs i H' hi s
  · obtain ⟨s, z⟩ := hP
    rw [List.take_of_length_le (by rw [List.length_range]; exact Nat.le_refl _)] at z
    exact hd H' s z
theorem filter_true {α : Type} (xs : List α) : xs.filter (fun _ => true) = xs := List.filter_eq_self.mpr fun _ _ => rfl
theorem all_rep {n : Nat} : ((List.range n).map fun _ => V.bl true) = (List.replicate n true).map V.bl := by
  rw [List.map_replicate]
  refine List.ext_getElem (by simp) fun i h1 h2 => ?_
  simp
theorem rep_all (n : Nat) : (List.replicate n true).all _root_.id = true := by simp
end Rk
namespace Rk
open PySem PySem.Spec PyProof.Rows L2
open PySem.W (InstAt findIn isFn subIn)
/-! len(o), bool(o), o == v of an own class's instance -/
section
variable {X : Cx} {pins : List (Addr × Obj)} {σ : L2.St} {H : Hp} {s : Shared} {k : Nat} {f C : Addr} {sp : Sp} {Q : VK}
theorem run_at {B : Around} {us : List Value} {vs : List V} (FF : FnR X.prog X.w X.K X.mg X.base CX0 k f sp) (hr : Room k B) (I : Inv X pins σ H s) (e0 : Env0 X.prog X.w X.K X.mg X.base B X.stack s H) (r : Vals vs us) (h : sp vs H Q E0) :
    wpAny (model X.prog X.w) B (call (.ref f) us) (EP X pins σ Q) X.xe s := by
  refine wpAny_call (codeAny_mono (FF B X.stack s H us vs Q E0 hr e0 r h) ?_)
  intro r s' z
  cases r with
  | error e => exact z.elim
  | ok fl =>
    cases fl with
    | ret u => exact I.after z
    | _ => exact z.elim
def rOwnLen (C : Addr) (sp : Sp) : List V → Hp → VK → Prop := fun xs H Q => ∃ a dx fs, xs = [.ref a] ∧ H a = some (.ins C dx fs) ∧ sp [.ref a] H (fun v H' => ∃ n : Nat, v = .int n ∧ n ≤ sizeLine ∧ Q (.int n) H') E0
theorem call_ownLen (m : OwnOp X.K C f "__len__") (FF : FnR X.prog X.w X.K X.mg X.base CX0 k f sp) (hr : Room (k + 1) X.A) : CallR X (.builtin "len") (rOwnLen C sp) := by
  intro pins s σ H xs us Q I r h
  obtain ⟨a, dx, fs, rfl, ha, q⟩ := h
  obtain ⟨u, rfl, rx⟩ := vals1 r
  cases rx
  obtain ⟨oa, da, Ja⟩ := ins_inst I ha
  obtain ⟨mm, hF⟩ := I.fr
  refine PySem.W.len_K hF I.ok.mod.kin Ja m.at_ m.fn (wpAny_mono (run_at (vs := [.ref a]) FF hr.in1 I I.env0.in1 (.cons rfl .nil) q) (fun v s' z => ?_) fun _ _ z => z)
  obtain ⟨v', H', I', rv, n, rfl, hn, q2⟩ := z
  obtain ⟨t, rfl⟩ := (show ∃ t, v = Value.int n t from rv)
  have e := sizeLine_eq
  exact ⟨⟨by omega, by omega⟩, .int n, H', I'.tok _, ⟨_, rfl⟩, q2⟩
def rOwnBool (C : Addr) (sp : Sp) : List V → Hp → VK → Prop := fun xs H Q => ∃ a dx fs, xs = [.ref a] ∧ H a = some (.ins C dx fs) ∧ sp [.ref a] H (fun v H' => ∃ b, v = .bl b ∧ Q (.bl b) H') E0
theorem new_ownBool {prog : Program} {w : World} {a : Addr} : MeetsIn prog w (Builtin.«bool.__new__» ⟨[.type "bool", .ref a], []⟩)
    (fun A R s => wpAny (model prog w) A.in1 (truthy (.ref a)) (fun b s1 => R (.ok (.ret (.bool b))) s1) (fun e s1 => R (.error e) s1) s) :=
  .of_wp fun A R s h => by
    obtain ⟨hp, g, d, tk, os⟩ := s
    have f1 := F.conv_sub_bool
    repeat (any_goals (first | assumption | (with_reducible refine wpAny_mono h (fun b s1 z => ?_) fun _ _ z => z) | wp_step))
    all_goals exact ⟨_, rfl, z⟩
theorem call_ownBool (m : OwnOp X.K C f "__bool__") (FF : FnR X.prog X.w X.K X.mg X.base CX0 k f sp) (hr : Room (k + 2) X.A) : CallR X (.type "bool") (rOwnBool C sp) := by
  intro pins s σ H xs us Q I r h
  obtain ⟨a, dx, fs, rfl, ha, q⟩ := h
  obtain ⟨u, rfl, rx⟩ := vals1 r
  cases rx
  obtain ⟨oa, da, Ja⟩ := ins_inst I ha
  obtain ⟨mm, hF⟩ := I.fr
  refine callType_newIn F.called_bool F.newNe_bool (F.typeCall_bool_1 _) (F.newCall_bool_1 _) (fun obj => F.args_object_init_2 obj _) F.entry_bool_new new_ownBool ?_
  show wpAny _ X.A.in1.in1 (truthy (.ref a)) _ _ _
  refine PySem.W.truthy_K hF I.ok.mod.kin Ja m.at_ m.fn (wpAny_mono (run_at (vs := [.ref a]) FF hr.in1.in1 I I.env0.in1.in1 (.cons rfl .nil) q) (fun v s' z => ?_) fun _ _ z => z)
  obtain ⟨v', H', I', rv, b, rfl, q2⟩ := z
  obtain rfl : v = Value.bool b := rv
  exact ⟨rfl, .bl b, H', I', rfl, q2⟩
/-- one == other: other of the class, or a value of any kind -/
def rOwnD (K : PySem.W.Frag) (C : Addr) (sp : Sp) : R2 := fun x y H Q => ∃ a ex d dx fs, x = .ref a ∧ Dq K ex H y d ∧ H a = some (.ins C dx fs) ∧ sp [.ref a, y] H Q E0
theorem op_ownD (nC : ∀ d : PyData, subIn X.K (tyD d) (.ref C) = some false) (m : OwnOp X.K C f "__eq__") (FF : FnR X.prog X.w X.K X.mg X.base CX0 k f sp) (hr : Room k X.A) : OpR X (compareOp .Eq) (rOwnD X.K C sp) := by
  intro pins s σ H x y v u Q I rx ry h
  obtain ⟨a, ex, d, dx, fs, rfl, hd, ha, q⟩ := h
  cases rx
  obtain ⟨oa, da, Ja⟩ := ins_inst I ha
  obtain ⟨mm, hF⟩ := I.fr
  obtain ⟨P, kx, hp, _⟩ := kit_of I ry hd.ty
  show wpAny (model X.prog X.w) X.A (richCompare .Eq (.ref a) u) (EP X pins σ Q) X.xe s
  refine PySem.W.cmp_K hr.units0 hF I.ok.mod.kin Ja (kx.ty _ _ I.kIn hp) (by unfold PySem.W.notFirst; rw [nC d]; simp) m.at_ m.fn (run_own (A := X.A) (x := .ref a) (y := y) FF hr I rfl ry q)
theorem op_ownDK {K : PySem.W.Frag} (hK : X.K = K) (nC : ∀ d : PyData, subIn K (tyD d) (.ref C) = some false) (m : OwnOp K C f "__eq__") (FF : FnR X.prog X.w K X.mg X.base CX0 k f sp) (hr : Room k X.A) : OpR X (compareOp .Eq) (rOwnD K C sp) := by
  subst hK
  exact op_ownD nC m FF hr
end
end Rk
set_option maxHeartbeats 4000000
namespace Rk
open PySem PySem.Spec PyProof.Rows L2
open LamX (CodeO TabS Tabs ExtN TabB)
/-! lambdas without parameters, handed to a def of the text; tables of code objects at the law's own call -/
abbrev tabE : Obj := { cls := .none, data := .fields #[] }
/-- the law's own call from a heap that tracks the script and the tables at most -/
theorem enterGT {P : Program} {w : World} {K : PySem.W.Frag} {mg mb : Str → Option Value} {k : Nat} {fa a : Addr} {nm x : Str} {sp : Sp} {s₁ : Shared} {vs : List Value} {cs : List (Addr × Addr)} {H : Hp}
    (KX : K.In s₁.heap) (hns : s₁.heap.Ns mainGlobals mg) (hb : s₁.heap.Ns builtinsNs mb) (hbb : ∀ x : Str, x ≠ "__name__" → mb x = bootBuiltins x) (hlim : s₁.heap.NoLimit) (hg : s₁.gens = #[])
    (tE : ∀ p ∈ cs, s₁.heap.get? p.2 = some tabE) (tK : ∀ p ∈ cs, K.lookup p.2 = none) (tC : ∀ p ∈ cs, PySem.W.CodeHd s₁.heap p.1 p.2)
    (hbm : ∃ (bm : Addr) (ob : Obj), mg "__builtins__" = some (.ref bm) ∧ bm ≠ builtinsNs ∧ s₁.heap.get? bm = some ob ∧ ob.cls = .type "module" ∧ ob.dict = some builtinsNs ∧ ob.data = .plain)
    (ha : s₁.heap.get? a = some { cls := .type "list", data := .seq vs.toArray }) (hr : Room k callerA)
    (F : ∀ base : Heap, K.In base → base.Ns mainGlobals mg → (∀ p ∈ cs, TabB base mg p.1 p.2) → Has P w K mg base k nm [x] sp) (hfa : mg nm = some (.ref fa))
    (hH : ∀ p ∈ cs, H p.2 = some (.tbl #[])) (hO : ∀ b, H b = none ∨ (∃ p ∈ cs, p.2 = b) ∨ ∃ o xs, H b = some (.frz o (.lst xs))) (ok : HOk P w H s₁.heap)
    (hA : ∀ b, H b ≠ none → b = a ∨ ∃ p ∈ cs, p.2 = b) (hK : H a ≠ none → K.lookup a = none) (hsp : sp [.ref a] H (fun v _ => v = .bl true) E0) :
    codeAny (model P w) callerA (.call (.ref fa) ⟨[.ref a], []⟩) (fun r s' => r = .ok (.ret (.bool true)) ∧ OldK s₁.heap s'.heap ∧ s'.os = s₁.os ∧ AllBare s'.gens) s₁ := by
  -- what is neither a list nor an empty table is not tracked
  have out : ∀ {b : Addr} {o : Obj}, s₁.heap.get? b = some o → (∀ zs n, o.data ≠ .seq zs n) → o.data ≠ .fields #[] → H b = none := by
    intro b o e n1 n2
    cases q : H b with
    | none => rfl
    | some u =>
      rcases hA b (by rw [q]; exact fun z => nomatch z) with z | ⟨p, hp, z⟩
      · subst z
        rw [ha] at e
        cases e
        exact absurd rfl (n1 _ _)
      · subst z
        rw [tE p hp] at e
        cases e
        exact absurd rfl n2
  have outD : ∀ {b : Addr} {o : Obj} {es : Array DictEntry} {ep : Nat}, s₁.heap.get? b = some o → o.data = .dict es ep → H b = none := fun {b o es ep} e d =>
    out e (fun _ _ z => by rw [d] at z; cases z) fun z => by rw [d] at z; cases z
  have seen : ∀ {b : Addr} {o : Obj}, s₁.heap.get? b = some o → H b = none → (hidT s₁.heap H).get? b = some o := fun e n => hidT_get e n
  have nsH : ∀ {b : Addr} {m : Str → Option Value}, s₁.heap.Ns b m → (hidT s₁.heap H).Ns b m := by
    rintro b m ⟨o, es, ep, e, d, r⟩
    exact ⟨o, es, ep, seen e (outD e d), d, r⟩
  have kinH : K.In (hidT s₁.heap H) := by
    intro b o e
    refine seen (KX b o e) ?_
    cases q : H b with
    | none => rfl
    | some u =>
      rcases hA b (by rw [q]; exact fun z => nomatch z) with z | ⟨p, hp, z⟩
      · subst z
        have n := hK (by rw [q]; exact fun z => nomatch z)
        rw [n] at e
        cases e
      · subst z
        rw [tK p hp] at e
        cases e
  have tabs : ∀ p ∈ cs, TabB (hidT s₁.heap H) mg p.1 p.2 := by
    intro p hp
    refine ⟨?_, ?_, ?_⟩
    · obtain ⟨o, us, fl, tf, fg, tg, inF, tx, tt, e1, r1, r2, r3, rest⟩ := tC p hp
      refine ⟨o, us, fl, tf, fg, tg, inF, tx, tt, seen e1 (out e1 (fun _ _ z => ?_) fun z => ?_), r1, r2, r3, rest⟩
      · rw [r2] at z
        cases z
      · rw [r2] at z
        cases z
        exact nomatch r3
    · obtain ⟨bm, ob, m1, m2, m3, m4, m5, m6⟩ := hbm
      have n1 : bm ≠ mainGlobals := by
        rintro rfl
        obtain ⟨o, es, ep, e, d, _⟩ := hns
        rw [m3] at e
        cases e
        rw [m6] at d
        cases d
      have n2 : bm ≠ p.2 := by
        rintro rfl
        rw [tE p hp] at m3
        cases m3
        cases m6
      exact ⟨bm, ob, m1, m2, n1, n2, seen m3 (out m3 (fun _ _ z => by rw [m6] at z; cases z) fun z => by rw [m6] at z; cases z), m4, m5, m6⟩
    · intro z
      obtain ⟨o, es, ep, e, d, _⟩ := hns
      rw [z, tE p hp] at e
      cases e
      cases d
  obtain ⟨mc, l1, l2⟩ := hlim
  have e0 : Env0 P w K mg (hidT s₁.heap H) callerA [] s₁ H := by
    refine ⟨rfl, ⟨kinH, nsH hns, ⟨mb, nsH hb, hbb⟩, mc, nsH l1, l2⟩, fun b o e => of_hidT e, Nat.le_of_eq (hidT_size _ _), trivial, ?_, ok, .of_eq hg⟩
    intro b z
    exact nomatch (show b ∈ ([] : List Addr) from z)
  obtain ⟨f, fd, m, kp, bd, F1⟩ := F _ kinH (nsH hns) tabs
  have ef := Option.some.inj (m.symm.trans hfa)
  cases ef
  have run := F1.run callerA [] s₁ H ⟨[.ref a], []⟩ [.ref a] [.ref a] _ _ rfl hr e0 (bd s₁ [.ref a] KX rfl) (.cons rfl .nil) hsp
  refine codeAny_mono run fun r s' h => ?_
  cases r with
  | error e => exact h.elim
  | ok fl =>
    cases fl with
    | next => exact h.elim
    | brk => exact h.elim
    | cont => exact h.elim
    | ret u =>
      obtain ⟨v, H', os, bare, un, hok', r', q⟩ := h
      obtain rfl : v = .bl true := q
      obtain rfl : u = Value.bool true := r'
      have same : ∀ b o, (¬ ∃ p ∈ cs, p.2 = b) → s₁.heap.get? b = some o → s'.heap.get? b = some o := by
        intro b o nb e
        rcases hO b with z | z | ⟨ob, xs, z⟩
        · exact un.keep b o e z (fun y => nomatch (show b ∈ ([] : List Addr) from y)) (fun y => nomatch y)
        · exact absurd z nb
        · have e1 := (ok b _ z).1
          have e2 := (hok' b _ (un.frzs b ob _ z)).1
          rw [e] at e1
          cases e1
          exact e2
      have grew : ∀ p ∈ cs, ∃ more : Array Value, s'.heap.get? p.2 = some { cls := .none, data := .fields more } := by
        intro p hp
        obtain ⟨more, z⟩ := un.tbls p.2 #[] (hH p hp)
        exact ⟨_, hok' p.2 _ z⟩
      refine ⟨rfl, ⟨fun b o e => ?_, fun b o e => ?_⟩, os, bare⟩
      · by_cases nb : ∃ p ∈ cs, p.2 = b
        · obtain ⟨p, hp, rfl⟩ := nb
          obtain ⟨more, hm⟩ := grew p hp
          rw [tE p hp] at e
          cases e
          refine .inr (.inl ⟨((tC p hp).tab (tE p hp)).isCodeTable, rfl, #[], more, rfl, ?_⟩)
          rw [Array.empty_append]
          exact hm
        · exact .inl (same b o nb e)
      · by_cases nb : ∃ p ∈ cs, p.2 = b
        · obtain ⟨p, hp, rfl⟩ := nb
          obtain ⟨more, hm⟩ := grew p hp
          exact ⟨_, hm⟩
        · exact ⟨o, same b o nb e⟩
/-- what is known of the law's promise at the head's heap, tables included -/
def LawAtG (l : PySem.W.OpenLaw) (w : World) (K : PySem.W.Frag) (k n : Nat) (nm x : Str) (mg : Str → Option Value) (h : Heap) : Prop :=
  ∃ (cs : List (Addr × Addr)) (sp : Sp), (∀ p ∈ cs, h.get? p.2 = some tabE) ∧ (∀ p ∈ cs, K.lookup p.2 = none) ∧ (∀ p ∈ cs, PySem.W.CodeHd h p.1 p.2) ∧
    (∀ (H : Hp) (a : Addr) (ns : List Int), ns.length ≤ n → (∀ p ∈ cs, H p.2 = some (.tbl #[])) → SqL K H a (ns.map V.int) → sp [.ref a] H (fun v _ => v = .bl true) E0) ∧
    ∀ base : Heap, K.In base → base.Ns mainGlobals mg → (∀ p ∈ cs, TabB base mg p.1 p.2) → Has l.prog w K mg base k nm [x] sp
theorem walkGT {l : PySem.W.OpenLaw} {n k : Nat} {q : Program} {loose : List Str} {XP : (Str → Option Value) → Heap → Prop} {YP : World → Heap → Prop} {d : DefRec} {K : Params → PySem.W.Frag} {x : Str}
    (hn : l.most = some n) (hn2 : n ≤ sizeLine) (hdf : d.params.defaults = []) (hr : Room k callerA) (hY : ∀ (w : World) (h : Heap), YP w h → (K w.params).In h)
    (F : ∀ (w : World) (mg : Str → Option Value) (h : Heap), YP w h → (K w.params).In h → h.Ns mainGlobals mg → LawAtG l w (K w.params) k n d.name x mg h) :
    PySem.W.WalkO q loose XP YP l.row.toRowW d [] (fun f vs => PySem.call f vs) := by
  refine Att.attach_callB hn hdf ?_
  intro w s₀ s₁ mg mb fa o pm cd doc a vs ns G Y ho hd hcd hmg hobj hints hlen _ hg
  have KX := hY w _ Y
  obtain ⟨cs, sp, tE, tK, tC, hsp, hF⟩ := F w mg _ Y KX G.T.g
  have rv : Vals (ns.map V.int) vs := vals_ints hints
  have lenV : vs.length = ns.length := hints.length
  have aT : ¬ ∃ p ∈ cs, p.2 = a := by
    rintro ⟨p, hp, rfl⟩
    rw [tE p hp] at hobj
    cases hobj
  let H0 : Hp := fun b => if (cs.any fun p => p.2 == b) = true then some (.tbl #[]) else none
  have inT : ∀ b, (cs.any fun p => p.2 == b) = true ↔ ∃ p ∈ cs, p.2 = b := fun b => by
    rw [List.any_eq_true]
    exact ⟨fun ⟨p, hp, e⟩ => ⟨p, hp, beq_iff_eq.mp e⟩, fun ⟨p, hp, e⟩ => ⟨p, hp, beq_iff_eq.mpr e⟩⟩
  have at1 : ∀ b, (∃ p ∈ cs, p.2 = b) → H0 b = some (.tbl #[]) := fun b h => if_pos ((inT b).mpr h)
  have at0 : ∀ b, (¬ ∃ p ∈ cs, p.2 = b) → H0 b = none := fun b h => if_neg fun z => h ((inT b).mp z)
  cases hk : (K w.params).lookup a with
  | some ob =>
    have e := KX a ob hk
    rw [hobj] at e
    cases e
    refine enterGT (H := H0) KX G.T.g G.T.b G.T.builtins G.T.nolimit hg tE tK tC G.T.bmain hobj hr hF hmg (fun p hp => at1 _ ⟨p, hp, rfl⟩) (fun b => ?_) (fun b u z => ?_) (fun b z => ?_) (fun z => absurd (at0 a aT) z) (hsp _ _ _ hlen (fun p hp => at1 _ ⟨p, hp, rfl⟩) (.inr ⟨_, vs.toArray, _, hk, rfl, rfl, rfl, ?_, ?_⟩))
    · by_cases hb : ∃ p ∈ cs, p.2 = b
      · exact .inr (.inl hb)
      · exact .inl (at0 b hb)
    · by_cases hb : ∃ p ∈ cs, p.2 = b
      · rw [at1 b hb] at z
        cases z
        obtain ⟨p, hp, rfl⟩ := hb
        exact tE p hp
      · rw [at0 b hb] at z
        cases z
    · by_cases hb : ∃ p ∈ cs, p.2 = b
      · exact .inr hb
      · exact absurd (at0 b hb) z
    · rw [List.size_toArray, lenV]
      exact Nat.le_trans hlen hn2
    · simpa using rv
  | none =>
    let H : Hp := fun b => if b = a then some (.frz { cls := .type "list", data := .seq vs.toArray } (.lst (ns.map V.int))) else H0 b
    have Ha : H a = some (.frz { cls := .type "list", data := .seq vs.toArray } (.lst (ns.map V.int))) := if_pos rfl
    have Hn : ∀ b, b ≠ a → H b = H0 b := fun b z => if_neg z
    have Ht : ∀ p ∈ cs, H p.2 = some (.tbl #[]) := fun p hp => (Hn _ fun z => aT ⟨p, hp, z⟩).trans (at1 _ ⟨p, hp, rfl⟩)
    refine enterGT (H := H) KX G.T.g G.T.b G.T.builtins G.T.nolimit hg tE tK tC G.T.bmain hobj hr hF hmg Ht (fun b => ?_) (fun b u z => ?_) (fun b z => ?_) (fun _ => hk) (hsp _ _ _ hlen Ht (.inl (.inr ⟨_, Ha⟩)))
    · by_cases y : b = a
      · rw [y]
        exact .inr (.inr ⟨_, _, Ha⟩)
      · by_cases hb : ∃ p ∈ cs, p.2 = b
        · exact .inr (.inl hb)
        · exact .inl ((Hn b y).trans (at0 b hb))
    · by_cases y : b = a
      · subst y
        rw [Ha] at z
        cases z
        exact ⟨hobj, by rw [List.length_map]; exact Nat.le_trans hlen hn2, vs, _, rv, hobj⟩
      · rw [Hn b y] at z
        by_cases hb : ∃ p ∈ cs, p.2 = b
        · rw [at1 b hb] at z
          cases z
          obtain ⟨p, hp, rfl⟩ := hb
          exact tE p hp
        · rw [at0 b hb] at z
          cases z
    · by_cases y : b = a
      · exact .inl y
      · rw [Hn b y] at z
        by_cases hb : ∃ p ∈ cs, p.2 = b
        · exact .inr hb
        · exact absurd (at0 b hb) z

/-! ### a def of the text with its code object -/
structure DfC (K : PySem.W.Frag) (mg : Str → Option Value) (x : Str) (st : Stmt) (ps : List Str) (c : Addr) : Prop where
  ex : ∃ (f : Addr) (oc kV doc pm ct : Value) (od an : Option Addr) (osl : Array (Option Value)), K.lookup f = some ⟨oc, od, .func (PySem.W.fnOf x x (defArgs st) (defBody st) (defScope st) .none kV doc pm an (.ref c) ct), osl⟩ ∧ PySem.W.codeIn K (.ref c) x = true ∧
    PySem.W.keepIn K (.ref f) = true ∧ mg x = some (.ref f) ∧ Binds K (PySem.W.fnOf x x (defArgs st) (defBody st) (defScope st) .none kV doc pm an (.ref c) ct) ps []
section
variable {P : Program} {w : World} {K : PySem.W.Frag} {mg : Str → Option Value} {base : Heap} {k : Nat} {x : Str} {ps N : List Str} {sp : Sp} {st : Stmt} {c : Addr}
theorem DfC.has (D : DfC K mg x st ps c) (S : FnScope N ps (defScope st)) (len : ∀ vs H Q E, sp vs H Q E → vs.length = ps.length)
    (bd : ∀ (f : Addr) (A : Around) (outer : List Env) (s : Shared) (H : Hp) (vs : List V) (Q : VK) (E : XK), A.guards = some [] → Room k (A.deeper (envOfC x (defScope st) s.heap.objs.size f (.ref c))) → sp vs H Q E →
      ∃ t, PSs (cxOf CX0 P w K mg base N x (defScope st) f (.ref c) A outer s H E).nox (defBody st) t ∧ t { nx := fun _ H' => Q .non H', rt := Q } (start N vs) H) :
    Has P w K mg base (k + 1) x ps sp := by
  obtain ⟨f, oc, kV, doc, pm, ct, od, an, osl, lk, hcd, kp, m, b⟩ := D.ex
  refine ⟨f, _, m, kp, b, len, ?_⟩
  intro A outer s H args us vs Q E gd hr e0 hb r hsp
  have kin : K.In s.heap := e0.mod.kin.keeps fun b o e => (e0.bs b o e).1
  have nol : s.heap.NoLimit := e0.mod.nolimit.keeps fun b o e => (e0.bs b o e).1
  have kinds : ∀ y ∈ ps.zip us, (defScope st).names.lookup y.1 = some .local ∨ ((defScope st).names.lookup y.1 = some .cell ∧ ((cellsFrom (s.heap.objs.size + 1) (defScope st).names []).lookup y.1).isSome = true) := by
    rintro ⟨n, v⟩ hy
    rcases S.par n (List.of_mem_zip hy).1 with q | q
    · exact .inl q
    · exact .inr ⟨q, PySem.W.cellsFrom_some _ _ _ (.inl q)⟩
  refine codeAny_call_function hr.depth (kin _ _ lk) rfl S.co S.gen rfl (PySem.W.codeRec_of kin hcd) (hb _ _ _ _ (wpAny_newFunctionEnv_cells S.kind kinds ?_))
  intro env he s1 x
  subst he
  refine ⟨nol.keeps x.toInCall.keep, codeAny_func ?_⟩
  obtain ⟨t, ht, hq⟩ := bd f A outer s H vs Q E gd (hr.deeper _) hsp
  have I : Inv (cxOf CX0 P w K mg base N _ (defScope st) f (.ref c) A outer s H E) [] (start N vs) H s1 := inv_start S hr.hd e0 (len _ _ _ _ hsp) r x
  refine wpAny_mono (ht.nox.run [] s1 (start N vs) H _ I hq) ?_ (fun _ _ z => z)
  intro fl s' hs
  cases fl with
  | brk => exact hs.elim fun _ z => z.elim fun _ z => z.2.elim
  | cont => exact hs.elim fun _ z => z.elim fun _ z => z.2.elim
  | next =>
    obtain ⟨σ', H', J, q⟩ := hs
    exact ⟨V.non, H', J.os, J.bare, J.base, J.hok, rfl, q⟩
  | ret u =>
    obtain ⟨v, σ', H', J, rv, q⟩ := hs
    exact ⟨v, H', J.os, J.bare, J.base, J.hok, rv, q⟩
end
/-! ### x(lambda: ..), x a def of the text: what the lambda lets out is taken where the state is known -/
section
variable {X : Cx} {pins : List (Addr × Obj)} {σ : L2.St} {H : Hp} {s : Shared}
open LamX in
theorem act_at {CXg : CXT} {Eg : XK} {Ng : List Str} {qg : Str} {sg : Scope} {g f co : Addr} {cdg pm ctv : Value} {params : Arguments} {body : Expr} {scope : Scope} {k i : Nat} {a : Str} {pn : List (Addr × Obj)} {xe : Value → Shared → Prop} {W : WX} {E : XK} {tb : TE} {p1 p2 : Pos}
    (I : Inv X pins σ H s) (L : LamS X.env.scope scope) (of : s.heap.get? f = some (PySem.W.kla_obj "<lambda>" (X.env.qual ++ "<lambda>") params body scope (cloFrom X.env.cells scope.names []) pm co ctv)) (nf : H f = none) (ff : f ∉ frs X.stack)
    (hb : bindArgs (PySem.W.kla_fn "<lambda>" (X.env.qual ++ "<lambda>") params body scope (cloFrom X.env.cells scope.names []) pm (.ref co) ctv) ⟨[], []⟩ = pure [])
    (tk : Takes ((cxOf CXg X.prog X.w X.K X.mg X.base Ng qg sg g cdg X.A X.stack s H Eg).tr pn xe) W) (hr : Room (k + 1) (X.A.deeper (envOfC qg sg s.heap.objs.size g cdg)))
    (bd : ∀ (A : Around) (outer : List Env) (s : Shared) (H : Hp), Room k (A.deeper (lamEnv X scope s.heap.objs.size f co)) → PE (lamCx X A outer s H E scope f co) body tb)
    (hN : Ng[i]? = some a) (hv : Vis sg a) (hd : (a == ("__debug__" : Str)) = false) (hcd : (a == ("__classdict__" : Str)) = false) :
    PE ((cxOf CXg X.prog X.w X.K X.mg X.base Ng qg sg g cdg X.A X.stack s H Eg).tr pn xe) (.Call (.Name a p1) [] [] p2)
      (fun σZ HZ Q => σZ[i]? = some (some (.ref f)) ∧ HZ co = some (CodeO co (X.env.qual ++ "<lambda>")) ∧ (∀ cls d H', E cls d H' → W cls d σZ H') ∧ tb σ HZ Q) := by
  refine ⟨fun pz sz σZ HZ Q IZ hq => ?_⟩
  obtain ⟨q1, q2, q3, q4⟩ := hq
  refine wpAny_Call_Name_kw (thn ((pe_var (pos := p1) (i := i) hN hv hd hcd).run pz sz σZ HZ (fun v J => v = .ref f ∧ J = HZ) IZ ⟨.ref f, q1, rfl, rfl⟩) fun u s2 z => ?_)
  obtain ⟨v, J, I2, r2, rfl, rfl⟩ := z
  obtain rfl : u = Value.ref f := r2
  have of2 : s2.heap.get? f = some (PySem.W.kla_obj "<lambda>" (X.env.qual ++ "<lambda>") params body scope (cloFrom X.env.cells scope.names []) pm co ctv) :=
    I2.base.keep f _ of nf ff fun z => nomatch (show f ∈ ([] : List Addr) from z)
  refine PySem.W.callWith_F0 ⟨_, _, _, _, of2⟩ ?_
  obtain ⟨⟨oc, us, t, hoc, hdc, hvc⟩, _, _⟩ := I2.hok co _ q2
  have go : codeAny (model X.prog X.w) (X.A.deeper (envOfC qg sg s.heap.objs.size g cdg)) (.call (.ref f) ⟨[], []⟩) (CR (L2.CX X.prog X.w) (envOfC qg sg s.heap.objs.size g cdg :: X.stack) X.prog X.w J s2 Q E) s2 := by
    refine PySem.W.kla_callFunE hr.depth of2 rfl L.co L.gen rfl ⟨co, oc, us, t, rfl, hoc, hdc, hvc⟩ ?_
    rw [hb]
    refine wpAny_pure (wpAny_newFunctionEnv (fun y hy => (L.own y hy).2) (fun y hy => nomatch hy) (fun h₂ ns2 st2 => ⟨I2.nolimit.fresh _ st2, ?_⟩) L.kind)
    show codeAny _ _ (.expr body (lamEnv X scope s2.heap.objs.size f co)) _ _
    have kp : ∀ b o, s2.heap.get? b = some o → h₂.get? b = some o := fun b o e => st2.extBut b o (Nat.ne_of_lt (Heap.lt_size e)) (Heap.get?_push_of_some _ e)
    have start : Inv (lamCx X (X.A.deeper (envOfC qg sg s.heap.objs.size g cdg)) (envOfC qg sg s.heap.objs.size g cdg :: X.stack) s2 J E scope f co) [] σ J { s2 with heap := h₂, toks := s2.toks + ([] : List (Str × Value)).length } := lam_start2 I L I2.env0 hr.hd I2.base ns2 kp
    refine PySem.W.kla_codeExpr (wpAny_mono ((bd _ _ s2 J (hr.deeper _)).run [] _ _ J Q start q4) (fun v s3 z => ?_) fun _ _ z => z)
    obtain ⟨y, J3, I3, r3, z3⟩ := z
    exact ⟨y, J3, I3.os, I3.bare, I3.base, I3.hok, r3, z3⟩
  refine wpAny_call (codeAny_mono go fun r s3 z => ?_)
  cases r with
  | ok fl =>
    cases fl with
    | ret u => exact I2.after z
    | _ => exact z.elim
  | error e => exact tk e s3 (XE.of_call I2 (fun cls d H' h => q3 cls d H' h) z)
/-- the def that got a lambda and calls it by the name a -/
def GivesAt (X : Cx) (Ng : List Str) (x : Str) (sg : Scope) (g : Addr) (cdg : Value) (bg : List Stmt) (a : Str) (q : Str) (TT : (XK → Hp → VK → Prop) → Hp → VK → Prop) : Prop :=
  ∀ (f co : Addr) (s : Shared) (H : Hp) (Q : VK) (tl : XK → Hp → VK → Prop),
    (∀ (W : WX) (pn : List (Addr × Obj)) (xe : Value → Shared → Prop) (E : XK) (p1 p2 : Pos), Takes ((cxOf CX0 X.prog X.w X.K X.mg X.base Ng x sg g cdg X.A X.stack s H E0).tr pn xe) W →
      PE ((cxOf CX0 X.prog X.w X.K X.mg X.base Ng x sg g cdg X.A X.stack s H E0).tr pn xe) (.Call (.Name a p1) [] [] p2) (fun σZ HZ Q => σZ[0]? = some (some (.ref f)) ∧ HZ co = some (LamX.CodeO co q) ∧ (∀ cls d H', E cls d H' → W cls d σZ H') ∧ tl E HZ Q)) →
    H co = some (LamX.CodeO co q) → TT tl H Q →
    ∃ t, PSs (cxOf CX0 X.prog X.w X.K X.mg X.base Ng x sg g cdg X.A X.stack s H E0).nox bg t ∧ t { nx := fun _ H' => Q .non H', rt := Q } (start Ng [.ref f]) H
open LamX in
theorem pe_lam {T : List (Addr × Str)} {TT : (XK → Hp → VK → Prop) → Hp → VK → Prop} {x a : Str} {st : Stmt} {c Pt : Addr} {k : Nat} {Ng : List Str} {params : Arguments} {body : Expr} {scope : Scope} {t : XK → TE} {p lpos pos : Pos} (D : Df X.K X.mg x st [a])
    (hG : ∀ (g : Addr) (cdg : Value), GivesAt X Ng x (defScope st) g cdg (defBody st) a (X.env.qual ++ "<lambda>") TT) (hg : Gl X x) (Sg : FnScope Ng [a] (defScope st)) (hNg : Ng[0]? = some a) (hva : Vis (defScope st) a)
    (TB : TabB X.base X.mg c Pt) (hcode : X.env.code = .ref c) (hmT : (Pt, X.env.qual ++ "<lambda>") ∈ T) (hu : ∀ p ∈ T, p.1 = Pt → p.2 = X.env.qual ++ "<lambda>") (hr : Room (k + 2) X.A) (L : LamS X.env.scope scope) (hdef : defaultsOf params X.env = ([], []))
    (hbind : ∀ (q : Str) (cl : List (Str × Addr)) (pm cv ctv : Value), bindArgs (PySem.W.kla_fn "<lambda>" q params body scope cl pm cv ctv) ⟨[], []⟩ = pure [])
    (hbody : ∀ (A : Around) (outer : List Env) (s : Shared) (H : Hp) (E : XK) (f co : Addr), Room k (A.deeper (lamEnv X scope s.heap.objs.size f co)) → PE (lamCx X A outer s H E scope f co) body (t E))
    (hdb : (x == ("__debug__" : Str)) = false := by decide) (hd : (a == ("__debug__" : Str)) = false := by decide) (hcd : (a == ("__classdict__" : Str)) = false := by decide) :
    PE X (.Call (.Name x p) [.Lambda params body scope lpos] [] pos) (tLam T TT t) := by
  obtain ⟨g, fd, F, m, b⟩ := D.ex
  obtain ⟨oc, od, kV, doc, pm, an, cdv, ct, osl, efd, lk, hcd'⟩ := F.ex
  subst efd
  refine ⟨fun pz sz σz Hz Q I hq => ?_⟩
  obtain ⟨hT, hq⟩ := hq
  refine wpAny_Call_Name_kw (ld_glob I hg m ?_ hdb)
  refine PySem.W.callWith_K (h₀ := X.base) I.ok.mod.kin F.kp ?_ (by rfl) (by rfl)
  show wpAny _ _ (spliced ((false, eval (.Lambda params body scope lpos) X.env) :: backTo pos (starEach [] X.env))) _ _ sz
  refine Calls.spliced_cons (lam_make2 I TB hcode hmT hu hT hdef (L.has I.ok) fun f co pm' ctv H1 s1 I1 eN T1 of nf ff hco => ?_)
  refine Calls.spliced_nil ⟨I1.kIn, ?_⟩
  have go : codeAny (model X.prog X.w) X.A (.call (.ref g) ⟨[.ref f], []⟩) (CR CX0 X.stack X.prog X.w H1 s1 Q E0) s1 := by
    refine run_ofS (N := Ng) (ps := [a]) (us := [.ref f]) (vs := [.ref f]) lk hcd' Sg hr I1.env0 (b s1 [.ref f] I1.kIn rfl) (.cons rfl .nil) rfl fun hr1 => ?_
    obtain ⟨t1, ht1, q1⟩ := hG g cdv f co s1 H1 Q (fun E H' Q' => t E σz H' Q') (fun W pn xe E p1 p2 tk => act_at (i := 0) I1 L of nf ff (hbind _ _ _ _ _) tk hr1 (fun A outer s H hr2 => hbody A outer s H E f co hr2) hNg hva hd hcd) hco (hq H1 eN T1)
    exact ⟨t1, ht1.nox, q1⟩
  refine wpAny_call (codeAny_mono go fun r s2 z => ?_)
  cases r with
  | ok fl =>
    cases fl with
    | ret u => exact I1.after z
    | _ => exact z.elim
  | error e => exact (show False from z).elim
end
section
variable {X : Cx}
/-- isinstance(e, (c1, c2, ..)), e a kept exception -/
def rIsKT (K : PySem.W.Frag) : List V → Hp → VK → Prop := fun xs H Q => ∃ (a D dd tp : Addr) (fs : List (Str × V)) (cs : List V) (us : List Value) (b : Bool), xs = [.ref a, .ref tp] ∧ H a = some (ExK (.ref D) (some dd) a) ∧ H dd = some (.xd fs) ∧ ExcC K D ∧ H tp = some (.tup cs) ∧
  Paired ClsV cs us ∧ PySem.W.kitAny K (.ref D) us = some b ∧ Q (.bl b) H
theorem call_isKT : CallR X (.builtin "isinstance") (rIsKT X.K) := by
  intro pins s σ H xs us Q I r h
  obtain ⟨a, D, dd, tp, fs, cs, ws, b, rfl, ha, hdd, C, hT, k, e, q⟩ := h
  obtain ⟨u1, u2, rfl, r1, r2⟩ := vals2 r
  cases (show u1 = Value.ref a from r1)
  cases (show u2 = Value.ref tp from r2)
  obtain ⟨ox, od, mA, J, _⟩ := keptE I ha hdd
  obtain ⟨_, its, rv, o, h1, h2, n, h3⟩ := (show ObjOk X.prog X.w H s.heap tp (.tup cs) from I.hok tp _ hT)
  have e3 := ClsV.all k rv
  subst e3
  obtain ⟨oc, od', dt, sl⟩ := o
  simp only at h2 h3
  subst h2 h3
  exact PySem.W.kia_tup (kitxE C) I.kIn J h1 e (fun z => nomatch z) fun tk => ⟨.bl b, H, I.tok tk, rfl, q⟩
/-- x[i] by the class's own method, which may let an error out -/
def rOwnAX (C : Addr) (sp : Sp) (E : XK) : R2 := fun x y H Q => ∃ p dx fs, x = .ref p ∧ H p = some (.ins C dx fs) ∧ sp [.ref p, y] H Q E
theorem pe_ixOX {E : XK} {k : Nat} {f C : Addr} {sp : Sp} {a b : Expr} {ta tb : TE} {pos : Pos} (m : OwnOp X.K C f "__getitem__") (fi : PySem.W.fnIn X.K f = true) (FF : FnR X.prog X.w X.K X.mg X.base (L2.CX X.prog X.w) k f sp) (hr : Room (k + 1) X.A) (hx : Passes (L2.CX X.prog X.w) X E) (ha : PE X a ta) (hb : PE X b tb)
    (hs : ∀ o i, subscripted b true o i = runValue (.builtin "lifetime.subscript" ⟨[o, i], []⟩)) : PE X (.Subscript a b pos) (tOp (rOwnAX C sp E) ta tb) := by
  refine ⟨fun pins s σ H Q I h => ?_⟩
  refine Subscript_ (binT ha hb I h fun v u s2 x y H2 I2 rx ry q => ?_)
  obtain ⟨p, dx, fs, rfl, hp, q⟩ := q
  cases rx
  obtain ⟨oa, da, Ja⟩ := ins_inst I2 hp
  obtain ⟨mm, hF⟩ := I2.fr
  refine PySem.W.sub_K hF I2.ok.mod.kin Ja m.at_ fi m.fn ?_ (hs _ _)
  refine wpAny_call (codeAny_mono (FF X.A.in1 X.stack s2 H2 [.ref p, u] [.ref p, y] _ E hr.in1 I2.env0.in1 (.cons rfl (.cons ry .nil)) q) ?_)
  intro r s' z
  cases r with
  | error e => exact hx pins σ H2 s2 e s' I2 z
  | ok fl =>
    cases fl with
    | ret u => exact I2.after z
    | _ => exact z.elim
end
theorem fnR_okX {P : Program} {w : World} {K : PySem.W.Frag} {mg : Str → Option Value} {base : Heap} {CX : CXT} {k : Nat} {f : Addr} {fd : FuncData} {ps : List Str} {sp : Sp} (F : FnOk P w K mg base CX k f fd ps sp) (b : Binds K fd ps []) : FnR P w K mg base CX k f sp := by
  intro A outer s H us vs Q E hr e0 r h
  have hl : us.length = ps.length := r.length.symm.trans (F.len _ _ _ _ h)
  have kin : K.In s.heap := e0.mod.kin.keeps fun b o e => (e0.bs b o e).1
  have hb := b s us kin (by rw [List.append_nil]; exact hl)
  rw [List.append_nil] at hb
  exact F.run A outer s H ⟨us, []⟩ us vs Q E hr e0 hb r h
/-- f(), f a def of the text -/
theorem pe_has0 {X : Cx} {k : Nat} {x : Str} {sp : Sp} {p pos : Pos} (h : Has X.prog X.w X.K X.mg X.base k x [] sp) (hg : X.A.guards = some []) (hr : Room k X.A) (gx : Gl X x) (hdb : (x == ("__debug__" : Str)) = false := by decide) : PE X (.Call (.Name x p) [] [] pos) (tCall sp [] E0 tNil) := by
  obtain ⟨f, fd, m, kp, b, F⟩ := h
  refine ⟨fun pins s σ H Q I q => ?_⟩
  refine wpAny_Call_Name_kw (ld_glob I gx m ?_ hdb)
  have hb := b s [] I.kIn rfl
  refine PySem.W.callWith_K0 I.kIn kp (wpAny_call (codeAny_mono (F.run X.A X.stack s H ⟨[], []⟩ [] [] Q E0 hg hr I.env0 hb .nil q) ?_))
  intro res s' z
  cases res with
  | error e => exact z.elim
  | ok fl =>
    cases fl with
    | ret u => exact I.after z
    | _ => exact z.elim
/-- all but what stands at a, and the tables, is as it was -/
def ButT (a : Addr) (H H' : Hp) : Prop := ∀ b o, H b = some o → b ≠ a → (∀ ps, o ≠ .tbl ps) → H' b = some o
theorem ButT.refl {a : Addr} {H : Hp} : ButT a H H := fun _ _ e _ _ => e
theorem ButT.trans {a : Addr} {H H1 H2 : Hp} (x : ButT a H H1) (y : ButT a H1 H2) : ButT a H H2 := fun c o e n t => y c o (x c o e n t) n t
theorem ButT.ext {a : Addr} {H H' : Hp} (x : ExtN H H') : ButT a H H' := fun b o e _ t => x b o e t
theorem ButT.same {a : Addr} {H H' : Hp} (x : Same H H') : ButT a H H' := fun b o e _ _ => x b o e
end Rk
namespace Rk
open PySem PySem.Spec PyProof.Rows L2 TL

/-! ### numbers as texts -/
def num (n : Nat) : Str := Str.ofString (toString ((n : Nat) : Int))
theorem tl_nm (n : Nat) : tl (num n) = numL n := tl_num n
/-- so many figures -/
def padL : Nat → Nat → List Nat
  | 0, _ => []
  | k + 1, r => padL k (r / 10) ++ [48 + r % 10]
theorem padL_len : ∀ k r : Nat, (padL k r).length = k
  | 0, _ => rfl
  | k + 1, r => by
    show (padL k (r / 10) ++ [48 + r % 10]).length = _
    rw [List.length_append, padL_len k]
    rfl
theorem padL_zero : ∀ k : Nat, padL k 0 = List.replicate k 48
  | 0 => rfl
  | k + 1 => by
    show padL k (0 / 10) ++ [48 + 0 % 10] = _
    rw [Nat.zero_div, padL_zero k, List.replicate_succ']
theorem numL_pad : ∀ (k q r : Nat), 0 < q → r < 10 ^ k → numL (q * 10 ^ k + r) = numL q ++ padL k r
  | 0, q, r, h, hr => by
    obtain rfl : r = 0 := by simp at hr; omega
    show numL (q * 1 + 0) = numL q ++ []
    rw [Nat.mul_one, Nat.add_zero, List.append_nil]
  | k + 1, q, r, h, hr => by
    have e : 10 ^ (k + 1) = 10 * 10 ^ k := by rw [Nat.pow_succ, Nat.mul_comm]
    have p : 0 < 10 ^ k := Nat.pow_pos (by decide)
    have e2 : q * 10 ^ (k + 1) = 10 * (q * 10 ^ k) := by rw [e, Nat.mul_left_comm]
    have g : 10 ≤ q * 10 ^ (k + 1) + r := by
      have : 1 ≤ q * 10 ^ k := Nat.mul_pos h p
      omega
    rw [numL_step g, show (q * 10 ^ (k + 1) + r) / 10 = q * 10 ^ k + r / 10 by omega, show (q * 10 ^ (k + 1) + r) % 10 = r % 10 by omega, numL_pad k q (r / 10) h (by omega), List.append_assoc]
    rfl
theorem padL_num : ∀ (k r : Nat), 0 < k → r < 10 ^ k → padL k r = List.replicate (k - (numL r).length) 48 ++ numL r
  | 0, r, h, _ => absurd h (by decide)
  | k + 1, r, _, hr => by
    show padL k (r / 10) ++ [48 + r % 10] = _
    have e : 10 ^ (k + 1) = 10 * 10 ^ k := by rw [Nat.pow_succ, Nat.mul_comm]
    by_cases c : r < 10
    · rw [numL_lt c, Nat.div_eq_of_lt c, Nat.mod_eq_of_lt c, padL_zero]
      rfl
    · have k1 : 0 < k := by
        rcases k with _ | k
        · simp at hr; omega
        · omega
      rw [numL_step (by omega), padL_num k (r / 10) k1 (by omega), List.length_append, List.append_assoc]
      rw [show (k + 1) - ((numL (r / 10)).length + [48 + r % 10].length) = k - (numL (r / 10)).length by simp only [List.length_cons, List.length_nil]; omega]
theorem num_len (n : Nat) : (num n).length = (numL n).length := by rw [len_tl, tl_nm]
theorem num_inj {m n : Nat} (h : num m = num n) : m = n := numL_inj (by rw [← tl_nm, ← tl_nm, h])
theorem num_head (n : Nat) : ∃ d, (num n).cps[0]? = some d ∧ 48 ≤ d ∧ d ≤ 57 := by
  obtain ⟨d, t, e⟩ : ∃ d t, numL n = d :: t := by
    cases h : numL n with
    | nil => exact absurd h (numL_ne n)
    | cons d t => exact ⟨d, t, rfl⟩
  have d0 := numL_digits n d (by rw [e]; exact List.mem_cons_self ..)
  refine ⟨d, ?_, d0.1, d0.2⟩
  rw [← Array.getElem?_toList]
  show (tl (num n))[0]? = _
  rw [tl_nm, e]
  rfl
theorem tl_zfill {r : Nat} (h : r < 10 ^ 18) : tl (Txt.zfill (num r) 18) = padL 18 r := by
  have len := num_len r
  have le := numL_len (k := 18) (by decide) h
  rw [padL_num 18 r (by decide) h]
  unfold Txt.zfill
  by_cases c : (18 : Int) ≤ (num r).length
  · rw [if_pos c, tl_nm, show 18 - (numL r).length = 0 by omega]
    rfl
  · rw [if_neg c]
    obtain ⟨d, g, d0, d1⟩ := num_head r
    unfold zfilled
    rw [g]
    have e : tl (Builtin.Str.padded (num r) ((18 : Int).toNat - (num r).length) 0 48) = List.replicate (18 - (numL r).length) 48 ++ numL r := by
      rw [len]
      show (Array.replicate (18 - (numL r).length) 48 ++ (num r).cps ++ Array.replicate 0 48).toList = _
      simp only [Array.toList_append, Array.toList_replicate]
      show List.replicate _ 48 ++ tl (num r) ++ [] = _
      rw [List.append_nil, tl_nm]
    split
    · next q => cases q; omega
    · next q => cases q; omega
    · exact e
theorem num_decimal (n : Nat) : Txt.isdecimal (num n) = true := by
  have dd : ∀ d, d < 10 → Unicode.isDecimal (48 + d) = true := by decide +kernel
  unfold Txt.isdecimal
  rw [Bool.and_eq_true]
  constructor
  · rw [num_len]
    have := List.length_pos_iff.mpr (numL_ne n)
    exact decide_eq_true this
  · rw [← Array.all_toList]
    show (tl (num n)).all Unicode.isDecimal = true
    rw [tl_nm]
    refine List.all_eq_true.mpr fun c hc => ?_
    have d := numL_digits n c hc
    have e := dd (c - 48) (by omega)
    rw [show 48 + (c - 48) = c by omega] at e
    exact e
theorem sum_len (ps : List Str) : (ps.map (·.length)).sum = (ps.map tl).flatten.length := by
  rw [List.length_flatten, List.map_map]
  congr 1
theorem joinL_nil : ∀ ps : List (List Nat), joinL [] ps = ps.flatten
  | [] => rfl
  | [p] => by simp [joinL]
  | p :: q :: r => by
    show p ++ ([] ++ joinL [] (q :: r)) = _
    rw [joinL_nil (q :: r)]
    rfl
theorem tl_joinE (ys : List Str) : tl (Txt.join "" ys) = (ys.map tl).flatten := by
  rw [join_eq, tl_join, show tl ("" : Str) = [] from rfl, joinL_nil]
theorem int_nm {n : Nat} (h : n ≤ 10 ^ 18) : intText? (num n) = some (n : Int) := int_num (Nat.le_trans (numL_len (k := 19) (by decide) (by omega)) (by decide))
theorem num_short {n : Nat} (h : n ≤ 10 ^ 18) : (num n).length ≤ 19 := by
  rw [num_len]
  exact numL_len (by decide) (by omega)
/-! ### lives as words -/
def dash : Str := "-"
def wordO : Option Int → Str
  | none => dash
  | some i => num i.toNat
theorem word_free (o : Option Int) : (32 : Nat) ∉ tl (wordO o) := by
  cases o with
  | none => decide
  | some i =>
    show (32 : Nat) ∉ tl (num i.toNat)
    rw [tl_nm]
    exact numL_free (.inl (by decide))
theorem num_dash (n : Nat) : num n ≠ dash := fun h => by
  obtain ⟨d, g, d0, d1⟩ := num_head n
  rw [h] at g
  have : d = 45 := by cases g; rfl
  omega
theorem words_back {ls : List (Option Int)} (h : ls ≠ []) : Txt.split (Txt.join " " (ls.map wordO)) " " = ls.map wordO :=
  split_join (y := " ") (s := 32) (S := []) rfl (by decide +kernel) (fun z => h (List.map_eq_nil_iff.mp z)) fun p hp => by
    obtain ⟨o, _, rfl⟩ := List.mem_map.mp hp
    exact word_free o
end Rk
namespace Rk
open PySem PySem.Spec PyProof.Rows L2 TL NumText

/-! ### words of any signs below 128, read as numbers -/
theorem head_app {l m : List Nat} (h : l ≠ []) : (l ++ m).head? = l.head? := by
  cases l with
  | nil => exact absurd rfl h
  | cons a t => rfl
theorem val_snoc (l : List Nat) (c : Nat) : digitsVal (l ++ [c]) = digitsVal l * 10 + (c - 48) := by
  unfold digitsVal
  rw [List.foldl_append]
  rfl
theorem numL_head {n : Nat} : (numL n).head? = some 48 → n = 0 := by
  induction n using Nat.strongRecOn with
  | _ n ih =>
    intro h
    by_cases c : n < 10
    · rw [numL_lt c] at h
      have : 48 + n = 48 := Option.some.inj h
      omega
    · rw [numL_step (by omega)] at h
      have z := numL_ne (n / 10)
      rw [head_app z] at h
      have := ih (n / 10) (by omega) h
      omega
/-- no zero in front, or the zero alone -/
def Led (l : List Nat) : Prop := l.head? ≠ some 48 ∨ l = [48]
theorem numL_led (n : Nat) : Led (numL n) := by
  by_cases c : (numL n).head? = some 48
  · right
    rw [numL_head c]
    rfl
  · exact .inl c
theorem numL_back : ∀ (k : Nat) (l : List Nat), l.length = k → AllDigits l → l ≠ [] → Led l → numL (digitsVal l) = l
  | 0, l, hk, _, hne, _ => absurd (List.length_eq_zero_iff.mp hk) hne
  | k + 1, l, hk, hd, hne, hl => by
    obtain ⟨i, c, rfl⟩ : ∃ i c, l = i ++ [c] := ⟨l.dropLast, l.getLast hne, (List.dropLast_concat_getLast hne).symm⟩
    have hc := hd c (List.mem_append_right _ (List.mem_singleton.mpr rfl))
    have hi : AllDigits i := fun x hx => hd x (List.mem_append_left _ hx)
    rw [val_snoc]
    by_cases e : i = []
    · subst e
      show numL (0 * 10 + (c - 48)) = [c]
      rw [numL_lt (by omega)]
      congr 1
      omega
    · have h1 : (i ++ [c]).head? = i.head? := head_app e
      have hne48 : i.head? ≠ some 48 := fun z => by
        rcases hl with hl | hl
        · exact hl (h1.trans z)
        · have q := congrArg List.length hl
          rw [List.length_append] at q
          have : i.length = 0 := by simpa using q
          exact e (List.length_eq_zero_iff.mp this)
      have ih := numL_back k i (by rw [List.length_append] at hk; simpa using hk) hi e (.inl hne48)
      have hv : 0 < digitsVal i := by
        rcases Nat.eq_zero_or_pos (digitsVal i) with z | z
        · rw [z] at ih
          exact absurd (by rw [← ih]; rfl) hne48
        · exact z
      rw [numL_step (by omega), show (digitsVal i * 10 + (c - 48)) / 10 = digitsVal i by omega, show (digitsVal i * 10 + (c - 48)) % 10 = c - 48 by omega, ih]
      congr 2
      omega
def digB (c : Nat) : Bool := decide (48 ≤ c) && decide (c ≤ 57)
theorem all_dig {l : List Nat} : l.all digB = true ↔ AllDigits l := by
  constructor
  · intro h c hc
    have z := List.all_eq_true.mp h c hc
    unfold digB at z
    rw [Bool.and_eq_true, decide_eq_true_iff, decide_eq_true_iff] at z
    exact z
  · intro h
    refine List.all_eq_true.mpr fun c hc => ?_
    have z := h c hc
    unfold digB
    rw [decide_eq_true z.1, decide_eq_true z.2]
    rfl
def Ascii (w : Str) : Prop := ∀ c ∈ tl w, c < 128
theorem dec_dig : ∀ c, c < 128 → Unicode.isDecimal c = digB c := by decide +kernel
theorem isdec_ascii {w : Str} (h : Ascii w) : Txt.isdecimal w = (decide (0 < (tl w).length) && (tl w).all digB) := by
  unfold Txt.isdecimal
  rw [← Array.all_toList, len_tl]
  congr 1
  rw [Bool.eq_iff_iff, List.all_eq_true, List.all_eq_true]
  exact ⟨fun z c hc => by rw [← dec_dig c (h c hc)]; exact z c hc, fun z c hc => by rw [dec_dig c (h c hc)]; exact z c hc⟩
/-- the number that a word writes, if any -/
def rdN (w : Str) : Option Nat := if (tl w).all digB = true ∧ tl w ≠ [] ∧ (tl w).length ≤ 19 ∧ digitsVal (tl w) ≤ 10 ^ 18 ∧ numL (digitsVal (tl w)) = tl w then some (digitsVal (tl w)) else none
theorem rdN_num {n : Nat} (h : n ≤ 10 ^ 18) : rdN (num n) = some n := by
  have l := num_short h
  rw [num_len] at l
  unfold rdN
  rw [tl_nm, numL_val, if_pos ⟨all_dig.mpr (numL_digits n), numL_ne n, l, h, rfl⟩]
theorem rdN_some {w : Str} {n : Nat} (h : rdN w = some n) : w = num n ∧ n ≤ 10 ^ 18 := by
  unfold rdN at h
  split at h
  · next c =>
    obtain ⟨_, _, _, h4, h5⟩ := c
    obtain rfl := Option.some.inj h
    exact ⟨ext_tl (by rw [tl_nm, h5]), h4⟩
  · cases h
/-! ### the words of any text -/
theorem spl_sub : ∀ (L acc : List Nat), ∀ p ∈ spl [32] 0 acc L, ∀ c ∈ p, c ∈ acc ∨ c ∈ L
  | [], acc, p, hp, c, hc => by
    rw [spl_nil] at hp
    rw [List.mem_singleton.mp hp] at hc
    exact .inl hc
  | x :: r, acc, p, hp, c, hc => by
    cases h : pre [32] (x :: r) with
    | true =>
      rw [spl_hit h] at hp
      rcases List.mem_cons.mp hp with e | hp
      · rw [e] at hc
        exact .inl hc
      · rcases spl_sub r [] p hp c hc with z | z
        · cases z
        · exact .inr (List.mem_cons_of_mem _ z)
    | false =>
      rw [spl_miss h] at hp
      rcases spl_sub r (acc ++ [x]) p hp c hc with z | z
      · rcases List.mem_append.mp z with z | z
        · exact .inl z
        · rw [List.mem_singleton.mp z]
          exact .inr (List.mem_cons_self ..)
      · exact .inr (List.mem_cons_of_mem _ z)
theorem spl_len : ∀ (L acc : List Nat), (spl [32] 0 acc L).length ≤ L.length + 1 ∧ ∀ p ∈ spl [32] 0 acc L, p.length ≤ acc.length + L.length
  | [], acc => by
    rw [spl_nil]
    exact ⟨Nat.le_refl _, fun p hp => by rw [List.mem_singleton.mp hp]; exact Nat.le_refl _⟩
  | x :: r, acc => by
    cases h : pre [32] (x :: r) with
    | true =>
      rw [spl_hit h]
      obtain ⟨a, b⟩ := spl_len r []
      refine ⟨Nat.succ_le_succ a, fun p hp => ?_⟩
      rcases List.mem_cons.mp hp with e | hp
      · rw [e]
        exact Nat.le_add_right _ _
      · have := b p hp
        simp only [List.length_nil, List.length_cons] at this ⊢
        omega
    | false =>
      rw [spl_miss h]
      obtain ⟨a, b⟩ := spl_len r (acc ++ [x])
      refine ⟨Nat.le_succ_of_le a, fun p hp => ?_⟩
      have := b p hp
      rw [List.length_append] at this
      simp only [List.length_nil, List.length_cons] at this ⊢
      omega
theorem split_is (x : Str) : (Txt.split x " ").map tl = spl [32] 0 [] (tl x) := split_spl x " " (by decide) (kind_ok (by decide +kernel))
theorem split_ascii {x : Str} (h : Ascii x) : ∀ p ∈ Txt.split x " ", Ascii p := fun p hp c hc => by
  have m : tl p ∈ spl [32] 0 [] (tl x) := by rw [← split_is]; exact List.mem_map.mpr ⟨p, hp, rfl⟩
  rcases spl_sub (tl x) [] (tl p) m c hc with z | z
  · cases z
  · exact h c z
theorem split_len (x : Str) : (Txt.split x " ").length ≤ x.length + 1 ∧ ∀ p ∈ Txt.split x " ", p.length ≤ x.length := by
  obtain ⟨a, b⟩ := spl_len (tl x) []
  rw [← split_is, List.length_map, ← len_tl] at a
  refine ⟨a, fun p hp => ?_⟩
  have z := b (tl p) (by rw [← split_is]; exact List.mem_map.mpr ⟨p, hp, rfl⟩)
  rw [len_tl, len_tl]
  simpa using z
/-! ### strip(signs) leaves nothing -/
theorem drop_tw {α : Type} (g : α → Bool) : ∀ L : List α, L.drop (L.takeWhile g).length = L.dropWhile g
  | [] => rfl
  | a :: r => by
    by_cases c : g a = true
    · rw [List.takeWhile_cons_of_pos c, List.dropWhile_cons_of_pos c]
      exact drop_tw g r
    · rw [List.takeWhile_cons_of_neg c, List.dropWhile_cons_of_neg c]
      rfl
theorem tw_lt {α : Type} (g : α → Bool) : ∀ {L : List α} {a : α}, a ∈ L → g a = false → (L.takeWhile g).length < L.length
  | b :: r, a, h, hg => by
    by_cases c : g b = true
    · rw [List.takeWhile_cons_of_pos c]
      rcases List.mem_cons.mp h with e | h
      · rw [← e, hg] at c
        cases c
      · exact Nat.succ_lt_succ (tw_lt g h hg)
    · rw [List.takeWhile_cons_of_neg c]
      exact Nat.succ_pos _
theorem dw_nil {α : Type} (g : α → Bool) : ∀ {L : List α}, L.all g = true → L.dropWhile g = []
  | [], _ => rfl
  | a :: r, h => by
    rw [List.all_cons, Bool.and_eq_true] at h
    rw [List.dropWhile_cons_of_pos h.1]
    exact dw_nil g h.2
theorem dw_head {α : Type} (g : α → Bool) : ∀ {L : List α}, L.all g = false → ∃ a r, L.dropWhile g = a :: r ∧ g a = false
  | a :: r, h => by
    by_cases c : g a = true
    · rw [List.all_cons, c, Bool.true_and] at h
      rw [List.dropWhile_cons_of_pos c]
      exact dw_head g h
    · rw [List.dropWhile_cons_of_neg c]
      exact ⟨a, r, rfl, by simpa using c⟩
theorem strip_tl (g : Nat → Bool) (x : Str) : tl (Txt.stripBy g true true x) = ((tl x).dropWhile g).take (((tl x).dropWhile g).length - (((tl x).dropWhile g).reverse.takeWhile g).length) := by
  have lo : stripLo g true x = ((tl x).takeWhile g).length := rfl
  have hi : stripHi g true x (stripLo g true x) = x.length - (((tl x).dropWhile g).reverse.takeWhile g).length := by
    rw [← drop_tw]
    rfl
  have sub : tl (stripped g true true x) = ((tl x).dropWhile g).take (((tl x).dropWhile g).length - (((tl x).dropWhile g).reverse.takeWhile g).length) := by
    unfold stripped
    rw [tl_strSub, hi, lo, drop_tw]
    congr 1
    have e := congrArg List.length (drop_tw g (tl x))
    rw [List.length_drop] at e
    rw [len_tl]
    omega
  unfold Txt.stripBy
  by_cases c : stripSame g true true x = true
  · rw [if_pos c]
    unfold stripSame at c
    rw [Bool.and_eq_true, beq_iff_eq, beq_iff_eq] at c
    rw [← sub]
    unfold stripped
    rw [tl_strSub, c.2, c.1, List.drop_zero, len_tl, Nat.sub_zero, List.take_length]
  · rw [if_neg c]
    exact sub
theorem strip_nil (g : Nat → Bool) (x : Str) : Txt.stripBy g true true x = Str.empty ↔ (tl x).all g = true := by
  have em : Txt.stripBy g true true x = Str.empty ↔ tl (Txt.stripBy g true true x) = [] := ⟨fun h => by rw [h]; rfl, fun h => ext_tl h⟩
  rw [em, strip_tl]
  cases h : (tl x).all g with
  | true =>
    rw [dw_nil g h]
    exact ⟨fun _ => rfl, fun _ => rfl⟩
  | false =>
    obtain ⟨a, r, e, ha⟩ := dw_head g h
    rw [e]
    have lt := tw_lt g (L := (a :: r).reverse) (a := a) (by simp) ha
    rw [List.length_reverse] at lt
    refine ⟨fun z => ?_, fun z => by cases z⟩
    have q := congrArg List.length z
    rw [List.length_take] at q
    simp only [List.length_nil, List.length_cons] at q lt
    omega
theorem dig_in : ∀ c, c < 128 → ("0123456789" : Str).cps.contains c = digB c := by decide +kernel
theorem strip_dig {x : Str} (h : Ascii x) : Txt.stripChars x "0123456789" = "" ↔ (tl x).all digB = true := by
  refine (strip_nil _ x).trans ?_
  rw [List.all_eq_true, List.all_eq_true]
  exact ⟨fun z c hc => by rw [← dig_in c (h c hc)]; exact z c hc, fun z c hc => by rw [dig_in c (h c hc)]; exact z c hc⟩
/-- what is read of a word: a number, or -1 -/
def rdV (w : Str) : Int := match rdN w with
  | some n => ((n : Nat) : Int)
  | none => -1
/-- what is read of a word of a rule -/
def rdO (w : Str) : Option Int := if w = dash then none else some (rdV w)
end Rk
namespace Rk
open PySem PySem.Spec PyProof.Rows L2 TL
/-! ### text * number -/
theorem op_mul_str {X : Cx} : OpR X (binaryOp .Mult) (fun x y H Q => ∃ (a : Str) (i : Int), x = .str a ∧ y = .int i ∧ MulOk a i ∧ Q (.str (Txt.mul a i)) H) := by
  intro pins s σ H x y v u Q I rx ry h
  obtain ⟨a, i, rfl, rfl, hm, q⟩ := h
  obtain ⟨t, rfl⟩ := rx
  obtain ⟨t', rfl⟩ := ry
  exact PySem.SB.mul hm fun t2 k => ⟨.str _, H, I.tok k, ⟨t2, rfl⟩, q⟩
theorem mulOk_0 (a : Str) : MulOk a 0 := ⟨by decide, fun h => absurd (by decide) h, fun h => absurd (by decide) h⟩
theorem mulOk_1 (a : Str) : MulOk a 1 := ⟨by decide, fun _ h => (by simp at h), fun _ h => (by simp at h)⟩
theorem mul_0 (a : Str) : Txt.mul a 0 = Str.empty := rfl
theorem mul_1 (a : Str) : Txt.mul a 1 = a := by
  unfold Txt.mul
  rw [if_neg (by decide), if_pos (by simp)]
theorem mulOk_19 : MulOk "0" 19 := ⟨by decide, fun _ _ => by decide +kernel, fun _ _ => by decide +kernel⟩
theorem mul_19 : Txt.mul "0" 19 = "0000000000000000000" := by decide +kernel
/-! ### parts of texts and of words -/
theorem cutS_sub (z : Str) (lo hi : Option Int) : ∀ c ∈ tl (cutS z lo hi), c ∈ tl z := fun c hc => List.mem_of_mem_drop (List.mem_of_mem_take hc)
theorem cutS_ascii {z : Str} (h : Ascii z) (lo hi : Option Int) : Ascii (cutS z lo hi) := fun c hc => h c (cutS_sub z lo hi c hc)
theorem app_ascii {a b : Str} (ha : Ascii a) (hb : Ascii b) : Ascii (a ++ b) := fun c hc => by
  rw [tl_append] at hc
  rcases List.mem_append.mp hc with h | h
  · exact ha c h
  · exact hb c h
theorem len_app (a b : Str) : (a ++ b).length = a.length + b.length := by rw [len_tl, tl_append, List.length_append, ← len_tl, ← len_tl]
def wSz (ws : List Str) : Nat := (ws.map (·.length)).sum + ws.length
theorem wSz_app (a b : List Str) : wSz (a ++ b) = wSz a + wSz b := by
  unfold wSz
  rw [List.map_append, List.sum_append, List.length_append]
  omega
theorem wSz_sub {a b : List Str} (h : a.Sublist b) : wSz a ≤ wSz b := by
  induction h with
  | slnil => exact Nat.le_refl _
  | @cons l1 l2 x _ ih =>
    have e : wSz (x :: l2) = x.length + 1 + wSz l2 := by unfold wSz; rw [List.map_cons, List.sum_cons, List.length_cons]; omega
    omega
  | @cons_cons l1 l2 x _ ih =>
    have e : wSz (x :: l2) = x.length + 1 + wSz l2 := by unfold wSz; rw [List.map_cons, List.sum_cons, List.length_cons]; omega
    have e2 : wSz (x :: l1) = x.length + 1 + wSz l1 := by unfold wSz; rw [List.map_cons, List.sum_cons, List.length_cons]; omega
    omega
theorem spl_sum : ∀ (L acc : List Nat), ((spl [32] 0 acc L).map List.length).sum + (spl [32] 0 acc L).length = acc.length + L.length + 1
  | [], acc => by
    rw [spl_nil]
    simp
  | x :: r, acc => by
    cases h : pre [32] (x :: r) with
    | true =>
      rw [spl_hit h]
      have z := spl_sum r []
      simp only [List.map_cons, List.sum_cons, List.length_cons, List.length_nil] at z ⊢
      show acc.length + ((spl [32] 0 [] r).map List.length).sum + ((spl [32] 0 [] r).length + 1) = _
      omega
    | false =>
      rw [spl_miss h]
      have z := spl_sum r (acc ++ [x])
      rw [List.length_append] at z
      simp only [List.length_cons, List.length_nil] at z ⊢
      omega
theorem split_sz (x : Str) : wSz (Txt.split x " ") = x.length + 1 := by
  have z := spl_sum (tl x) []
  rw [← split_is, List.map_map, List.length_map] at z
  have e : ((Txt.split x " ").map (List.length ∘ tl)).sum = ((Txt.split x " ").map (·.length)).sum := by
    congr 1
  rw [e] at z
  unfold wSz
  rw [len_tl]
  simpa using z
theorem joinL_mem (S : List Nat) : ∀ (ps : List (List Nat)), ∀ c ∈ joinL S ps, c ∈ S ∨ ∃ p ∈ ps, c ∈ p
  | [], c, h => nomatch h
  | [p], c, h => .inr ⟨p, List.mem_singleton.mpr rfl, h⟩
  | p :: q :: r, c, h => by
    have h' : c ∈ p ++ (S ++ joinL S (q :: r)) := h
    rcases List.mem_append.mp h' with h | h
    · exact .inr ⟨p, List.mem_cons_self .., h⟩
    rcases List.mem_append.mp h with h | h
    · exact .inl h
    · rcases joinL_mem S (q :: r) c h with h | ⟨z, hz, hc⟩
      · exact .inl h
      · exact .inr ⟨z, List.mem_cons_of_mem _ hz, hc⟩
theorem joinL_le (S : List Nat) : ∀ ps : List (List Nat), (joinL S ps).length ≤ (ps.map (·.length)).sum + ps.length * S.length
  | [] => Nat.zero_le _
  | [p] => by
    show p.length ≤ p.length + 0 + 1 * S.length
    omega
  | p :: q :: r => by
    have z := joinL_le S (q :: r)
    show (p ++ (S ++ joinL S (q :: r))).length ≤ _
    rw [List.length_append, List.length_append, List.map_cons, List.sum_cons, List.length_cons, Nat.succ_mul]
    omega
theorem join_ascii {us : List Str} (h : ∀ p ∈ us, Ascii p) : Ascii (Txt.join " " us) := fun c hc => by
  rw [join_eq, tl_join] at hc
  rcases joinL_mem _ _ c hc with z | ⟨p, hp, z⟩
  · have e : tl (" " : Str) = [32] := rfl
    rw [e] at z
    have := List.mem_singleton.mp z
    omega
  · obtain ⟨u, hu, rfl⟩ := List.mem_map.mp hp
    exact h u hu c z
theorem join_len (us : List Str) : (Txt.join " " us).length ≤ wSz us := by
  have z := joinL_le (tl (" " : Str)) (us.map tl)
  rw [len_tl, join_eq, tl_join]
  have e : ((us.map tl).map (·.length)).sum = (us.map (·.length)).sum := by
    rw [List.map_map]
    congr 1
  rw [e, List.length_map, show (tl (" " : Str)).length = 1 from rfl] at z
  unfold wSz
  omega
theorem cutV_str (ws : List Str) (lo hi : Option Int) : ∃ us : List Str, cutV (ws.map V.str) lo hi = us.map V.str ∧ us.Sublist ws := by
  refine ⟨(ws.drop (HT.sIx (ws.map V.str).length 0 lo)).take (HT.sIx (ws.map V.str).length (ws.map V.str).length hi - HT.sIx (ws.map V.str).length 0 lo), ?_, (List.take_sublist _ _).trans (List.drop_sublist _ _)⟩
  unfold cutV
  rw [List.map_take, List.map_drop]
end Rk
namespace Rk
open PySem PySem.Spec PyProof.Rows L2 TL
def top (i : Nat) : Stmt := PySem.Challenge.pw_rulerkeep_k43_texts_that_are_no_rules.main.body.getD i (.Pass ⟨0, 0, 0, 0⟩)
/-! ### the law's draws: a pot, a number out of it, an item of a list -/
def PotAt (H : Hp) (a : Addr) (n : Nat) : Prop := ∃ g s c : Int, H a = some (.lst [.int g, .int s, .int c]) ∧ 0 ≤ s ∧ s < 2 ^ 62 ∧ 0 ≤ c ∧ c ≤ n
/-- all but what stands at a is as it was -/
def But (a : Addr) (H H' : Hp) : Prop := ∀ b o, H b = some o → b ≠ a → H' b = some o
theorem But.refl {a : Addr} {H : Hp} : But a H H := fun _ _ e _ => e
theorem But.trans {a : Addr} {H H1 H2 : Hp} (x : But a H H1) (y : But a H1 H2) : But a H H2 := fun b o e ne => y b o (x b o e ne) ne
theorem But.of {a : Addr} {H H1 : Hp} (x : Same H H1) : But a H H1 := fun b o e _ => x b o e
theorem But.seq {a b : Addr} {K : PySem.W.Frag} {H H' : Hp} {xs : List V} (x : But a H H') (ne : b ≠ a) (h : SqL K H b xs) : SqL K H' b xs := by
  rcases h with (h | ⟨o, h⟩) | h
  · exact .inl (.inl (x _ _ h ne))
  · exact .inl (.inr ⟨o, x _ _ h ne⟩)
  · exact .inr h
theorem But.tup {a b : Addr} {K : PySem.W.Frag} {H H' : Hp} {xs : List V} (x : But a H H') (ne : b ≠ a) (h : SqT K H b xs) : SqT K H' b xs := by
  rcases h with (h | ⟨o, h⟩) | h
  · exact .inl (.inl (x _ _ h ne))
  · exact .inl (.inr ⟨o, x _ _ h ne⟩)
  · exact .inr h
theorem PotAt.mono {H : Hp} {a : Addr} {n m : Nat} (p : PotAt H a n) (h : n ≤ m) : PotAt H a m := by
  obtain ⟨g, s, c, e, h1, h2, h3, h4⟩ := p
  exact ⟨g, s, c, e, h1, h2, h3, by omega⟩
theorem PotAt.same {H H' : Hp} {a : Addr} {n : Nat} (p : PotAt H a n) (h : Same H H') : PotAt H' a n := by
  obtain ⟨g, s, c, e, r⟩ := p
  exact ⟨g, s, c, h _ _ e, r⟩
theorem PotAt.but {H H' : Hp} {a b : Addr} {n : Nat} (p : PotAt H a n) (h : But b H H') (ne : a ≠ b) : PotAt H' a n := by
  obtain ⟨g, s, c, e, r⟩ := p
  exact ⟨g, s, c, h _ _ e ne, r⟩
theorem PotAt.ne {H : Hp} {a p : Addr} {n : Nat} (h : PotAt H a n) (hp : H p = none) : a ≠ p := by
  obtain ⟨g, s, c, e, _⟩ := h
  exact ne_of_none e hp
theorem PotAt.upd {H : Hp} {a b : Addr} {n : Nat} {o : HO} (p : PotAt H a n) (ne : a ≠ b) : PotAt (upd H b o) a n := by
  obtain ⟨g, s, c, e, r⟩ := p
  exact ⟨g, s, c, by rw [upd_ne ne]; exact e, r⟩
theorem But.new {a F : Addr} {H H' : Hp} {o : HO} (x : But a H H') (hF : H F = none) : But a H (L2.upd H' F o) := fun b u e ne => by
  rw [upd_ne (ne_of_none e hF)]
  exact x b u e ne
theorem But.free {a r : Addr} {n : Nat} {H H' : Hp} (x : But a H H') (p : PotAt H' a n) (h : H' r = none) : H r = none := by
  cases e : H r with
  | none => rfl
  | some o =>
    by_cases z : r = a
    · obtain ⟨g, s, c, e', _⟩ := p
      rw [z, e'] at h
      cases h
    · rw [x r o e z] at h
      cases h
def spTake : Sp := fun vs H Q _ => ∃ (a : Addr) (n : Nat) (z : Int), vs = [.ref a, .int z] ∧ PotAt H a n ∧ n < 1000000 ∧ 0 < z ∧ z.natAbs < 2 ^ 600 ∧
  ∀ (d : Int) (H' : Hp), 0 ≤ d → d < z → PotAt H' a (n + 1) → But a H H' → Q (.int d) H'
def spPick (K : PySem.W.Frag) : Sp := fun vs H Q _ => ∃ (a b : Addr) (n : Nat) (xs : List V), vs = [.ref a, .ref b] ∧ PotAt H a n ∧ n < 1000000 ∧ SqL K H b xs ∧ b ≠ a ∧ 0 < xs.length ∧ xs.length ≤ 1000 ∧
  ∀ (v : V) (H' : Hp), v ∈ xs → PotAt H' a (n + 1) → But a H H' → Q v H'
def spPot (K : PySem.W.Frag) : Sp := fun vs H Q _ => ∃ (a : Addr) (ns : List Int) (k : Nat), vs = [.ref a, .int k] ∧ SqL K H a (ns.map V.int) ∧ ns.length ≤ 63 ∧ k ≤ 100 ∧
  ∀ (p : Addr) (H' : Hp), H p = none → Same H H' → PotAt H' p 0 → Q (.ref p) H'
theorem primes_at {i : Int} (h0 : 0 ≤ i) (h1 : i < 5) : ∃ p : Int, atI [V.int 2147483647, V.int 2147483629, V.int 2147483587, V.int 2147483579, V.int 2147483563] i = some (.int p) ∧ 0 < p ∧ p < 2 ^ 31 := by
  have h : i = 0 ∨ i = 1 ∨ i = 2 ∨ i = 3 ∨ i = 4 := by omega
  rcases h with rfl | rfl | rfl | rfl | rfl
  · exact ⟨_, rfl, by decide, by decide⟩
  · exact ⟨_, rfl, by decide, by decide⟩
  · exact ⟨_, rfl, by decide, by decide⟩
  · exact ⟨_, rfl, by decide, by decide⟩
  · exact ⟨_, rfl, by decide, by decide⟩
theorem pow_room {s c : Int} (h1 : 0 ≤ s) (h2 : s < 2 ^ 62) (h3 : 0 ≤ c) (h4 : c ≤ 1000000) : (s + 8123 * c * c + 41 * c).natAbs < 2 ^ 64 := by
  have e : 8123 * c * c ≤ 8123 * 1000000 * 1000000 := by
    have a1 : 8123 * c ≤ 8123 * 1000000 := by omega
    exact Int.mul_le_mul a1 h4 h3 (by decide)
  have e0 : 0 ≤ 8123 * c * c := Int.mul_nonneg (by omega) h3
  omega
theorem iteF' {A B : Prop} (h : B) : if false = true then A else B := iteF h
structure Bl (mg : Str → Option Value) : Prop where
  len : mg "len" = none
  abs : mg "abs" = none
  min : mg "min" = none
  max : mg "max" = none
  range : mg "range" = none
  all : mg "all" = none
  any : mg "any" = none
  repr : mg "repr" = none
  tuple : mg "tuple" = none
  list : mg "list" = none
  sorted : mg "sorted" = none
  enumerate : mg "enumerate" = none
  zip : mg "zip" = none
  isinstance : mg "isinstance" = none
  int : mg "int" = none
  bool : mg "bool" = none
  sum : mg "sum" = none
  str : mg "str" = none
  divmod : mg "divmod" = none
theorem cdiv17 : CDivW x 17 := wide_div (b := 5) (by decide) (by decide) (by decide) (by decide)
theorem log2_600 {z : Int} (h : 0 < z) (h2 : z.natAbs < 2 ^ 600) {x : Int} : CDivW x z := wide_div (b := 600) h h2 (by decide) (by decide)
theorem three_of (L : Nat) : ∃ n : Nat, (if (if (L : Int) < 3 then (L : Int) else 3) > 1 then (if (L : Int) < 3 then (L : Int) else 3) else 1) = (n : Int) ∧ 1 ≤ n ∧ n ≤ 3 := by
  by_cases h : (L : Int) < 3
  · rw [if_pos h]
    by_cases h1 : (L : Int) > 1
    · rw [if_pos h1]
      exact ⟨L, rfl, by omega, by omega⟩
    · rw [if_neg h1]
      exact ⟨1, rfl, by omega, by omega⟩
  · rw [if_neg h]
    exact ⟨3, rfl, by omega, by omega⟩
abbrev s_law_draw : Stmt := (top 31)
abbrev N_law_draw : List Str := ["_law_pool_here", "_law_limit", "_law_digit", "_law_turn", "_law_prime", "_law_mixed"]
theorem sc_law_draw : FnScope N_law_draw ["_law_pool_here", "_law_limit"] (defScope s_law_draw) :=
  ⟨rfl, rfl, rfl, by decide +kernel, rfl, by decide +kernel, by decide +kernel⟩
abbrev s_law_pick : Stmt := (top 32)
abbrev N_law_pick : List Str := ["_law_pool_here", "_law_some"]
theorem sc_law_pick : FnScope N_law_pick ["_law_pool_here", "_law_some"] (defScope s_law_pick) :=
  ⟨rfl, rfl, rfl, by decide +kernel, rfl, by decide +kernel, by decide +kernel⟩
abbrev s_law_pool : Stmt := (top 30)
abbrev N_law_pool : List Str := ["_law_script", "_law_k", "_law_great", "_law_own"]
theorem sc_law_pool : FnScope N_law_pool ["_law_script", "_law_k"] (defScope s_law_pool) :=
  ⟨rfl, rfl, rfl, by decide +kernel, rfl, by decide +kernel, by decide +kernel⟩
section
variable {P : Program} {w : World} {K : PySem.W.Frag} {mg : Str → Option Value} {base : Heap}
theorem ok_take (D : Df K mg "_law_draw" s_law_draw ["_law_pool_here", "_law_limit"]) (T : Bl mg) : Has P w K mg base 1 "_law_draw" ["_law_pool_here", "_law_limit"] spTake := by
  refine D.has sc_law_draw (fun vs H Q E h => ?_) (fun f cdv A outer s H vs Q E gd hr h => ?_)
  · obtain ⟨a, n, z, rfl, _⟩ := h
    rfl
  · obtain ⟨a, n, z, rfl, ⟨g, sd, c, hp, hs0, hs1, hc0, hc1⟩, hn, hz, hz2, k⟩ := h
    refine ⟨_, (pss_cons (ps_if (pt_cmpR op_gt (pe_ix ix_list (pv 0) pe_int (fun _ _ => rfl)) pe_int (nomark _)) (pss_cons (ps_set (i := 2) sc_law_draw.nd rfl (Or.inl rfl) (pe_op op_mod (pe_ix ix_list (pv 0) pe_int (fun _ _ => rfl)) (pv 1)))
      (pss_cons (ps_asg (pe_op op_fdivW (pe_ix ix_list (pv 0) pe_int (fun _ _ => rfl)) (pv 1)) (pg_sub (pv 0) pe_int set_list))
      (pss_one (ps_ret (pv 2))))) pss_nil)
      (pss_cons (ps_asg (pe_op op_add (pe_ix ix_list (pv 0) pe_int (fun _ _ => rfl)) pe_int) (pg_sub (pv 0) pe_int set_list))
      (pss_cons (ps_set (i := 3) sc_law_draw.nd rfl (Or.inl rfl) (pe_ix ix_list (pv 0) pe_int (fun _ _ => rfl)))
      (pss_cons (ps_set (i := 4) sc_law_draw.nd rfl (Or.inl rfl) (pe_ix ix_list (pe_lst (pa_cons pe_int (pa_cons pe_int (pa_cons pe_int (pa_cons pe_int (pa_cons pe_int pa_nil)))))) (pe_op op_mod (pv 3) pe_int) (fun _ _ => rfl)))
      (pss_cons (ps_set (i := 5) sc_law_draw.nd rfl (Or.inl rfl) (pe_op op_mod (pe_op op_pow (pe_op op_add (pe_op op_add (pe_ix ix_list (pv 0) pe_int (fun _ _ => rfl)) (pe_op op_mul (pe_op op_mul pe_int (pv 3)) (pv 3))) (pe_op op_mul pe_int (pv 3))) pe_int) (pv 4)))
      (pss_one (ps_ret (pe_op op_mod (pe_op op_fdivW (pe_op op_mod (pe_op op_mul (pv 5) (pe_op op_add (pe_op op_add (pe_op op_mod (pv 5) pe_int) (pe_op op_mul pe_int (pv 3))) pe_int)) (pv 4)) pe_int) (pv 1))))))))), ?_⟩
    refine ⟨_, rfl, a, _, _, _, rfl, rfl, SqL.of hp, rfl, _, _, rfl, rfl, _, rfl, ?_⟩
    refine ite2 (fun _ => ?_) (fun _ => ?_)
    · refine ⟨_, rfl, a, _, _, _, rfl, rfl, SqL.of hp, rfl, _, rfl, _, _, rfl, rfl, hz, _, rfl, a, _, _, _, rfl, rfl, SqL.of hp, rfl, _, rfl, _, _, rfl, rfl, log2_600 hz hz2, _, rfl, a, _, _, 0, rfl, rfl, hp, rfl, _, rfl, ?_⟩
      exact k _ _ (Int.emod_nonneg _ (by omega)) (Int.emod_lt_of_pos _ hz) ⟨_, sd, c, upd_same, hs0, hs1, hc0, by omega⟩ (fun b o e ne => by rw [upd_ne ne]; exact e)
    · refine ⟨_, rfl, a, _, _, _, rfl, rfl, SqL.of hp, rfl, _, _, rfl, rfl, _, rfl, a, _, _, 2, rfl, rfl, hp, rfl, ?_⟩
      have hpa : upd H a (.lst [.int g, .int sd, .int (c + 1)]) a = some (.lst [.int g, .int sd, .int (c + 1)]) := upd_same
      refine ⟨_, rfl, a, _, _, _, rfl, rfl, SqL.of hpa, rfl, by decide, fun l hl => ?_⟩
      have nl : a ≠ l := ne_of_none upd_same hl
      have hp2 : ∀ o, upd (upd H a (.lst [.int g, .int sd, .int (c + 1)])) l o a = some (.lst [.int g, .int sd, .int (c + 1)]) := fun o => by
        rw [upd_ne nl]
        exact upd_same
      obtain ⟨p, hat, hp0, hp1⟩ := primes_at (i := (c + 1) % 5) (Int.emod_nonneg _ (by decide)) (Int.emod_lt_of_pos _ (by decide))
      refine ⟨_, rfl, _, _, rfl, rfl, (by show (0 : Int) < 5; decide), l, _, _, _, rfl, rfl, SqL.of upd_same, hat, ?_⟩
      refine ⟨_, rfl, a, _, _, _, rfl, rfl, SqL.of (hp2 _), rfl, _, rfl, _, _, rfl, rfl, .inl ⟨by decide, by decide⟩, _, rfl, _, _, rfl, rfl, .inl ⟨by omega, by omega⟩, _, _, rfl, rfl, _, rfl, _, _, rfl, rfl, .inl ⟨by decide, by decide⟩,
        _, _, rfl, rfl, _, _, rfl, rfl, ⟨by decide, by decide, pow_room hs0 hs1 (by omega) (by omega)⟩, _, rfl, _, _, rfl, rfl, hp0, ?_⟩
      generalize em : ((sd + 8123 * (c + 1) * (c + 1) + 41 * (c + 1)) ^ (Int.toNat 3) % p) = m
      have m0 : 0 ≤ m := by rw [← em]; exact Int.emod_nonneg _ (by omega)
      have m1 : m < 2 ^ 31 := by have := Int.emod_lt_of_pos ((sd + 8123 * (c + 1) * (c + 1) + 41 * (c + 1)) ^ (Int.toNat 3)) hp0; omega
      refine ⟨_, rfl, _, rfl, _, _, rfl, rfl, (by show (0 : Int) < 1009; decide), _, rfl, _, _, rfl, rfl, .inl ⟨by decide, by decide⟩, _, _, rfl, rfl, _, _, rfl, rfl, _, _, rfl, rfl, .inl ⟨by omega, by omega⟩,
        _, rfl, _, _, rfl, rfl, hp0, _, _, rfl, rfl, cdiv17, _, rfl, _, _, rfl, rfl, hz, ?_⟩
      refine k _ _ (Int.emod_nonneg _ (by omega)) (Int.emod_lt_of_pos _ hz) ⟨g, sd, c + 1, hp2 _, hs0, hs1, by omega, by omega⟩ (fun b o e ne => ?_)
      have hl' : H l = none := by
        rw [upd_ne nl.symm] at hl
        exact hl
      rw [upd_ne (ne_of_none e hl'), upd_ne ne]
      exact e
theorem ok_pick (D : Df K mg "_law_pick" s_law_pick ["_law_pool_here", "_law_some"]) (T : Bl mg) (C_law_draw : Has P w K mg base 1 "_law_draw" ["_law_pool_here", "_law_limit"] spTake) : Has P w K mg base 2 "_law_pick" ["_law_pool_here", "_law_some"] (spPick K) := by
  refine D.has sc_law_pick (fun vs H Q E h => ?_) (fun f cdv A outer s H vs Q E gd hr h => ?_)
  · obtain ⟨a, b, n, xs, rfl, _⟩ := h
    rfl
  · obtain ⟨a, b, n, xs, rfl, hp, hn, hx, ne, h0, h1, k⟩ := h
    refine ⟨_, (pss_one (ps_ret (pe_ix ix_list (pv 1) (pe_has C_law_draw gd (hr.mono (by decide)) rfl (pa_cons (pv 0) (pa_cons (pe_callB call_len_seq (by rfl) T.len PySem.boot_len (pa_cons (pv 1) pa_nil)) pa_nil))) (fun _ _ => rfl)))), ?_⟩
    refine ⟨_, rfl, _, rfl, _, rfl, b, _, rfl, .inl hx, a, n, _, rfl, hp, hn, (by omega), ?_, fun d H' d0 d1 hp' bt => ?_⟩
    · exact Nat.lt_of_le_of_lt (show ((xs.length : Int)).natAbs ≤ 1000 by omega) (by decide)
    · have hi : d.toNat < xs.length := by omega
      refine ⟨b, _, _, xs[d.toNat], rfl, rfl, bt.seq ne hx, at_of (j := d.toNat) (by omega) (List.getElem?_eq_getElem hi), ?_⟩
      exact k _ H' (List.getElem_mem hi) hp' bt
theorem ok_pot (D : Df K mg "_law_pool" s_law_pool ["_law_script", "_law_k"]) (T : Bl mg) : Has P w K mg base 1 "_law_pool" ["_law_script", "_law_k"] (spPot K) := by
  refine D.has sc_law_pool (fun vs H Q E h => ?_) (fun f cdv A outer s H vs Q E gd hr h => ?_)
  · obtain ⟨a, ns, i, rfl, _⟩ := h
    rfl
  · obtain ⟨a, ns, i, rfl, hS, hl, hi, k⟩ := h
    refine ⟨_, (pss_cons (ps_set (i := 2) sc_law_pool.nd rfl (Or.inl rfl) (pe_ifExp (pt_cmpR op_lt (pv 1) (pe_callB call_len_seq (by rfl) T.len PySem.boot_len (pa_cons (pv 0) pa_nil)) (nomark _)) (pe_ix ix_list (pv 0) (pv 1) (fun _ _ => rfl)) (pe_op op_add (pe_op op_mul pe_int (pv 1)) pe_int)))
      (pss_cons (ps_set (i := 3) sc_law_pool.nd rfl (Or.inl rfl) (pe_op op_mul (pe_op op_mod (pe_callB call_abs (by rfl) T.abs (by decide +kernel) (pa_cons (pv 2) pa_nil)) (pe_op op_powB (pe_op op_pow pe_int pe_int) pe_int)) (pe_callTy call_int1 (by rfl) T.int (by decide +kernel) (pa_cons (pe_cmpR op_ge (pe_callB call_abs (by rfl) T.abs (by decide +kernel) (pa_cons (pv 2) pa_nil)) (pe_op op_pow pe_int pe_int) (nomark _)) pa_nil))))
      (pss_one (ps_ret (pe_lst (pa_cons (pv 3) (pa_cons (pe_op op_mod (pe_op op_mul (pe_op op_add (pe_op op_add (pe_op op_mod (pv 2) pe_int) (pe_op op_mul pe_int (pv 1))) pe_int) pe_int) pe_int) (pa_cons pe_int pa_nil)))))))), ?_⟩
    have done : ∀ (cell great : Int) (H0 : Hp) (p : Addr), H p = none → Same H H0 → H0 p = none → Q (.ref p) (upd H0 p (.lst [.int great, .int ((cell % 2305843009213693951 + 6113 * (i : Int) + 57) * 16807 % 2147483399), .int 0])) := by
      intro cell great H0 p hp sm hp0
      refine k p _ hp (sm.trans (same_upd hp0)) ⟨_, _, _, upd_same, Int.emod_nonneg _ (by decide), ?_, Int.le_refl _, Int.le_refl _⟩
      exact Int.lt_trans (Int.emod_lt_of_pos _ (by decide)) (by decide)
    refine ⟨_, rfl, _, rfl, a, _, rfl, .inl hS, _, _, rfl, rfl, _, rfl, ?_⟩
    refine ite2 (fun hlt => ?_) (fun hge => ?_)
    · have hi2 : i < ns.length := by
        have := of_decide_eq_true hlt
        rw [List.length_map] at this
        omega
      refine ⟨_, rfl, _, rfl, a, _, _, _, rfl, rfl, hS, atI_nat (v := V.int ns[i]) (by rw [List.getElem?_map, List.getElem?_eq_getElem hi2]; rfl), ?_⟩
      refine ⟨_, rfl, _, rfl, _, _, rfl, rfl, ⟨by decide, by decide, by decide⟩, _, _, rfl, rfl, ⟨by decide, by decide +kernel⟩, _, _, rfl, rfl, Int.pow_pos (Int.pow_pos (by decide)), ?_⟩
      refine ⟨_, rfl, _, rfl, _, _, rfl, rfl, ⟨by decide, by decide, by decide⟩, _, _, rfl, rfl, .inr ⟨_, rfl, _, _, rfl, rfl, .inr (b01 _), ?_⟩⟩
      refine ⟨_, rfl, _, rfl, _, _, rfl, rfl, (by show (0 : Int) < 2305843009213693951; decide), _, rfl, _, _, rfl, rfl, .inl ⟨by decide, by decide⟩, _, _, rfl, rfl, _, _, rfl, rfl, _, _, rfl, rfl, .inr ⟨by decide, by decide⟩,
        _, _, rfl, rfl, (by show (0 : Int) < 2147483399; decide), by show 3 ≤ sizeLine; decide, fun p hp => ?_⟩
      exact done _ _ _ p hp (Same.refl _) hp
    · refine ⟨_, rfl, _, _, rfl, rfl, .inl ⟨by decide, by decide⟩, _, _, rfl, rfl, ?_⟩
      refine ⟨_, rfl, _, rfl, _, _, rfl, rfl, ⟨by decide, by decide, by decide⟩, _, _, rfl, rfl, ⟨by decide, by decide +kernel⟩, _, _, rfl, rfl, Int.pow_pos (Int.pow_pos (by decide)), ?_⟩
      refine ⟨_, rfl, _, rfl, _, _, rfl, rfl, ⟨by decide, by decide, by decide⟩, _, _, rfl, rfl, .inr ⟨_, rfl, _, _, rfl, rfl, .inr (b01 _), ?_⟩⟩
      refine ⟨_, rfl, _, rfl, _, _, rfl, rfl, (by show (0 : Int) < 2305843009213693951; decide), _, rfl, _, _, rfl, rfl, .inl ⟨by decide, by decide⟩, _, _, rfl, rfl, _, _, rfl, rfl, _, _, rfl, rfl, .inr ⟨by decide, by decide⟩,
        _, _, rfl, rfl, (by show (0 : Int) < 2147483399; decide), by show 3 ≤ sizeLine; decide, fun p hp => ?_⟩
      exact done _ _ _ p hp (Same.refl _) hp
end
abbrev s_law_lives : Stmt := (top 33)
abbrev N_law_lives : List Str := ["_law_pool_here", "_law_top", "_law_upto", "_law_found", "_law_here", "_law_turn", "_law_rise_now"]
theorem sc_law_lives : FnScope N_law_lives ["_law_pool_here", "_law_top", "_law_upto"] (defScope s_law_lives) :=
  ⟨rfl, rfl, rfl, by decide +kernel, rfl, by decide +kernel, by decide +kernel⟩
def spLives : Sp := fun vs H Q _ => ∃ (a : Addr) (n : Nat) (top upto : Int), vs = [.ref a, .int top, .int upto] ∧ PotAt H a n ∧ n < 500000 ∧ 0 ≤ top ∧ top ≤ 10 ^ 18 ∧ 1 ≤ upto ∧ upto ≤ 61 ∧
  ∀ (r : Addr) (ls : List (Option Int)) (H' : Hp), H r = none → H' r = some (.tup (ls.map lv)) → Good ls → (ls.length : Int) ≤ upto → PotAt H' a (n + 200) → But a H H' → Q (.ref r) H'
theorem ixN_last {n : Nat} (h : 0 < n) : ixN n (-1) = some (n - 1) := by
  unfold ixN
  rw [if_neg (by omega), if_pos (by omega)]
  congr 1
  omega
section
variable {P : Program} {w : World} {K : PySem.W.Frag} {mg : Str → Option Value} {base : Heap}
theorem ok_lives (D : Df K mg "_law_lives" s_law_lives ["_law_pool_here", "_law_top", "_law_upto"]) (T : Bl mg) (C_law_draw : Has P w K mg base 1 "_law_draw" ["_law_pool_here", "_law_limit"] spTake) (C_law_pick : Has P w K mg base 2 "_law_pick" ["_law_pool_here", "_law_some"] (spPick K)) : Has P w K mg base 3 "_law_lives" ["_law_pool_here", "_law_top", "_law_upto"] spLives := by
  refine D.has sc_law_lives (fun vs H Q E h => ?_) (fun f cdv A outer s H vs Q E gd hr h => ?_)
  · obtain ⟨a, n, top, upto, rfl, _⟩ := h
    rfl
  · obtain ⟨a, n, top, upto, rfl, hp, hn, t0, t1, l0, l1, k⟩ := h
    have tb : (top + 1).natAbs < 2 ^ 600 := small600 (by omega) (by omega)
    refine ⟨_, (pss_cons (ps_par (i := 3) (j := 4) rfl sc_law_lives.nd rfl rfl (by decide) rfl rfl (pa_cons (pe_lst pa_nil) (pa_cons pe_int pa_nil)) (by rfl))
      (pss_cons (ps_for PassesOwn.never rfl (pi_range1 rfl T.range (pa_cons (pe_op op_add pe_int (pe_has C_law_draw gd (hr.mono (by decide)) rfl (pa_cons (pv 0) (pa_cons (pv 2) pa_nil)))) pa_nil)) (pg_name (i := 5) sc_law_lives.nd rfl (Or.inl rfl)) (pss_cons (ps_set (i := 6) sc_law_lives.nd rfl (Or.inl rfl) (pe_has C_law_pick gd (hr.mono (by decide)) rfl (pa_cons (pv 0) (pa_cons (pe_lst (pa_cons pe_int (pa_cons pe_int (pa_cons pe_int (pa_cons (pe_has C_law_draw gd (hr.mono (by decide)) rfl (pa_cons (pv 0) (pa_cons (pe_op op_add (pv 1) pe_int) pa_nil))) (pa_cons (pe_has C_law_draw gd (hr.mono (by decide)) rfl (pa_cons (pv 0) (pa_cons (pe_op op_add (pv 1) pe_int) pa_nil))) pa_nil)))))) pa_nil))))
      (pss_cons (ps_set (i := 4) sc_law_lives.nd rfl (Or.inl rfl) (pe_callB (call_min2 rfl) (by rfl) T.min (by decide +kernel) (pa_cons (pe_op op_pow pe_int pe_int) (pa_cons (pe_op op_add (pv 4) (pv 6)) pa_nil))))
      (pss_one (ps_expr (pe_bm PySem.F.plainAttrs_list PySem.F.slot_list_append PySem.F.type_list_append mt_append (pv 3) (pa_cons (pv 4) pa_nil)))))))
      (pss_cons (ps_if (pt_cmpR op_eq (pe_has C_law_draw gd (hr.mono (by decide)) rfl (pa_cons (pv 0) (pa_cons pe_int pa_nil))) pe_int (nomark _)) (pss_one (ps_asg pe_non (pg_sub (pv 3) (pe_un un_neg pe_int) set_list))) pss_nil)
      (pss_one (ps_ret (pe_callTy call_tuple_of (by rfl) T.tuple (by decide +kernel) (pa_cons (pv 3) pa_nil))))))), ?_⟩
    refine ⟨Nat.zero_le _, fun F hF => ?_⟩
    have nFa : F ≠ a := (hp.ne hF).symm
    refine ⟨_, _, rfl, ?_⟩
    refine ⟨_, rfl, _, rfl, a, n, upto, rfl, hp.same (same_upd hF), by omega, by omega, small600 (by omega) (by omega), fun d3 H3 v0 v1 p3 b3 => ?_⟩
    obtain ⟨m, rfl⟩ := Int.eq_ofNat_of_zero_le v0
    have em : (1 + (m : Int)).toNat = m + 1 := by omega
    refine ⟨_, _, rfl, rfl, 1 + (m : Int), rfl, by omega, by omega, ?_⟩
    rw [em]
    have b03 : But a H H3 := (But.of (same_upd hF)).trans b3
    refine for_range (n := m + 1) (fun i σ H' => ∃ (x y : Option V) (is : List Int) (life : Int), σ = [some (.ref a), some (.int top), some (.int upto), some (.ref F), some (.int life), x, y] ∧ H' F = some (.lst (is.map V.int)) ∧ is.length = i ∧ Asc is ∧
      (∀ y ∈ is, 0 ≤ y ∧ y ≤ life) ∧ 0 ≤ life ∧ life ≤ 10 ^ 18 ∧ PotAt H' a (n + 1 + 3 * i) ∧ But a H H') ⟨none, none, [], 0, rfl, b3 _ _ upd_same nFa, rfl, asc_nil, (fun y hy => nomatch hy), Int.le_refl _, by decide, p3, b03⟩ ?_ ?_
    · rintro i σ H4 hi ⟨x, y, is, life, rfl, eF, hl, ha, hb, L0, L1, p4, b4⟩
      refine ⟨_, rfl, _, rfl, _, rfl, _, _, rfl, rfl, a, _, _, rfl, p4, by omega, by omega, tb, fun d6 H6 w0 w1 p6 b6 => ?_⟩
      refine ⟨_, rfl, _, rfl, _, _, rfl, rfl, a, _, _, rfl, p6, by omega, by omega, tb, fun d7 H7 y0 y1 p7 b7 => ?_⟩
      refine ⟨by show 5 ≤ sizeLine; decide, fun N hN => ?_⟩
      refine ⟨a, N, _, _, rfl, p7.same (same_upd hN), by omega, SqL.of upd_same, (p7.ne hN).symm, by show 0 < 5; decide, by show 5 ≤ 1000; decide, fun v H8 hv p8 b8 => ?_⟩
      obtain ⟨q, rfl, q0⟩ : ∃ q : Int, v = .int q ∧ 0 ≤ q := by
        rcases List.mem_cons.mp hv with rfl | hv
        · exact ⟨_, rfl, by decide⟩
        rcases List.mem_cons.mp hv with rfl | hv
        · exact ⟨_, rfl, by decide⟩
        rcases List.mem_cons.mp hv with rfl | hv
        · exact ⟨_, rfl, by decide⟩
        rcases List.mem_cons.mp hv with rfl | hv
        · exact ⟨_, rfl, w0⟩
        · rw [List.mem_singleton.mp hv]
          exact ⟨_, rfl, y0⟩
      have eF8 : H8 F = some (.lst (is.map V.int)) := b8 _ _ (same_upd hN _ _ (b7 _ _ (b6 _ _ eF nFa) nFa)) nFa
      have b48 : But a H4 H8 := (b6.trans b7).trans ((But.of (same_upd hN)).trans b8)
      have mn : life ≤ (if life + q < (10 : Int) ^ 18 then life + q else (10 : Int) ^ 18) ∧ (if life + q < (10 : Int) ^ 18 then life + q else (10 : Int) ^ 18) ≤ (10 : Int) ^ 18 := by
        by_cases h : life + q < (10 : Int) ^ 18
        · rw [if_pos h]; omega
        · rw [if_neg h]; omega
      refine ⟨_, _, rfl, rfl, ⟨by decide, by decide, by decide⟩, _, rfl, _, rfl, _, _, rfl, rfl, _, _, rfl, ?_⟩
      refine ⟨_, rfl, .inl ⟨rfl, _, SqL.of eF8⟩, _, rfl, F, _, _, rfl, rfl, eF8, small1000 (by rw [List.length_map]; omega), ?_⟩
      refine ⟨_, _, is ++ [if life + q < (10 : Int) ^ 18 then life + q else (10 : Int) ^ 18], (if life + q < (10 : Int) ^ 18 then life + q else (10 : Int) ^ 18), rfl, by rw [upd_same, List.map_append]; rfl, by rw [List.length_append, hl]; rfl, asc_snoc ha (fun y hy => Int.le_trans (hb y hy).2 mn.1), ?_, by omega, mn.2, (p8.upd nFa.symm).mono (by omega), (b4.trans b48).new hF⟩
      intro y hy
      rcases List.mem_append.mp hy with h | h
      · have := hb y h
        omega
      · rw [List.mem_singleton.mp h]
        omega
    · rintro σ H4 ⟨x, y, is, life, rfl, eF, hl, ha, hb, L0, L1, p4, b4⟩
      obtain ⟨ini, z2, rfl⟩ : ∃ ini z2, is = ini ++ [z2] := ⟨is.dropLast, is.getLast (by intro z; rw [z] at hl; cases hl), (List.dropLast_concat_getLast _).symm⟩
      have li : ini.length = m := by
        rw [List.length_append] at hl
        exact Nat.succ.inj hl
      have hb' : ∀ y ∈ ini ++ [z2], 0 ≤ y ∧ y ≤ 10 ^ 18 := fun y hy => by have := hb y hy; omega
      refine ⟨_, rfl, a, _, 6, rfl, p4, by omega, by decide, by decide, fun d5 H5 w0 w1 p5 b5 => ⟨rfl, _, rfl, ?_⟩⟩
      have eF5 := b5 _ _ eF nFa
      have b45 := b4.trans b5
      have fin : ∀ (G : Hp) (ls : List (Option Int)), G F = some (.lst (ls.map lv)) → Good ls → ls.length = m + 1 → PotAt G a (n + 200) → But a H G → ∀ r, G r = none → Q (.ref r) (upd G r (.tup (ls.map lv))) := fun G ls e g el pg bg r hr => by
        have hr0 := bg.free pg hr
        refine k r ls _ hr0 upd_same g (by omega) (pg.upd (pg.ne hr)) (fun b o e2 ne => ?_)
        rw [upd_ne (ne_of_none e2 hr0)]
        exact bg b o e2 ne
      refine ite2 (fun _ => ?_) (fun _ => ?_)
      · refine ⟨_, rfl, _, rfl, F, _, _, ini.length, rfl, rfl, eF5, (ixN_last (by simp)).trans (by simp), ?_⟩
        have es : (((ini ++ [z2]).map V.int).set ini.length V.non) = (ini.map some ++ [none]).map lv := by
          rw [List.map_append, List.map_append, map_lv_some, List.set_append_right _ _ (by rw [List.length_map]; exact Nat.le_refl _), List.length_map, Nat.sub_self]
          rfl
        rw [es]
        refine ⟨_, rfl, F, _, rfl, .inl ⟨SqL.of upd_same, ?_⟩⟩
        exact fin _ _ upd_same (good_none (by omega) (fun y hy => hb' y (List.mem_append_left _ hy)) (asc_init ha)) (by simp; exact li) ((p5.upd nFa.symm).mono (by omega)) (b45.new hF)
      · have es : (ini ++ [z2]).map V.int = (ini.map some ++ [some z2]).map lv := by
          rw [List.map_append, List.map_append, map_lv_some]
          rfl
        rw [es] at eF5
        refine ⟨_, rfl, F, _, rfl, .inl ⟨SqL.of eF5, ?_⟩⟩
        exact fin _ _ eF5 (good_ints (by omega) hb' ha) (by simp; exact li) (p5.mono (by omega)) b45
end
/-! SPLIT -/

abbrev s_is_natural : Stmt := (top 7)
abbrev N_is_natural : List Str := ["value"]
theorem sc_is_natural : FnScope N_is_natural ["value"] (defScope s_is_natural) :=
  ⟨rfl, rfl, rfl, by decide +kernel, rfl, by decide +kernel, by decide +kernel⟩
abbrev s_at_most : Stmt := (top 9)
abbrev N_at_most : List Str := ["one", "other"]
theorem sc_at_most : FnScope N_at_most ["one", "other"] (defScope s_at_most) :=
  ⟨rfl, rfl, rfl, by decide +kernel, rfl, by decide +kernel, by decide +kernel⟩
abbrev s_shortest : Stmt := (top 16)
abbrev N_shortest : List Str := ["lives", "length"]
theorem sc_shortest : FnScope N_shortest ["lives"] (defScope s_shortest) :=
  ⟨rfl, rfl, rfl, by decide +kernel, rfl, by decide +kernel, by decide +kernel⟩
abbrev s_Rule___init__ : Stmt := (inClass (top 21) 1)
abbrev N_Rule___init__ : List Str := ["self", "lives", "reckoned"]
theorem sc_Rule___init__ : FnScope N_Rule___init__ ["self", "lives"] (defScope s_Rule___init__) :=
  ⟨rfl, rfl, rfl, by decide +kernel, rfl, by decide +kernel, by decide +kernel⟩
abbrev s_Rule_are_lives : Stmt := (inClass (top 21) 2)
abbrev N_Rule_are_lives : List Str := ["value", "integers", "life", "following"]
theorem sc_Rule_are_lives : FnScope N_Rule_are_lives ["value"] (defScope s_Rule_are_lives) :=
  ⟨rfl, rfl, rfl, by decide +kernel, rfl, by decide +kernel, by decide +kernel⟩
abbrev s_Rule_of : Stmt := (inClass (top 21) 3)
abbrev N_Rule_of : List Str := ["cls", "lives"]
theorem sc_Rule_of : FnScope N_Rule_of ["cls", "lives"] (defScope s_Rule_of) :=
  ⟨rfl, rfl, rfl, by decide +kernel, rfl, by decide +kernel, by decide +kernel⟩
def spNat : Sp := fun vs H Q _ => ∃ i : Int, vs = [.int i] ∧ Q (.bl (decide (0 ≤ i))) H
def spAtMost : Sp := fun vs H Q _ => ∃ x y : Option Int, vs = [lv x, lv y] ∧ Q (.bl (leO x y)) H
def spShortest : Sp := fun vs H Q _ => ∃ (a : Addr) (ls : List (Option Int)), vs = [.ref a] ∧ H a = some (.tup (ls.map lv)) ∧ 0 < ls.length ∧ ls.length ≤ 1000 ∧ ∀ r H', Same H H' → H' r = some (.tup ((short ls).map lv)) → Q (.ref r) H'
def spAre (K : PySem.W.Frag) : Sp := fun vs H Q _ => ∃ (a : Addr) (ls : List (Option Int)), vs = [.ref a] ∧ SqT K H a (ls.map lv) ∧ Good ls ∧ ∀ H', Same H H' → Q (.bl true) H'
theorem tyx_tup {K : PySem.W.Frag} {H : Hp} {a : Addr} {xs : List V} (h : SqT K H a xs) : TyX K H (.ref a) (.type "tuple") := by
  rcases h with (h | ⟨o, h⟩) | ⟨o, its, n, h, c, _⟩
  · exact .base (.tup h)
  · exact .fTuple h
  · exact .kTuple h c
theorem walk_zipT {K : PySem.W.Frag} {a b : Addr} {xs ys : List V} {n : Nat} (hn : n = min xs.length ys.length) : Walk (RZ.ItzT K a b) n (fun H => SqT K H a xs ∧ SqT K H b ys) (YPair (fun i => xs[i]?) (fun i => ys[i]?)) := by
  subst hn
  constructor
  · intro i H hi q
    exact ⟨xs, ys, xs[i]'(by omega), ys[i]'(by omega), q.1, q.2, List.getElem?_eq_getElem _, List.getElem?_eq_getElem _⟩
  · intro H q
    exact ⟨xs, ys, q.1, q.2, by omega⟩
  · rintro i H v H' _ q ⟨T, x, z, h1, h2, h3, h4, h5⟩
    exact ⟨T, x, z, h1, h2, h3, h4 xs q.1, h5 ys q.2⟩
/-- what the text's top has made of the class and the module's constants -/
structure RuleT (K : PySem.W.Frag) (mg : Str → Option Value) (C CR : Addr) (mc : Value) (fInit pAre fAre : Addr) (fdAre : FuncData) : Prop where
  cl : Cls K C
  mkc : Mk K C fInit
  nL : NoAttr K C "_lives"
  m_Rule : mg "Rule" = some (.ref C)
  m_Reckoned : mg "Reckoned" = some (.ref CR)
  m_Long : ∃ t, mg "LONGEST_LIFE" = some (.int 1000000000000000000 t)
  rd : ClX.CRead K C mc
  most : ∃ u, ClX.CVal K C mc "MOST_LIVES" (.int 61) u
  s_are : SMet K C mc "are_lives" pAre fAre
  b_are : Binds K fdAre ["value"] []
  notR1 : PySem.W.kitOne K (.type "int") (.ref CR) = some false
  notR2 : PySem.W.kitOne K (.type "NoneType") (.ref CR) = some false
section
variable {P : Program} {w : World} {K : PySem.W.Frag} {mg : Str → Option Value} {base : Heap}
theorem ok_natural (D : Df K mg "is_natural" s_is_natural ["value"]) (T : Bl mg) : HasO P w K mg base 1 "is_natural" ["value"] spNat := by
  refine D.hasO sc_is_natural (fun vs H Q E h => ?_) (fun f cdv A outer s H vs Q E hr h => ?_)
  · obtain ⟨i, rfl, _⟩ := h
    rfl
  · obtain ⟨i, rfl, k⟩ := h
    refine ⟨_, (pss_one (ps_ret (pe_and (pe_callB call_isi (by rfl) T.isinstance (by decide +kernel) (pa_cons (pv 0) (pa_cons (pe_bltn (v := .ty "int") (by rfl) T.int (by decide +kernel) rfl) pa_nil))) (pe_and (pe_not (pe_callB call_isi (by rfl) T.isinstance (by decide +kernel) (pa_cons (pv 0) (pa_cons (pe_bltn (v := .ty "bool") (by rfl) T.bool (by decide +kernel) rfl) pa_nil)))) (pe_one (pe_cmpR op_ge (pv 0) pe_int (nomark _))))))), ?_⟩
    refine ⟨_, rfl, _, _, _, _, true, rfl, .ty _, .base (.int i), kit_ty (by decide +kernel), true, rfl, ?_⟩
    refine iteT ?_
    refine ⟨_, rfl, _, _, _, _, false, rfl, .ty _, .base (.int i), kit_ty (by decide +kernel), false, rfl, true, rfl, ?_⟩
    refine iteT ?_
    exact ⟨_, rfl, _, _, rfl, rfl, k⟩
theorem ok_at_most (D : Df K mg "at_most" s_at_most ["one", "other"]) : HasO P w K mg base 1 "at_most" ["one", "other"] spAtMost := by
  refine D.hasO sc_at_most (fun vs H Q E h => ?_) (fun f cdv A outer s H vs Q E hr h => ?_)
  · obtain ⟨x, y, rfl, _⟩ := h
    rfl
  · obtain ⟨x, y, rfl, k⟩ := h
    refine ⟨_, (pss_one (ps_ret (pe_or (pe_cmpR op_isN (pv 1) pe_non (nomark _)) (pe_one (pe_and (pe_cmpR op_notN (pv 0) pe_non (nomark _)) (pe_one (pe_cmpR op_le (pv 0) (pv 1) (nomark _)))))))), ?_⟩
    cases y with
    | none =>
      refine ⟨_, rfl, rfl, true, rfl, ?_⟩
      refine iteT ?_
      exact k
    | some b =>
      refine ⟨_, rfl, rfl, false, rfl, ?_⟩
      refine iteF ?_
      cases x with
      | none =>
        refine ⟨_, rfl, rfl, false, rfl, ?_⟩
        exact k
      | some a =>
        refine ⟨_, rfl, rfl, true, rfl, ?_⟩
        exact ⟨_, rfl, _, rfl, _, _, rfl, rfl, k⟩
theorem ok_shortest (D : Df K mg "shortest" s_shortest ["lives"]) (T : Bl mg) : HasO P w K mg base 1 "shortest" ["lives"] spShortest := by
  refine D.hasO sc_shortest (fun vs H Q E h => ?_) (fun f cdv A outer s H vs Q E hr h => ?_)
  · obtain ⟨a, ls, rfl, _⟩ := h
    rfl
  · obtain ⟨a, ls, rfl, ha, h0, h1, k⟩ := h
    refine ⟨_, (pss_cons (ps_set (i := 1) sc_shortest.nd rfl (Or.inl rfl) (pe_callB call_len_seq (by rfl) T.len PySem.boot_len (pa_cons (pv 0) pa_nil)))
      (pss_cons (ps_while PassesOwn.never (PW.pt (pw_and (pt_cmpR op_gt (pv 1) pe_int (nomark _)) (pw_and1 (pt_cmpR op_eq (pe_ix ix_tup (pv 0) (pe_op op_sub (pv 1) pe_int) (fun _ _ => rfl)) (pe_ix ix_tup (pv 0) (pe_op op_sub (pv 1) pe_int) (fun _ _ => rfl)) (nomark _))))) (pss_one (ps_aug (i := 1) sc_shortest.nd rfl (Or.inl rfl) pe_int ip_sub)))
      (pss_one (ps_ret (pe_slice sl_tupB (pv 0) po_none (po_some (pv 1))))))), ?_⟩
    refine ⟨_, rfl, a, _, rfl, .inr (SqT.of ha), ?_⟩
    refine ⟨fun m σ H' => H' = H ∧ ∃ n : Nat, σ = [some (.ref a), some (.int n)] ∧ 0 < n ∧ n ≤ ls.length ∧ n = m ∧ cutN ls n = cutN ls ls.length, ⟨_, rfl, ls.length, by rw [List.length_map]; rfl, h0, Nat.le_refl _, rfl, rfl⟩, ?_⟩
    rintro m σ H' ⟨rfl, n, rfl, n0, n1, rfl, hc⟩
    refine ⟨_, rfl, _, _, rfl, rfl, _, rfl, ?_⟩
    -- what follows the loop
    have fin : cutN ls n = n → ∀ r H2, (r = a ∧ H2 = H' ∧ cutV (ls.map lv) none (some (n : Int)) = ls.map lv) ∨ (H' r = none ∧ H2 = upd H' r (.tup (cutV (ls.map lv) none (some (n : Int))))) → Q (.ref r) H2 := by
      intro e r H2 hr2
      have ec : cutV (ls.map lv) none (some (n : Int)) = (short ls).map lv := by
        rw [cut_take _ _ (by rw [List.length_map]; exact n1)]
        unfold short
        rw [← hc, e, List.map_take]
      refine k r H2 (rSlB_same hr2) ?_
      rw [ec] at hr2
      rcases hr2 with ⟨e1, e2, e3⟩ | ⟨e1, e2⟩
      · rw [e1, e2, ha, ← e3]
      · rw [e2]
        exact upd_same
    refine ite2 (fun hn => ?_) (fun hn => ?_)
    · have hn' : 1 < n := by
        have := of_decide_eq_true hn
        omega
      obtain ⟨j, rfl⟩ : ∃ j, n = j + 2 := ⟨n - 2, by omega⟩
      have l1 : j + 1 < ls.length := by omega
      have l0 : j < ls.length := by omega
      have a1 : (ls.map lv)[j + 1]? = some (lv ls[j + 1]) := by rw [List.getElem?_map, List.getElem?_eq_getElem l1]; rfl
      have a0 : (ls.map lv)[j]? = some (lv ls[j]) := by rw [List.getElem?_map, List.getElem?_eq_getElem l0]; rfl
      refine ⟨_, rfl, _, rfl, _, _, rfl, rfl, a, _, _, _, rfl, rfl, SqT.of ha, at_of (j := j + 1) (by omega) a1, ?_⟩
      refine ⟨_, rfl, _, rfl, _, _, rfl, rfl, a, _, _, _, rfl, rfl, SqT.of ha, at_of (j := j) (by omega) a0, ?_⟩
      refine ⟨by cases ls[j + 1] <;> cases ls[j] <;> rfl, _, rfl, ?_⟩
      refine ite2 (fun he => ?_) (fun he => ?_)
      · have he' : ls[j + 1]? = ls[j]? := by
          rw [List.getElem?_eq_getElem l1, List.getElem?_eq_getElem l0, lv_inj (of_decide_eq_true he)]
        refine ⟨fun σ' H'' => H'' = H' ∧ σ' = [some (.ref a), some (.int ((j + 1 : Nat) : Int))], ?_, ?_⟩
        · rintro σ' H'' ⟨rfl, rfl⟩
          exact ⟨j + 1, by omega, rfl, j + 1, rfl, by omega, by omega, rfl, by rw [← hc, cutN_eq he']⟩
        · refine ⟨_, rfl, _, _, rfl, rfl, rfl, ?_⟩
          have e : ((j + 2 : Nat) : Int) - 1 = ((j + 1 : Nat) : Int) := by omega
          show [some (V.ref a), some (V.int (((j + 2 : Nat) : Int) - 1))] = _
          rw [e]
      · have he' : ¬ ls[j + 1]? = ls[j]? := by
          rw [List.getElem?_eq_getElem l1, List.getElem?_eq_getElem l0]
          intro z
          exact he (decide_eq_true (by rw [Option.some.inj z]))
        refine ⟨_, rfl, _, rfl, _, rfl, a, _, rfl, SqT.of ha, fin (cutN_ne he')⟩
    · have hn' : n = 1 := by
        have : ¬ (1 : Int) < (n : Int) := fun z => hn (decide_eq_true z)
        omega
      subst hn'
      refine ite2 (fun z => absurd z (by decide)) (fun _ => ?_)
      exact ⟨_, rfl, _, rfl, _, rfl, a, _, rfl, SqT.of ha, fin rfl⟩
variable {C CR : Addr} {mc : Value} {fInit pAre fAre : Addr} {fdAre fdInit : FuncData}
theorem ok_are (F : Fun K "are_lives" "Rule.are_lives" s_Rule_are_lives fAre fdAre) (T : Bl mg) (R : RuleT K mg C CR mc fInit pAre fAre fdAre) (C_is_natural : HasO P w K mg base 1 "is_natural" ["value"] spNat) : FnOk P w K mg base CX0 2 fAre fdAre ["value"] (spAre K) := by
  refine F.ok sc_Rule_are_lives (fun vs H Q E h => ?_) (fun cdv A outer s H vs Q E hr h => ?_)
  · obtain ⟨a, ls, rfl, _⟩ := h
    rfl
  · obtain ⟨a, ls, rfl, hS, g, k⟩ := h
    obtain ⟨tL, hLong⟩ := R.m_Long
    obtain ⟨uM, hMost⟩ := R.most
    refine ⟨_, (pss_cons (ps_if (PW.pt (pw_or (pt_not (pt_val (pe_callB call_isi (by rfl) T.isinstance (by decide +kernel) (pa_cons (pv 0) (pa_cons (pe_bltn (v := .ty "tuple") (by rfl) T.tuple (by decide +kernel) rfl) pa_nil))))) (pw_or1 (pt_not (pt_chain op_le op_le pe_int (pe_callB call_len_seq (by rfl) T.len PySem.boot_len (pa_cons (pv 0) pa_nil)) (ClX.pe_cval (pe_glob (v := .ref C) rfl R.m_Rule rfl))))))) (pss_one (ps_ret pe_bl)) pss_nil)
      (pss_cons (ps_set (i := 1) sc_Rule_are_lives.nd rfl (Or.inl rfl) (pe_ifExp (pt_cmpR op_isN (pe_ix ix_tup (pv 0) (pe_un un_neg pe_int) (fun _ _ => rfl)) pe_non (nomark _)) (pe_slice sl_tupB (pv 0) po_none (po_some (pe_un un_neg pe_int))) (pv 0)))
      (pss_cons (ps_if (pt_not (pt_val (pe_callB (cr_all rfl) (by rfl) T.all (by decide +kernel) (pa_cons (pe_lc (own := [("life", 2)]) (g := gName 2) (tt := tYes) rfl sc_Rule_are_lives.nd (pi_tup (pv 1)) (blkOk_by (N := N_Rule_are_lives) (sc := defScope s_Rule_are_lives) (by decide +kernel)) (fun _ _ _ _ _ => pg_name (i := 2) sc_Rule_are_lives.nd rfl (Or.inl rfl)) (fun _ _ _ _ _ => pts_nil) (fun _ _ _ _ _ => (pe_and (pe_hasO C_is_natural (hr.mono (by decide)) rfl (pa_cons (pv 2) pa_nil)) (pe_one (pe_cmpR op_le (pv 2) (pe_glob (v := .int 1000000000000000000) rfl hLong ⟨_, rfl⟩) (nomark _)))))) pa_nil)))) (pss_one (ps_ret pe_bl)) pss_nil)
      (pss_one (ps_ret (pe_callB (cr_all rfl) (by rfl) T.all (by decide +kernel) (pa_cons (pe_lc (own := [("life", 2), ("following", 3)]) (g := gTup _ 2 (gCons (gName 2) (gCons (gName 3) (gNil)))) (tt := tYes) rfl sc_Rule_are_lives.nd (RZ.pi_zipA rfl T.zip (pa_cons (pv 1) (pa_cons (pe_slice sl_tupB (pv 1) (po_some pe_int) po_none) pa_nil))) (blkOk_by (N := N_Rule_are_lives) (sc := defScope s_Rule_are_lives) (by decide +kernel)) (fun _ _ _ _ _ => pg_tup rfl (pgs_cons (pg_name (i := 2) sc_Rule_are_lives.nd rfl (Or.inl rfl)) (pgs_cons (pg_name (i := 3) sc_Rule_are_lives.nd rfl (Or.inl rfl)) pgs_nil))) (fun _ _ _ _ _ => pts_nil) (fun _ _ _ _ _ => (pe_cmpR op_le (pv 2) (pv 3) (nomark _)))) pa_nil))))))), ?_⟩
    refine ⟨_, rfl, _, _, _, _, true, rfl, .ty _, tyx_tup hS, kit_ty (by decide +kernel), _, rfl, ?_⟩
    refine ite2 (fun z => absurd z (by decide)) (fun _ => ?_)
    have hlen : (ls.map lv).length = ls.length := List.length_map _
    have hpos := g.pos
    have hmost := g.most
    refine ⟨_, rfl, a, _, rfl, .inr hS, _, _, rfl, rfl, _, rfl, ?_⟩
    refine ite2 (fun _ => ?_) (fun z => absurd (decide_eq_true (by omega)) z)
    refine ⟨C, mc, _, _, rfl, R.rd, hMost, _, _, rfl, rfl, _, rfl, ?_⟩
    refine ite2 (fun z => ?_) (fun _ => ?_)
    · have : decide (((ls.map lv).length : Int) ≤ 61) = true := decide_eq_true (by omega)
      rw [this] at z
      cases z
    obtain ⟨is, l, rfl, hb0, hb1⟩ := g.init
    have em : (is.map some ++ [l]).map lv = is.map V.int ++ [lv l] := by
      rw [List.map_append, List.map_map]
      rfl
    rw [em] at hS
    refine ⟨_, rfl, _, rfl, a, _, _, _, rfl, rfl, hS, atI_last _ _, rfl, _, rfl, ?_⟩
    cases l with
    | none =>
      refine iteT ?_
      refine ⟨_, rfl, _, rfl, _, rfl, a, _, rfl, hS, fun r H1 hr0 => ?_⟩
      have sm1 := rSlB_same hr0
      have hr1 := rSlB_at hS hr0
      rw [cut_init] at hr1
      have hlen2 : is.length < 61 := by
        rw [List.length_append, List.length_map] at hmost
        exact hmost
      have hasc : ∀ (i : Nat) (x y : Int), is[i]? = some x → is[i + 1]? = some y → x ≤ y := by
        intro i x y hx hy
        have l2 := (List.getElem?_eq_some_iff.mp hy).1
        have h2 := g.asc i (some x) (some y) (by rw [List.getElem?_append_left (by rw [List.length_map]; omega), List.getElem?_map, hx]; rfl) (by rw [List.getElem?_append_left (by rw [List.length_map]; omega), List.getElem?_map, hy]; rfl)
        exact of_decide_eq_true h2
      have hb := hb0
      generalize is = ns at *
      refine ⟨_, rfl, r, rfl, ⟨_, hr1⟩, fun D hD => lc_tup (xs := ns.map V.int) (fun i H' => H' D = some (.lst (List.replicate i (.bl true))) ∧ Same H1 H') ⟨upd_same, same_upd hD⟩ (fun i H' _ z => SqT.same z.2 hr1) ?_ ?_⟩
      · rintro i x H' hx ⟨e, sm⟩
        obtain ⟨n, hn, rfl⟩ := map_at hx
        have hb := hb n (List.mem_of_getElem? hn)
        have hd0 : decide (0 ≤ n) = true := decide_eq_true hb.1
        have hd1 : decide (n ≤ (1000000000000000000 : Int)) = true := decide_eq_true hb.2
        refine ⟨rfl, _, rfl, n, rfl, _, rfl, ?_⟩
        rw [hd0]
        refine iteT ?_
        refine ⟨_, rfl, _, _, rfl, rfl, ?_⟩
        refine ⟨_, e, ?_, ?_, ?_⟩
        · rw [List.length_replicate]
          have := (List.getElem?_eq_some_iff.mp hn).1
          exact small1000 (by omega)
        · rw [upd_same, List.replicate_succ']
          exact congrArg (fun z => some (HO.lst (List.replicate i (V.bl true) ++ [V.bl z]))) hd1
        · intro b o z
          rw [upd_ne (ne_of_none z hD)]
          exact sm b o z
      · rintro H2 ⟨e2, sm2⟩
        refine ⟨D, List.replicate (ns.map V.int).length true, rfl, SqL.of (by rw [e2, List.map_replicate]), _, rfl, ?_⟩
        refine ite2 (fun z => absurd z (by simp)) (fun _ => ?_)
        have hr2 := SqT.same sm2 hr1
        refine ⟨_, rfl, _, rfl, 1, rfl, r, _, rfl, hr2, fun r3 H3 hr3 => ?_⟩
        have sm3 := rSlB_same hr3
        have at3 := rSlB_at hr2 hr3
        rw [cut_drop] at at3
        refine ⟨r, r3, _, _, rfl, .inr ⟨SqT.same sm3 hr2, at3, fun D2 hD2 => ?_⟩⟩
        refine lc_it (walk_zipT (xs := ns.map V.int) (ys := (ns.map V.int).drop 1) (n := ns.length - 1) (by rw [List.length_drop, List.length_map]; omega)) (fun i H' => H' D2 = some (.lst (List.replicate i (.bl true))) ∧ Same H3 H') ⟨upd_same, same_upd hD2⟩
          (fun i H' _ z => ⟨SqT.same z.2 (SqT.same sm3 hr2), SqT.same z.2 at3⟩) ?_ ?_
        · rintro i x H4 H5 hi ⟨e4, sm4⟩ ⟨t, x0, y0, rfl, ht, rfl, hx0, hy0⟩
          obtain ⟨n0, hn0, rfl⟩ := map_at hx0
          have hy0' : (ns.map V.int)[i + 1]? = some y0 := by
            have z : ((ns.map V.int).drop 1)[i]? = some y0 := hy0
            rw [List.getElem?_drop, Nat.add_comm] at z
            exact z
          obtain ⟨n1, hn1, rfl⟩ := map_at hy0'
          have hle : decide (n0 ≤ n1) = true := decide_eq_true (hasc i n0 n1 hn0 hn1)
          refine ⟨t, _, rfl, SqT.of upd_same, rfl, _, _, rfl, _, _, rfl, rfl, rfl, ?_⟩
          refine ⟨_, rfl, _, rfl, _, _, rfl, rfl, ?_⟩
          have nt : D2 ≠ t := ne_of_none e4 ht
          refine ⟨_, Eq.trans (upd_ne nt) e4, ?_, ?_, ?_⟩
          · rw [List.length_replicate]
            exact small1000 (by omega)
          · rw [upd_same, List.replicate_succ']
            exact congrArg (fun z => some (HO.lst (List.replicate i (V.bl true) ++ [V.bl z]))) hle
          · intro b o z
            rw [upd_ne (ne_of_none z hD2), upd_ne (ne_of_none (sm4 b o z) ht)]
            exact sm4 b o z
        · rintro H4 ⟨e4, sm4⟩
          refine ⟨D2, List.replicate (ns.length - 1) true, rfl, SqL.of (by rw [e4, List.map_replicate]), ?_⟩
          have ea : (List.replicate (ns.length - 1) true).all _root_.id = true := by simp
          rw [ea]
          exact k _ (((sm1.trans sm2).trans sm3).trans sm4)
    | some m =>
      refine iteF ?_
      have hlen2 : (is ++ [m]).length ≤ 61 := by
        rw [List.length_append, List.length_map] at hmost
        rw [List.length_append]
        exact hmost
      have e2 : is.map some ++ [some m] = (is ++ [m]).map some := by rw [List.map_append]; rfl
      have hasc : ∀ (i : Nat) (x y : Int), (is ++ [m])[i]? = some x → (is ++ [m])[i + 1]? = some y → x ≤ y := by
        intro i x y hx hy
        have h2 := g.asc i (some x) (some y) (by rw [e2, List.getElem?_map, hx]; rfl) (by rw [e2, List.getElem?_map, hy]; rfl)
        exact of_decide_eq_true h2
      have hb : ∀ i ∈ (is ++ [m]), 0 ≤ i ∧ i ≤ 10 ^ 18 := by
        intro i hi
        rcases List.mem_append.mp hi with h | h
        · exact hb0 i h
        · exact hb1 i (congrArg some (List.mem_singleton.mp h).symm)
      have e3 : is.map V.int ++ [lv (some m)] = (is ++ [m]).map V.int := by rw [List.map_append]; rfl
      rw [e3] at hS
      generalize is ++ [m] = ns at *
      obtain ⟨r, H1, er, eH⟩ : ∃ r H1, r = a ∧ H1 = H := ⟨a, H, rfl, rfl⟩
      have hr1 : SqT K H1 r (ns.map V.int) := by rw [er, eH]; exact hS
      have sm1 : Same H H1 := by rw [eH]; exact Same.refl H
      rw [← eH, ← er]
      refine ⟨_, rfl, ?_⟩
      refine ⟨_, rfl, r, rfl, ⟨_, hr1⟩, fun D hD => lc_tup (xs := ns.map V.int) (fun i H' => H' D = some (.lst (List.replicate i (.bl true))) ∧ Same H1 H') ⟨upd_same, same_upd hD⟩ (fun i H' _ z => SqT.same z.2 hr1) ?_ ?_⟩
      · rintro i x H' hx ⟨e, sm⟩
        obtain ⟨n, hn, rfl⟩ := map_at hx
        have hb := hb n (List.mem_of_getElem? hn)
        have hd0 : decide (0 ≤ n) = true := decide_eq_true hb.1
        have hd1 : decide (n ≤ (1000000000000000000 : Int)) = true := decide_eq_true hb.2
        refine ⟨rfl, _, rfl, n, rfl, _, rfl, ?_⟩
        rw [hd0]
        refine iteT ?_
        refine ⟨_, rfl, _, _, rfl, rfl, ?_⟩
        refine ⟨_, e, ?_, ?_, ?_⟩
        · rw [List.length_replicate]
          have := (List.getElem?_eq_some_iff.mp hn).1
          exact small1000 (by omega)
        · rw [upd_same, List.replicate_succ']
          exact congrArg (fun z => some (HO.lst (List.replicate i (V.bl true) ++ [V.bl z]))) hd1
        · intro b o z
          rw [upd_ne (ne_of_none z hD)]
          exact sm b o z
      · rintro H2 ⟨e2, sm2⟩
        refine ⟨D, List.replicate (ns.map V.int).length true, rfl, SqL.of (by rw [e2, List.map_replicate]), _, rfl, ?_⟩
        refine ite2 (fun z => absurd z (by simp)) (fun _ => ?_)
        have hr2 := SqT.same sm2 hr1
        refine ⟨_, rfl, _, rfl, 1, rfl, r, _, rfl, hr2, fun r3 H3 hr3 => ?_⟩
        have sm3 := rSlB_same hr3
        have at3 := rSlB_at hr2 hr3
        rw [cut_drop] at at3
        refine ⟨r, r3, _, _, rfl, .inr ⟨SqT.same sm3 hr2, at3, fun D2 hD2 => ?_⟩⟩
        refine lc_it (walk_zipT (xs := ns.map V.int) (ys := (ns.map V.int).drop 1) (n := ns.length - 1) (by rw [List.length_drop, List.length_map]; omega)) (fun i H' => H' D2 = some (.lst (List.replicate i (.bl true))) ∧ Same H3 H') ⟨upd_same, same_upd hD2⟩
          (fun i H' _ z => ⟨SqT.same z.2 (SqT.same sm3 hr2), SqT.same z.2 at3⟩) ?_ ?_
        · rintro i x H4 H5 hi ⟨e4, sm4⟩ ⟨t, x0, y0, rfl, ht, rfl, hx0, hy0⟩
          obtain ⟨n0, hn0, rfl⟩ := map_at hx0
          have hy0' : (ns.map V.int)[i + 1]? = some y0 := by
            have z : ((ns.map V.int).drop 1)[i]? = some y0 := hy0
            rw [List.getElem?_drop, Nat.add_comm] at z
            exact z
          obtain ⟨n1, hn1, rfl⟩ := map_at hy0'
          have hle : decide (n0 ≤ n1) = true := decide_eq_true (hasc i n0 n1 hn0 hn1)
          refine ⟨t, _, rfl, SqT.of upd_same, rfl, _, _, rfl, _, _, rfl, rfl, rfl, ?_⟩
          refine ⟨_, rfl, _, rfl, _, _, rfl, rfl, ?_⟩
          have nt : D2 ≠ t := ne_of_none e4 ht
          refine ⟨_, Eq.trans (upd_ne nt) e4, ?_, ?_, ?_⟩
          · rw [List.length_replicate]
            exact small1000 (by omega)
          · rw [upd_same, List.replicate_succ']
            exact congrArg (fun z => some (HO.lst (List.replicate i (V.bl true) ++ [V.bl z]))) hle
          · intro b o z
            rw [upd_ne (ne_of_none z hD2), upd_ne (ne_of_none (sm4 b o z) ht)]
            exact sm4 b o z
        · rintro H4 ⟨e4, sm4⟩
          refine ⟨D2, List.replicate (ns.length - 1) true, rfl, SqL.of (by rw [e4, List.map_replicate]), ?_⟩
          have ea : (List.replicate (ns.length - 1) true).all _root_.id = true := by simp
          rw [ea]
          exact k _ (((sm1.trans sm2).trans sm3).trans sm4)
/-- a rule stands at r with these (shortest) lives -/
def RuleAt (C : Addr) (H : Hp) (r : Addr) (ls : List (Option Int)) : Prop := ∃ dx t, H r = some (.ins C dx (putF "_lives" (.ref t) [])) ∧ H t = some (.tup (ls.map lv))
theorem RuleAt.same {C r : Addr} {H H' : Hp} {ls : List (Option Int)} (h : RuleAt C H r ls) (s : Same H H') : RuleAt C H' r ls := by
  obtain ⟨dx, t, h1, h2⟩ := h
  exact ⟨dx, t, s _ _ h1, s _ _ h2⟩
def spInit (C : Addr) : Sp := fun vs H Q _ => ∃ (x p dx : Addr) (ls : List (Option Int)), vs = [.ref x, .ref p] ∧ H x = some (.ins C dx []) ∧ H p = some (.tup (ls.map lv)) ∧ Good ls ∧
  ∀ H', (∀ b o, H b = some o → b ≠ x → H' b = some o) → RuleAt C H' x (short ls) → Q .non H'
theorem ok_init (F : Fun K "__init__" "Rule.__init__" s_Rule___init__ fInit fdInit) (T : Bl mg) (R : RuleT K mg C CR mc fInit pAre fAre fdAre) (G_are : FnOk P w K mg base CX0 2 fAre fdAre ["value"] (spAre K)) (C_shortest : HasO P w K mg base 1 "shortest" ["lives"] spShortest) :
    FnR P w K mg base CX0 3 fInit (fun vs H Q E => ∃ ws rest, vs = ws ++ rest ∧ ws.length = ["self"].length ∧ rest.length ≤ sizeLine ∧ ∀ p, H p = Option.none → spInit C (ws ++ [V.ref p]) (upd H p (.tup rest)) Q E) := by
  obtain ⟨oc, od, kV, doc, pm, an, cdv, ct, osl, efd, lk, hcd⟩ := F.ex
  subst efd
  refine StX.fn_star (ps := ["self"]) (pv := "lives") (N := N_Rule___init__) lk hcd sc_Rule___init__ StX.cxUp_none (StX.bind_star1 (B := fun us => bindArgs (PySem.W.fnOf "__init__" "Rule.__init__" (defArgs s_Rule___init__) (defBody s_Rule___init__) (defScope s_Rule___init__) .none kV doc pm an cdv ct) ⟨us, []⟩) (fun _ => rfl) (fun _ _ _ => rfl)) (fun A outer s H vs Q E hr h => ?_)
  obtain ⟨x, p, dx, ls, rfl, hx, hp, g, k⟩ := h
  have body : PSs _ (defBody s_Rule___init__) _ := PSs.nox (X := cxOf CX0 P w K mg base N_Rule___init__ "Rule.__init__" (defScope s_Rule___init__) fInit cdv A outer s H E) (by exact (pss_cons (ps_set (i := 2) sc_Rule___init__.nd rfl (Or.inl rfl) (pe_and (pe_cmpR op_eq (pe_callB call_len_seq (by rfl) T.len PySem.boot_len (pa_cons (pv 1) pa_nil)) pe_int (nomark _)) (pe_one (pe_callB call_isi (by rfl) T.isinstance (by decide +kernel) (pa_cons (pe_ix ix_tup (pv 1) pe_int (fun _ _ => rfl)) (pa_cons (pe_glob (v := .ref CR) rfl R.m_Reckoned rfl) pa_nil))))))
      (pss_cons (ps_if (PW.pt (pw_and (pt_not (pt_val (pv 2))) (pw_and1 (pt_not (pt_val (pe_static (pe_glob (v := .ref C) rfl R.m_Rule rfl) R.rd R.s_are G_are R.b_are (hr.mono (by decide)) (pa_cons (pv 1) pa_nil))))))) (pss_one ps_never) pss_nil)
      (pss_one (ps_fld (pv 0) (pe_hasO C_shortest (hr.mono (by decide)) rfl (pa_cons (pe_ifExp (pt_val (pv 2)) (pe_fld (pe_ix ix_tup (pv 1) pe_int (fun _ _ => rfl)) rfl) (pv 1)) pa_nil)) rfl)))))
  refine ⟨_, body, ?_⟩
  have npx : p ≠ x := ne_of hp hx (by intro z; cases z)
  obtain ⟨is, l, els, hb0, hb1⟩ := g.init
  have hpos := g.pos
  have hmost := g.most
  have h0 : (ls.map lv)[0]? = some (lv ls[0]) := by rw [List.getElem?_map, List.getElem?_eq_getElem hpos]; rfl
  have hlen : (ls.map lv).length = ls.length := List.length_map _
  -- reckoned = len(lives) == 1 and isinstance(lives[0], Reckoned)
  refine ⟨_, rfl, p, _, rfl, .inr (SqT.of hp), rfl, _, rfl, ?_⟩
  refine ite2 (fun h1 => ?_) (fun _ => ?_)
  · have hf : PySem.W.kitOne K (match lv ls[0] with | .int _ => .type "int" | _ => .type "NoneType") (.ref CR) = some false := by
      cases ls[0] with
      | none => exact R.notR2
      | some i => exact R.notR1
    have ht : TyX K H (lv ls[0]) (match lv ls[0] with | .int _ => .type "int" | _ => .type "NoneType") := by
      cases ls[0] with
      | none => exact .base .non
      | some i => exact .base (.int i)
    refine ⟨_, rfl, p, _, _, _, rfl, rfl, SqT.of hp, at_of (j := 0) rfl h0, _, _, _, _, false, rfl, .own CR, ht, hf, ?_⟩
    refine ⟨_, rfl, false, rfl, ?_⟩
    refine ite2 (fun _ => ?_) (fun z => absurd rfl z)
    refine ⟨rfl, _, rfl, p, ls, rfl, SqT.of hp, g, fun H1 s1 => ⟨true, rfl, ?_⟩⟩
    refine ite2 (fun z => absurd z (by decide)) (fun _ => ?_)
    refine ⟨_, rfl, false, rfl, ?_⟩
    refine ite2 (fun z => absurd z (by decide)) (fun _ => ?_)
    refine ⟨_, rfl, p, ls, rfl, s1 _ _ hp, hpos, by omega, fun r H2 s2 e2 => ?_⟩
    have ex2 : H2 x = some (.ins C dx []) := s2 _ _ (s1 _ _ hx)
    have nrx : r ≠ x := ne_of e2 ex2 (by intro z; cases z)
    refine ⟨_, rfl, x, C, dx, [], rfl, ex2, R.cl, R.nL, (by show 0 < 1000; decide), ?_⟩
    exact k _ (fun b o e ne => by rw [upd_ne ne]; exact s2 b o (s1 b o e)) ⟨dx, r, upd_same, by rw [upd_ne nrx]; exact e2⟩
  · skip
    refine ⟨_, rfl, false, rfl, ?_⟩
    refine ite2 (fun _ => ?_) (fun z => absurd rfl z)
    refine ⟨rfl, _, rfl, p, ls, rfl, SqT.of hp, g, fun H1 s1 => ⟨true, rfl, ?_⟩⟩
    refine ite2 (fun z => absurd z (by decide)) (fun _ => ?_)
    refine ⟨_, rfl, false, rfl, ?_⟩
    refine ite2 (fun z => absurd z (by decide)) (fun _ => ?_)
    refine ⟨_, rfl, p, ls, rfl, s1 _ _ hp, hpos, by omega, fun r H2 s2 e2 => ?_⟩
    have ex2 : H2 x = some (.ins C dx []) := s2 _ _ (s1 _ _ hx)
    have nrx : r ≠ x := ne_of e2 ex2 (by intro z; cases z)
    refine ⟨_, rfl, x, C, dx, [], rfl, ex2, R.cl, R.nL, (by show 0 < 1000; decide), ?_⟩
    exact k _ (fun b o e ne => by rw [upd_ne ne]; exact s2 b o (s1 b o e)) ⟨dx, r, upd_same, by rw [upd_ne nrx]; exact e2⟩
theorem fnR_ok {k : Nat} {f : Addr} {fd : FuncData} {ps : List Str} {sp : Sp} (F : FnOk P w K mg base CX0 k f fd ps sp) (b : Binds K fd ps []) : FnR P w K mg base CX0 k f sp := by
  intro A outer s H us vs Q E hr e0 r h
  have hl : us.length = ps.length := r.length.symm.trans (F.len _ _ _ _ h)
  have kin : K.In s.heap := e0.mod.kin.keeps (fun b o e => And.left (e0.bs b o e))
  have hb := b s us kin (by rw [List.append_nil]; exact hl)
  rw [List.append_nil] at hb
  exact F.run A outer s H ⟨us, []⟩ us vs Q E hr e0 hb r h
def spOf (K : PySem.W.Frag) (C : Addr) : Sp := fun vs H Q _ => ∃ (a : Addr) (ls : List (Option Int)), vs = [.ref C, .ref a] ∧ SqT K H a (ls.map lv) ∧ Good ls ∧ ∀ r H', Same H H' → RuleAt C H' r (short ls) → Q (.ref r) H'
theorem ok_of {fOf : Addr} {fdOf : FuncData} (F : Fun K "of" "Rule.of" s_Rule_of fOf fdOf) (T : Bl mg) (R : RuleT K mg C CR mc fInit pAre fAre fdAre) (G_are : FnOk P w K mg base CX0 2 fAre fdAre ["value"] (spAre K))
    (G_init : FnR P w K mg base CX0 3 fInit (fun vs H Q E => ∃ ws rest, vs = ws ++ rest ∧ ws.length = ["self"].length ∧ rest.length ≤ sizeLine ∧ ∀ p, H p = Option.none → spInit C (ws ++ [V.ref p]) (upd H p (.tup rest)) Q E)) :
    FnOk P w K mg base CX0 5 fOf fdOf ["cls", "lives"] (spOf K C) := by
  refine F.ok sc_Rule_of (fun vs H Q E h => ?_) (fun cdv A outer s H vs Q E hr h => ?_)
  · obtain ⟨a, ls, rfl, _⟩ := h
    rfl
  · obtain ⟨a, ls, rfl, hS, g, k⟩ := h
    refine ⟨_, (pss_cons (ps_if (pt_not (pt_val (pe_static (pv 0) R.rd R.s_are G_are R.b_are (hr.mono (by decide)) (pa_cons (pv 1) pa_nil)))) (pss_one ps_never) pss_nil)
      (pss_one (ps_ret (pe_makeS R.mkc G_init (hr.mono (by decide)) rfl R.m_Rule (pv 1))))), ?_⟩
    refine ⟨_, rfl, rfl, _, rfl, a, ls, rfl, hS, g, fun H1 s1 => ⟨true, rfl, ?_⟩⟩
    refine ite2 (fun z => absurd z (by decide)) (fun _ => ?_)
    have hm := g.most
    refine ⟨_, rfl, a, _, rfl, .inl (SqT.same s1 hS), fun x dx nx ndx nex => ⟨[.ref x], ls.map lv, rfl, rfl, by rw [List.length_map]; exact Nat.le_of_lt (small1000 (by omega)), fun p hp => ?_⟩⟩
    have nxp : x ≠ p := ne_of_none upd_same hp
    refine ⟨x, p, dx, ls, rfl, by rw [upd_ne nxp]; exact upd_same, upd_same, g, fun H' kp ra => ⟨rfl, k x H' ?_ ra⟩⟩
    intro b o e
    have e1 := s1 b o e
    have nbx : b ≠ x := ne_of_none e1 nx
    have nbd : b ≠ dx := ne_of_none e1 ndx
    have e2 : upd (upd H1 dx (.own x)) x (.ins C dx []) b = some o := by
      rw [upd_ne nbx, upd_ne nbd]
      exact e1
    exact kp b o (by rw [upd_ne (ne_of_none e2 hp)]; exact e2) nbx
theorem lives_of (t : Addr) : (putF ("_lives" : Str) (V.ref t) []).lookup ("_lives" : Str) = some (.ref t) := by
  rw [lookup_putF, if_pos rfl]
end
/-! SPLIT -/
theorem PotAt.ne_tup {a t : Addr} {n : Nat} {H : Hp} {xs : List V} (p : PotAt H a n) (h : H t = some (.tup xs)) : t ≠ a := by
  obtain ⟨g, s, c, e, _⟩ := p
  exact ne_of h e (by intro z; cases z)
theorem PotAt.noTup {a : Addr} {n : Nat} {H : Hp} (p : PotAt H a n) : NoTup [a] H := fun e he o ho => by
  obtain ⟨g, s, c, e1, _⟩ := p
  rw [List.mem_singleton.mp he, e1] at ho
  cases ho
  exact ⟨fun _ z => (by cases z), fun _ _ z => (by cases z)⟩
theorem But.buts {a : Addr} {H H' : Hp} (b : But a H H') : Buts [a] H H' := fun c o e n => b c o e fun z => n (by rw [z]; exact List.mem_singleton.mpr rfl)
theorem to_st {t : TS} {D : Ends} {σ σ' : L2.St} {H : Hp} (e : σ = σ') (h : t D σ' H) : t D σ H := by
  subst e
  exact h
theorem gN_st {i : Nat} {x : V} {σ σ' : L2.St} {H : Hp} {k : L2.St → Hp → Prop} (e : σ.set i (some x) = σ') (h : k σ' H) : gName i x σ H k := by
  subst e
  exact h
theorem gN_intE {i : Nat} {z : Int} {σ : L2.St} {H : Hp} {k : L2.St → Hp → Prop} (h : ∀ y : Int, y = z → gName i (.int y) σ H k) : gName i (.int z) σ H k := h z rfl
theorem ne_self (v : V) : ¬ (!decide (v = v)) = true := by simp
theorem call_isiK {X : Cx} {K : PySem.W.Frag} (hK : X.K = K) : CallR X (.builtin "isinstance") (rIsi K) := by
  subst hK
  exact call_isi
theorem has_mono {P : Program} {w : World} {K : PySem.W.Frag} {mg : Str → Option Value} {base : Heap} {k j : Nat} {x : Str} {ps : List Str} {sp : Sp} (h : Has P w K mg base k x ps sp) (z : k ≤ j) : Has P w K mg base j x ps sp := by
  obtain ⟨f, fd, a1, a2, a3, F⟩ := h
  exact ⟨f, fd, a1, a2, a3, F.mono z⟩
theorem gN_stH {i : Nat} {x : V} {σ σ' : L2.St} {H H' : Hp} {k : L2.St → Hp → Prop} (e : σ.set i (some x) = σ') (eH : H = H') (h : k σ' H') : gName i x σ H k := by
  subst e
  subst eH
  exact h
def spNatQ (K : PySem.W.Frag) : Sp := fun vs H Q _ => ∃ (ex : List Addr) (v : V) (d : PyData), vs = [v] ∧ Dq K ex H v d ∧ Q (.bl (natD d)) H
section
variable {P : Program} {w : World} {K : PySem.W.Frag} {mg : Str → Option Value} {base : Heap}
theorem ok_natQ (D : Df K mg "is_natural" s_is_natural ["value"]) (T : Bl mg) : HasO P w K mg base 1 "is_natural" ["value"] (spNatQ K) := by
  refine D.hasO sc_is_natural (fun vs H Q E h => ?_) (fun f cdv A outer s H vs Q E hr h => ?_)
  · obtain ⟨ex, v, d, rfl, _⟩ := h
    rfl
  · obtain ⟨ex, v, d, rfl, hd, k⟩ := h
    refine ⟨_, (pss_one (ps_ret (pe_and (pe_callB call_isi (by rfl) T.isinstance (by decide +kernel) (pa_cons (pv 0) (pa_cons (pe_bltn (v := .ty "int") (by rfl) T.int (by decide +kernel) rfl) pa_nil))) (pe_and (pe_not (pe_callB call_isi (by rfl) T.isinstance (by decide +kernel) (pa_cons (pv 0) (pa_cons (pe_bltn (v := .ty "bool") (by rfl) T.bool (by decide +kernel) rfl) pa_nil)))) (pe_one (pe_cmpR op_ge (pv 0) pe_int (nomark _))))))), ?_⟩
    cases hd with
    | int i =>
      refine ⟨_, rfl, _, _, _, _, true, rfl, .ty _, .base (.int i), kit_ty (by decide +kernel), true, rfl, ?_⟩
      refine iteT ?_
      refine ⟨_, rfl, _, _, _, _, false, rfl, .ty _, .base (.int i), kit_ty (by decide +kernel), false, rfl, true, rfl, ?_⟩
      refine iteT ?_
      exact ⟨_, rfl, _, _, rfl, rfl, k⟩
    | bl b =>
      refine ⟨_, rfl, _, _, _, _, true, rfl, .ty _, .base (.bl b), kit_ty (by decide +kernel), true, rfl, ?_⟩
      refine iteT ?_
      refine ⟨_, rfl, _, _, _, _, true, rfl, .ty _, .base (.bl b), kit_ty (by decide +kernel), true, rfl, false, rfl, ?_⟩
      exact iteF k
    | non => exact ⟨_, rfl, _, _, _, _, false, rfl, .ty _, .base .non, kit_ty (by decide +kernel), false, rfl, iteF k⟩
    | str x => exact ⟨_, rfl, _, _, _, _, false, rfl, .ty _, .base (.str x), kit_ty (by decide +kernel), false, rfl, iteF k⟩
    | lst e n a => exact ⟨_, rfl, _, _, _, _, false, rfl, .ty _, .base (.lst e), kit_ty (by decide +kernel), false, rfl, iteF k⟩
    | tup e a => exact ⟨_, rfl, _, _, _, _, false, rfl, .ty _, tyx_seqt e, kit_ty (by decide +kernel), false, rfl, iteF k⟩
    | dct e n a => exact ⟨_, rfl, _, _, _, _, false, rfl, .ty _, .base (.dK e), kit_ty (by decide +kernel), false, rfl, iteF k⟩
end
abbrev s_BadText___init__ : Stmt := (inClass (top 4) 0)
abbrev N_BadText___init__ : List Str := ["self", "value"]
theorem sc_BadText___init__ : FnScope N_BadText___init__ ["self", "value"] (defScope s_BadText___init__) :=
  ⟨rfl, rfl, rfl, by decide +kernel, rfl, by decide +kernel, by decide +kernel⟩
theorem ok_BadText {P : Program} {w : World} {K : PySem.W.Frag} {mg : Str → Option Value} {base : Heap} {CK CB : Addr} {mcK : Value} {f : Addr} {fd : FuncData} (F : Fun K "__init__" "BadText.__init__" s_BadText___init__ f fd) (TK : KeepT K mg CK mcK) (B : BadT K CB f) : FnOk P w K mg base CX0 1 f fd ["self", "value"] (spBad CB) := by
  refine F.ok sc_BadText___init__ (fun vs H Q E h => ?_) (fun cdv A outer s H vs Q E hr h => ?_)
  · obtain ⟨a, v, rfl, _⟩ := h
    rfl
  · obtain ⟨a, v, rfl, ha, k⟩ := h
    refine ⟨_, (pss_cons (ps_expr (pe_kinit (pe_glob (v := .ref CK) rfl TK.m rfl) TK.rd TK.ini (pa_cons (pv 0) (pa_cons pe_str pa_nil))))
      (pss_one (ps_ost (pv 0) (pv 1)))), ?_⟩
    refine ⟨rfl, _, rfl, a, CB, _, rfl, by show 1 ≤ 1000; decide, B.oex, ha, ?_⟩
    exact ⟨_, rfl, _, rfl, a, CB, rfl, B.oex, B.nv, .inl ⟨ha, fun d hd hda => k d hd hda⟩⟩
/-- a life that may stand ahead of the last -/
def okL : PyData → Bool
  | .int i => decide (0 ≤ i) && decide (i ≤ 10 ^ 18)
  | _ => false
def leD : PyData → PyData → Bool
  | .int i, .int j => decide (i ≤ j)
  | _, _ => false
def intsD (ds : List PyData) : List PyData := match ds.getLast? with
  | some .none => ds.dropLast
  | _ => ds
/-- what are_lives says of a value of any kind -/
def areD : PyData → Bool
  | .tuple ds => decide (1 ≤ ds.length) && decide (ds.length ≤ 61) && (intsD ds).all okL && ((intsD ds).zip ((intsD ds).drop 1)).all fun p => leD p.1 p.2
  | _ => false
def spAreQ (K : PySem.W.Frag) : Sp := fun vs H Q _ => ∃ (ex : List Addr) (v : V) (d : PyData), vs = [v] ∧ Dq K ex H v d ∧ ∀ H', Same H H' → Q (.bl (areD d)) H'
theorem DqAll.zip {K : PySem.W.Frag} {bad : List Addr} {H : Hp} : ∀ {xs : List V} {ds : List PyData}, DqAll K bad H xs ds → ∀ p ∈ xs.zip ds, Dq K bad H p.1 p.2
  | _, _, .nil, p, h => nomatch h
  | _, _, .cons a b, p, h => by
    rcases List.mem_cons.mp h with e | h
    · rw [e]; exact a
    · exact DqAll.zip b p h
theorem DqAll.len {K : PySem.W.Frag} {bad : List Addr} {H : Hp} : ∀ {xs : List V} {ds : List PyData}, DqAll K bad H xs ds → xs.length = ds.length
  | _, _, .nil => rfl
  | _, _, .cons _ b => congrArg (· + 1) b.len
theorem intsD_non {ds : List PyData} : intsD (ds ++ [.none]) = ds := by
  unfold intsD
  simp
theorem intsD_some {ds : List PyData} {d : PyData} (h : d ≠ .none) : intsD (ds ++ [d]) = ds ++ [d] := by
  unfold intsD
  rw [show (ds ++ [d]).getLast? = some d by simp]
  cases d <;> first | rfl | exact absurd rfl h
theorem intsD_len (ds : List PyData) : (intsD ds).length ≤ ds.length := by
  unfold intsD
  split
  · rw [List.length_dropLast]; omega
  · exact Nat.le_refl _
theorem allOk {K : PySem.W.Frag} {bad : List Addr} {H : Hp} : ∀ {xs : List V} {ds : List PyData}, DqAll K bad H xs ds → ds.all okL = true → ∃ ns : List Int, ds = ns.map PyData.int ∧ xs = ns.map V.int
  | _, _, .nil, _ => ⟨[], rfl, rfl⟩
  | _, _, .cons (d := d) a b, h => by
    rw [List.all_cons, Bool.and_eq_true] at h
    obtain ⟨ns, e1, e2⟩ := allOk b h.2
    cases d with
    | int i =>
      cases a
      exact ⟨i :: ns, by rw [e1]; rfl, by rw [e2]; rfl⟩
    | _ => cases h.1
theorem tIf_pick {t : TT} {A B : TE} {σ : L2.St} {H : Hp} {k : VK} (R : V → Hp → Prop) (hk : ∀ v H', R v H' → k v H') (h : ∀ k' : VK, (∀ v H', R v H' → k' v H') → tIf t A B σ H k') : tIf t A B σ H k := h k hk
theorem okL_nat {d : PyData} (h : natD d = true) : ∃ i : Int, d = .int i ∧ 0 ≤ i := by
  cases d <;> first | cases h | exact ⟨_, rfl, of_decide_eq_true h⟩
theorem okL_no {d : PyData} (h : natD d = false) : okL d = false := by
  cases d <;> first | rfl | (show (decide _ && _) = false; rw [show decide _ = false from h]; rfl)
section
variable {P : Program} {w : World} {K : PySem.W.Frag} {mg : Str → Option Value} {base : Heap} {C CR : Addr} {mc : Value} {fInit pAre fAre : Addr} {fdAre : FuncData}
theorem ok_areQ (F : Fun K "are_lives" "Rule.are_lives" s_Rule_are_lives fAre fdAre) (T : Bl mg) (R : RuleT K mg C CR mc fInit pAre fAre fdAre) (C_is_natural : HasO P w K mg base 1 "is_natural" ["value"] (spNatQ K)) : FnOk P w K mg base CX0 2 fAre fdAre ["value"] (spAreQ K) := by
  refine F.ok sc_Rule_are_lives (fun vs H Q E h => ?_) (fun cdv A outer s H vs Q E hr h => ?_)
  · obtain ⟨ex, v, d, rfl, _⟩ := h
    rfl
  · obtain ⟨ex, v, d, rfl, hd, k⟩ := h
    obtain ⟨tL, hLong⟩ := R.m_Long
    obtain ⟨uM, hMost⟩ := R.most
    refine ⟨_, (pss_cons (ps_if (PW.pt (pw_or (pt_not (pt_val (pe_callB call_isi (by rfl) T.isinstance (by decide +kernel) (pa_cons (pv 0) (pa_cons (pe_bltn (v := .ty "tuple") (by rfl) T.tuple (by decide +kernel) rfl) pa_nil))))) (pw_or1 (pt_not (pt_chain op_le op_le pe_int (pe_callB call_len_seq (by rfl) T.len PySem.boot_len (pa_cons (pv 0) pa_nil)) (ClX.pe_cval (pe_glob (v := .ref C) rfl R.m_Rule rfl))))))) (pss_one (ps_ret pe_bl)) pss_nil)
      (pss_cons (ps_set (i := 1) sc_Rule_are_lives.nd rfl (Or.inl rfl) (pe_ifExp (pt_cmpR op_isN (pe_ix ix_tup (pv 0) (pe_un un_neg pe_int) (fun _ _ => rfl)) pe_non (nomark _)) (pe_slice sl_tupB (pv 0) po_none (po_some (pe_un un_neg pe_int))) (pv 0)))
      (pss_cons (ps_if (pt_not (pt_val (pe_callB (cr_all rfl) (by rfl) T.all (by decide +kernel) (pa_cons (pe_lc (own := [("life", 2)]) (g := gName 2) (tt := tYes) rfl sc_Rule_are_lives.nd (pi_tup (pv 1)) (blkOk_by (N := N_Rule_are_lives) (sc := defScope s_Rule_are_lives) (by decide +kernel)) (fun _ _ _ _ _ => pg_name (i := 2) sc_Rule_are_lives.nd rfl (Or.inl rfl)) (fun _ _ _ _ _ => pts_nil) (fun _ _ _ _ _ => (pe_and (pe_hasO C_is_natural (hr.mono (by decide)) rfl (pa_cons (pv 2) pa_nil)) (pe_one (pe_cmpR op_le (pv 2) (pe_glob (v := .int 1000000000000000000) rfl hLong ⟨_, rfl⟩) (nomark _)))))) pa_nil)))) (pss_one (ps_ret pe_bl)) pss_nil)
      (pss_one (ps_ret (pe_callB (cr_all rfl) (by rfl) T.all (by decide +kernel) (pa_cons (pe_lc (own := [("life", 2), ("following", 3)]) (g := gTup _ 2 (gCons (gName 2) (gCons (gName 3) (gNil)))) (tt := tYes) rfl sc_Rule_are_lives.nd (RZ.pi_zipA rfl T.zip (pa_cons (pv 1) (pa_cons (pe_slice sl_tupB (pv 1) (po_some pe_int) po_none) pa_nil))) (blkOk_by (N := N_Rule_are_lives) (sc := defScope s_Rule_are_lives) (by decide +kernel)) (fun _ _ _ _ _ => pg_tup rfl (pgs_cons (pg_name (i := 2) sc_Rule_are_lives.nd rfl (Or.inl rfl)) (pgs_cons (pg_name (i := 3) sc_Rule_are_lives.nd rfl (Or.inl rfl)) pgs_nil))) (fun _ _ _ _ _ => pts_nil) (fun _ _ _ _ _ => (pe_cmpR op_le (pv 2) (pv 3) (nomark _)))) pa_nil))))))), ?_⟩
    cases hd with
    | int i => exact ⟨_, rfl, _, _, _, _, false, rfl, .ty _, .base (.int i), kit_ty (by decide +kernel), _, rfl, ite2 (fun _ => k H (Same.refl H)) (fun z => absurd rfl z)⟩
    | bl b => exact ⟨_, rfl, _, _, _, _, false, rfl, .ty _, .base (.bl b), kit_ty (by decide +kernel), _, rfl, ite2 (fun _ => k H (Same.refl H)) (fun z => absurd rfl z)⟩
    | non => exact ⟨_, rfl, _, _, _, _, false, rfl, .ty _, .base .non, kit_ty (by decide +kernel), _, rfl, ite2 (fun _ => k H (Same.refl H)) (fun z => absurd rfl z)⟩
    | str x => exact ⟨_, rfl, _, _, _, _, false, rfl, .ty _, .base (.str x), kit_ty (by decide +kernel), _, rfl, ite2 (fun _ => k H (Same.refl H)) (fun z => absurd rfl z)⟩
    | lst e n a => exact ⟨_, rfl, _, _, _, _, false, rfl, .ty _, .base (.lst e), kit_ty (by decide +kernel), _, rfl, ite2 (fun _ => k H (Same.refl H)) (fun z => absurd rfl z)⟩
    | dct e n a => exact ⟨_, rfl, _, _, _, _, false, rfl, .ty _, .base (.dK e), kit_ty (by decide +kernel), _, rfl, ite2 (fun _ => k H (Same.refl H)) (fun z => absurd rfl z)⟩
    | @tup a xs ds hS ha =>
      have hl := ha.len
      have ey : areD (.tuple ds) = (decide (1 ≤ ds.length) && decide (ds.length ≤ 61) && (intsD ds).all okL && ((intsD ds).zip ((intsD ds).drop 1)).all fun p => leD p.1 p.2) := rfl
      rw [ey] at k
      refine ⟨_, rfl, _, _, _, _, true, rfl, .ty _, tyx_tup hS, kit_ty (by decide +kernel), _, rfl, ?_⟩
      refine ite2 (fun z => absurd z (by decide)) (fun _ => ?_)
      refine ⟨_, rfl, a, _, rfl, .inr hS, _, _, rfl, rfl, _, rfl, ?_⟩
      refine ite2 (fun c1 => ?_) (fun c1 => ?_)
      rotate_left
      · have n1 : ¬ 1 ≤ ds.length := fun z => c1 (decide_eq_true (by omega))
        refine ⟨_, rfl, ite2 (fun _ => ?_) (fun z => absurd rfl z)⟩
        have z := k H (Same.refl H)
        rw [show decide (1 ≤ ds.length) = false from decide_eq_false n1] at z
        exact z
      have c1' : 1 ≤ ds.length := by
        have := of_decide_eq_true c1
        omega
      refine ⟨C, mc, _, _, rfl, R.rd, hMost, _, _, rfl, rfl, _, rfl, ?_⟩
      refine ite2 (fun c2 => ?_) (fun c2 => ?_)
      · have n2 : ¬ ds.length ≤ 61 := fun z => by
          rw [decide_eq_true (show ((xs.length : Nat) : Int) ≤ 61 by omega)] at c2
          cases c2
        have z := k H (Same.refl H)
        rw [show decide (ds.length ≤ 61) = false from decide_eq_false n2, Bool.and_false, Bool.false_and, Bool.false_and] at z
        exact z
      have c2' : ds.length ≤ 61 := by
        by_cases z : ds.length ≤ 61
        · exact z
        · rw [decide_eq_false (show ¬ ((xs.length : Nat) : Int) ≤ 61 by omega)] at c2
          exact absurd rfl c2
      rw [decide_eq_true c1', decide_eq_true c2', Bool.true_and, Bool.true_and] at k
      obtain ⟨x0, xl, rfl⟩ : ∃ x0 xl, xs = x0 ++ [xl] := ⟨xs.dropLast, xs.getLast (by intro z; rw [z] at hl; simp at hl; omega), (List.dropLast_concat_getLast _).symm⟩
      obtain ⟨d0, dl, rfl⟩ : ∃ d0 dl, ds = d0 ++ [dl] := ⟨ds.dropLast, ds.getLast (by intro z; rw [z] at c1'; simp at c1'), (List.dropLast_concat_getLast _).symm⟩
      have l0 : x0.length = d0.length := by
        rw [List.length_append, List.length_append] at hl
        exact Nat.succ.inj hl
      have hdl : Dq K ex H xl dl := by
        have z := ha.zip (xl, dl) (by rw [List.zip_append l0]; simp)
        exact z
      have ha0 : DqAll K ex H x0 d0 := by
        have z := DqAll.take x0.length ha
        rw [List.take_left' rfl, List.take_left' l0.symm] at z
        exact z
      unfold tNext
      dsimp only
      refine tIf_pick (fun v G => ∃ (r : Addr) (ys : List V), v = .ref r ∧ Same H G ∧ SqT K G r ys ∧ DqAll K ex G ys (intsD (d0 ++ [dl]))) (fun v G hv => ?_) (fun k' hk' => ?_)
      rotate_left
      · refine ⟨_, rfl, _, rfl, a, _, _, _, rfl, rfl, hS, atI_last _ _, rfl, _, rfl, ?_⟩
        by_cases hx : xl = V.non
        · subst hx
          have hdn : dl = .none := by cases hdl; rfl
          subst hdn
          refine ite2 (fun _ => ?_) (fun z => absurd (decide_eq_true rfl) z)
          refine ⟨_, rfl, _, rfl, _, rfl, a, _, rfl, hS, fun r H1 hr0 => ?_⟩
          have sm1 := rSlB_same hr0
          have hr1 := rSlB_at hS hr0
          rw [cut_init] at hr1
          rw [intsD_non] at hk'
          exact hk' _ _ ⟨r, x0, rfl, sm1, hr1, ha0.same sm1⟩
        · refine ite2 (fun z => absurd (of_decide_eq_true z) hx) (fun _ => ?_)
          have hdn : dl ≠ .none := fun z => by
            subst z
            cases hdl
            exact hx rfl
          rw [intsD_some hdn] at hk'
          exact ⟨_, rfl, hk' _ _ ⟨a, _, rfl, Same.refl _, hS, ha⟩⟩
      obtain ⟨r, ys, rfl, s1, hr1, hy⟩ := hv
      have le61 : (intsD (d0 ++ [dl])).length ≤ 61 := Nat.le_trans (intsD_len _) c2'
      generalize intsD (d0 ++ [dl]) = es at *
      have ly := hy.len
      have mf : (ys.zip es).map Prod.fst = ys := List.map_fst_zip (by omega)
      have ms : (ys.zip es).map Prod.snd = es := List.map_snd_zip (by omega)
      refine ⟨_, rfl, r, rfl, ⟨_, hr1⟩, fun D hD => lc_genT (ks := ys.zip es) (f := Prod.fst) (p := fun _ => true) (e := fun p => V.bl (okL p.2)) hD (by rw [mf]; exact hr1) (small1000 (by rw [List.length_zip]; omega)) (fun p H' hp s2 N S hN hS => ?_) (fun H2 s2 eD => ?_)⟩
      · have hpd := (hy.zip p hp).same s2
        obtain ⟨v, d⟩ := p
        refine ⟨rfl, _, rfl, ex, v, d, rfl, hpd, _, rfl, ?_⟩
        cases hnat : natD d with
        | false => exact iteF ((congrArg (fun b => N (V.bl b) H') (okL_no hnat)).mp (hN rfl _ (Same.refl _)))
        | true =>
          obtain ⟨n, rfl, n0⟩ := okL_nat hnat
          cases hpd
          refine iteT ?_
          refine ⟨_, rfl, _, _, rfl, rfl, ?_⟩
          exact (congrArg (fun b => N (V.bl b) H') (show okL (.int n) = decide (n ≤ (1000000000000000000 : Int)) by show (decide (0 ≤ n) && decide (n ≤ 10 ^ 18)) = _; rw [decide_eq_true n0, Bool.true_and]; rfl)).mp (hN rfl _ (Same.refl _))
      rw [List.filter_eq_self.mpr (fun _ _ => rfl)] at eD
      have em : (ys.zip es).map (fun p => V.bl (okL p.2)) = (es.map okL).map V.bl := by
        rw [← ms, List.map_map, List.map_map, ms]
        rfl
      rw [em] at eD
      refine ⟨D, es.map okL, rfl, SqL.of eD, _, rfl, ?_⟩
      rw [List.all_map, show (es.all (_root_.id ∘ okL)) = es.all okL from rfl]
      have s02 := s1.trans s2
      cases hall : es.all okL with
      | false =>
        refine ite2 (fun _ => ?_) (fun z => absurd rfl z)
        have z := k H2 s02
        rw [hall, Bool.false_and] at z
        exact z
      | true =>
        refine ite2 (fun z => absurd z (by decide)) (fun _ => ?_)
        rw [hall, Bool.true_and] at k
        obtain ⟨ns, rfl, rfl⟩ : ∃ ns : List Int, es = ns.map PyData.int ∧ ys = ns.map V.int := allOk hy hall
        have hr2 := SqT.same s2 hr1
        rw [List.length_map] at le61
        refine ⟨_, rfl, _, rfl, 1, rfl, r, _, rfl, hr2, fun r3 H3 hr3 => ?_⟩
        have sm3 := rSlB_same hr3
        have at3 := rSlB_at hr2 hr3
        rw [cut_drop] at at3
        refine ⟨r, r3, _, _, rfl, .inr ⟨SqT.same sm3 hr2, at3, fun D2 hD2 => ?_⟩⟩
        refine lc_it (walk_zipT (xs := ns.map V.int) (ys := (ns.map V.int).drop 1) (n := ns.length - 1) (by rw [List.length_drop, List.length_map]; omega)) (fun i H' => H' D2 = some (.lst ((((ns.zip (ns.drop 1)).take i).map fun p => decide (p.1 ≤ p.2)).map V.bl)) ∧ Same H3 H') ⟨upd_same, same_upd hD2⟩
          (fun i H' _ z => ⟨SqT.same z.2 (SqT.same sm3 hr2), SqT.same z.2 at3⟩) ?_ ?_
        · rintro i x H4 H5 hi ⟨e4, sm4⟩ ⟨t, x0', y0, rfl, ht, rfl, hx0, hy0⟩
          obtain ⟨n0, hn0, rfl⟩ := map_at hx0
          have hy0' : (ns.map V.int)[i + 1]? = some y0 := by
            have z : ((ns.map V.int).drop 1)[i]? = some y0 := hy0
            rw [List.getElem?_drop, Nat.add_comm] at z
            exact z
          obtain ⟨n1, hn1, rfl⟩ := map_at hy0'
          have hz : (ns.zip (ns.drop 1))[i]? = some (n0, n1) := by
            rw [List.getElem?_zip_eq_some]
            refine ⟨hn0, ?_⟩
            rw [List.getElem?_drop, Nat.add_comm]
            exact hn1
          refine ⟨t, _, rfl, SqT.of upd_same, rfl, _, _, rfl, _, _, rfl, rfl, rfl, ?_⟩
          refine ⟨_, rfl, _, rfl, _, _, rfl, rfl, ?_⟩
          have nt : D2 ≠ t := ne_of_none e4 ht
          refine ⟨_, Eq.trans (upd_ne nt) e4, ?_, ?_, ?_⟩
          · rw [List.length_map, List.length_map, List.length_take]
            exact small1000 (by omega)
          · rw [upd_same, List.take_succ, hz, List.map_append, List.map_append]
            rfl
          · intro b o z
            rw [upd_ne (ne_of_none z hD2), upd_ne (ne_of_none (sm4 b o z) ht)]
            exact sm4 b o z
        · rintro H4 ⟨e4, sm4⟩
          rw [List.take_of_length_le (by rw [List.length_zip, List.length_drop]; omega)] at e4
          refine ⟨D2, (ns.zip (ns.drop 1)).map fun p => decide (p.1 ≤ p.2), rfl, SqL.of e4, ?_⟩
          have ea : ((ns.zip (ns.drop 1)).map fun p => decide (p.1 ≤ p.2)).all _root_.id = ((ns.map PyData.int).zip ((ns.map PyData.int).drop 1)).all fun p => leD p.1 p.2 := by
            rw [← List.map_drop, List.zip_map, List.all_map, List.all_map]
            rfl
          rw [ea]
          exact k _ ((s02.trans sm3).trans sm4)
end
theorem are_good {K : PySem.W.Frag} {bad : List Addr} {H : Hp} {xs : List V} {ds : List PyData} (h : DqAll K bad H xs ds) (e : areD (.tuple ds) = true) : ∃ ls, Good ls ∧ xs = ls.map lv := by
  have e' : (decide (1 ≤ ds.length) && decide (ds.length ≤ 61) && (intsD ds).all okL && ((intsD ds).zip ((intsD ds).drop 1)).all fun p => leD p.1 p.2) = true := e
  rw [Bool.and_eq_true, Bool.and_eq_true, Bool.and_eq_true] at e'
  obtain ⟨⟨⟨e1, e2⟩, e3⟩, e4⟩ := e'
  have c1 : 1 ≤ ds.length := of_decide_eq_true e1
  have c2 : ds.length ≤ 61 := of_decide_eq_true e2
  have hl := h.len
  have bnd : ∀ ns : List Int, (ns.map PyData.int).all okL = true → ∀ x ∈ ns, 0 ≤ x ∧ x ≤ 10 ^ 18 := fun ns z x hx => by
    have q : okL (.int x) = true := List.all_eq_true.mp z _ (List.mem_map.mpr ⟨x, hx, rfl⟩)
    have q2 : (decide (0 ≤ x) && decide (x ≤ 10 ^ 18)) = true := q
    rw [Bool.and_eq_true] at q2
    exact ⟨of_decide_eq_true q2.1, of_decide_eq_true q2.2⟩
  have asc : ∀ ns : List Int, (((ns.map PyData.int).zip ((ns.map PyData.int).drop 1)).all fun p => leD p.1 p.2) = true → Asc ns := fun ns z i x y hx hy => by
    have hz : ((ns.map PyData.int).zip ((ns.map PyData.int).drop 1))[i]? = some (.int x, .int y) := by
      rw [List.getElem?_zip_eq_some]
      refine ⟨by rw [List.getElem?_map, hx]; rfl, ?_⟩
      rw [List.getElem?_drop, Nat.add_comm, List.getElem?_map, hy]
      rfl
    exact of_decide_eq_true (List.all_eq_true.mp z _ (List.mem_of_getElem? hz))
  obtain ⟨d0, dl, rfl⟩ : ∃ d0 dl, ds = d0 ++ [dl] := ⟨ds.dropLast, ds.getLast (by intro z; rw [z] at c1; simp at c1), (List.dropLast_concat_getLast _).symm⟩
  rw [List.length_append] at c2
  have c2' : d0.length + 1 ≤ 61 := c2
  by_cases hd : dl = .none
  · subst hd
    rw [intsD_non] at e3 e4
    obtain ⟨x0, xl, rfl⟩ : ∃ x0 xl, xs = x0 ++ [xl] := ⟨xs.dropLast, xs.getLast (by intro z; rw [z] at hl; simp at hl), (List.dropLast_concat_getLast _).symm⟩
    have l0 : x0.length = d0.length := by
      rw [List.length_append, List.length_append] at hl
      exact Nat.succ.inj hl
    have hx0 : DqAll K bad H x0 d0 := by
      have z := DqAll.take x0.length h
      rw [List.take_left' rfl, List.take_left' l0.symm] at z
      exact z
    have hxl : Dq K bad H xl .none := h.zip (xl, .none) (by rw [List.zip_append l0]; simp)
    cases hxl
    obtain ⟨ns, rfl, rfl⟩ := allOk hx0 e3
    rw [List.length_map] at c2'
    exact ⟨ns.map some ++ [none], good_none (by omega) (bnd ns e3) (asc ns e4), by rw [List.map_append, map_lv_some]; rfl⟩
  · rw [intsD_some hd] at e3 e4
    obtain ⟨ns, en, rfl⟩ := allOk h e3
    rw [en] at e3 e4
    have ln : ns.length = d0.length + 1 := by
      have := congrArg List.length en
      rw [List.length_append, List.length_map] at this
      exact this.symm
    obtain ⟨ini, z, rfl⟩ : ∃ ini z, ns = ini ++ [z] := ⟨ns.dropLast, ns.getLast (by intro z; rw [z] at ln; simp at ln), (List.dropLast_concat_getLast _).symm⟩
    rw [List.length_append] at ln
    have ln' : ini.length + 1 = d0.length + 1 := ln
    exact ⟨ini.map some ++ [some z], good_ints (by omega) (bnd _ e3) (asc _ e4), by
      rw [List.map_append, List.map_append, map_lv_some]
      rfl⟩
/-- Reckoned is no class of a value of any kind -/
structure NotR (K : PySem.W.Frag) (CR : Addr) : Prop where
  b : PySem.W.kitOne K (.type "bool") (.ref CR) = some false
  s : PySem.W.kitOne K (.type "str") (.ref CR) = some false
  l : PySem.W.kitOne K (.type "list") (.ref CR) = some false
  t : PySem.W.kitOne K (.type "tuple") (.ref CR) = some false
  d : PySem.W.kitOne K (.type "dict") (.ref CR) = some false
/-- Rule(..) of values of any kind: a rule, or the error BadLives with the tuple of them -/
theorem dqAll_lv {K : PySem.W.Frag} {ex : List Addr} {H : Hp} : ∀ ls : List (Option Int), DqAll K ex H (ls.map lv) (ls.map dO)
  | [] => .nil
  | none :: r => .cons .non (dqAll_lv r)
  | some i :: r => .cons (.int i) (dqAll_lv r)
theorem lv_injL : ∀ {ls ms : List (Option Int)}, ls.map lv = ms.map lv → ls = ms
  | [], [], _ => rfl
  | [], _ :: _, h => nomatch h
  | _ :: _, [], h => nomatch h
  | a :: ls, b :: ms, h => by
    rw [List.map_cons, List.map_cons] at h
    obtain ⟨h1, h2⟩ := List.cons.inj h
    have e : a = b := by
      cases a <;> cases b <;> first | rfl | (cases h1; rfl) | cases h1
    rw [e, lv_injL h2]
theorem are_goodL {ls : List (Option Int)} (e : areD (dLs ls) = true) : Good ls := by
  obtain ⟨ms, g, em⟩ := are_good (K := default) (bad := []) (H := fun _ => none) (dqAll_lv ls) e
  rw [lv_injL em]
  exact g
/-! SPLIT -/
abbrev s_read_number : Stmt := (top 26)
abbrev N_read_number : List Str := ["word", "number"]
theorem sc_read_number : FnScope N_read_number ["word"] (defScope s_read_number) :=
  ⟨rfl, rfl, rfl, by decide +kernel, rfl, by decide +kernel, by decide +kernel⟩
abbrev s_words : Stmt := (top 28)
abbrev N_words : List Str := ["value"]
theorem sc_words : FnScope N_words ["value"] (defScope s_words) :=
  ⟨rfl, rfl, rfl, by decide +kernel, rfl, by decide +kernel, by decide +kernel⟩
abbrev s_read_rule : Stmt := (top 27)
abbrev N_read_rule : List Str := ["text", "lives", "word"]
theorem sc_read_rule : FnScope N_read_rule ["text"] (defScope s_read_rule) :=
  ⟨rfl, rfl, rfl, by decide +kernel, rfl, by decide +kernel, by decide +kernel⟩
/-- read_number of any word -/
def spReadNQ : Sp := fun vs H Q _ => ∃ w : Str, vs = [.str w] ∧ Ascii w ∧ w.length ≤ 100000 ∧ Q (.int (rdV w)) H
/-- the words of any value -/
def wordsD : PyData → List Str
  | .str x => Txt.split x " "
  | _ => []
/-- texts below 128, not too long -/
def TxD (d : PyData) : Prop := ∀ x, d = .str x → Ascii x ∧ x.length ≤ 5000
def spWordsQ (K : PySem.W.Frag) : Sp := fun vs H Q _ => ∃ (ex : List Addr) (v : V) (d : PyData), vs = [v] ∧ Dq K ex H v d ∧ TxD d ∧ ∀ L H', H L = none → Same H H' → H' L = some (.lst ((wordsD d).map V.str)) → Q (.ref L) H'
/-- the lives that are read of any value -/
def readD (d : PyData) : List (Option Int) := (wordsD d).map rdO
def spReadX (K : PySem.W.Frag) (C CB : Addr) : Sp := fun vs H Q E => ∃ (ex : List Addr) (v : V) (d : PyData), vs = [v] ∧ Dq K ex H v d ∧ TxD d ∧
  (Good (readD d) → areD (dLs (readD d)) = true → ∀ r H', Same H H' → RuleAt C H' r (short (readD d)) → Q (.ref r) H') ∧ (areD (dLs (readD d)) = false → ∀ H1, Same H H1 → ∀ dd, H1 dd = none → E (.ref CB) (some dd) (upd H1 dd (.xd [("value", v)])))
theorem wordsD_len {d : PyData} (h : TxD d) : (wordsD d).length ≤ 5001 ∧ ∀ p ∈ wordsD d, Ascii p ∧ p.length ≤ 5000 := by
  cases d with
  | str x =>
    obtain ⟨a, b⟩ := h x rfl
    obtain ⟨c, e⟩ := split_len x
    exact ⟨by show (Txt.split x " ").length ≤ 5001; omega, fun p hp => ⟨split_ascii a p hp, Nat.le_trans (e p hp) b⟩⟩
  | _ => exact ⟨Nat.zero_le _, fun p hp => nomatch hp⟩
section
variable {P : Program} {w : World} {K : PySem.W.Frag} {mg : Str → Option Value} {base : Heap} {C CR CB fB : Addr} {mc : Value} {fInit pAre fAre pOf fOf : Addr} {fdAre fdB : FuncData}
theorem ok_readNQ (D : Df K mg "read_number" s_read_number ["word"]) (T : Bl mg) (hMF : ∃ t, mg "MOST_FIGURES" = some (.int 19 t)) (hGR : ∃ t, mg "GREATEST_READ" = some (.int 1000000000000000000 t)) (hNo : ∃ t, mg "NO_NUMBER" = some (.int (-1) t)) : HasO P w K mg base 1 "read_number" ["word"] spReadNQ := by
  obtain ⟨tMF, hMF⟩ := hMF
  obtain ⟨tGR, hGR⟩ := hGR
  obtain ⟨tNo, hNo⟩ := hNo
  refine D.hasO sc_read_number (fun vs H Q E h => ?_) (fun f cdv A outer s H vs Q E hr h => ?_)
  · obtain ⟨n, rfl, _⟩ := h
    rfl
  · obtain ⟨x, rfl, hx, hn, k⟩ := h
    refine ⟨_, (pss_cons (ps_if (PW.pt (pw_or (pt_cmpR op_gt (pe_callB call_len_str (by rfl) T.len PySem.boot_len (pa_cons (pv 0) pa_nil)) (pe_glob (v := .int 19) rfl hMF ⟨_, rfl⟩) (nomark _)) (pw_or1 (pt_not (pt_val (pe_m0 PySem.F.slot_str_isdecimal PySem.F.type_str_isdecimal mt_isdecimal (pv 0))))))) (pss_one (ps_ret (pe_glob (v := .int (-1)) rfl hNo ⟨_, rfl⟩))) pss_nil)
      (pss_cons (ps_set (i := 1) sc_read_number.nd rfl (Or.inl rfl) (pe_callTy call_int_str (by rfl) T.int (by decide +kernel) (pa_cons (pv 0) pa_nil)))
      (pss_one (ps_ret (pe_ifExp (PW.pt (pw_and (pt_cmpR op_le (pv 1) (pe_glob (v := .int 1000000000000000000) rfl hGR ⟨_, rfl⟩) (nomark _)) (pw_and1 (pt_cmpR op_eq (pe_callTy call_str_int (by rfl) T.str (by decide +kernel) (pa_cons (pv 1) pa_nil)) (pv 0) (nomark _))))) (pv 1) (pe_glob (v := .int (-1)) rfl hNo ⟨_, rfl⟩)))))), ?_⟩
    have no : rdN x = none → Q (.int (-1)) H := fun z => by
      have q := k
      unfold rdV at q
      rw [z] at q
      exact q
    have lx := TL.len_tl x
    refine ⟨_, rfl, x, rfl, by rw [sizeLine_eq]; omega, _, _, rfl, rfl, _, rfl, ?_⟩
    refine ite2 (fun z => ?_) (fun z => ?_)
    · have z' := of_decide_eq_true z
      refine no ?_
      unfold rdN
      rw [if_neg (fun c => by have := c.2.2.1; omega)]
    have l19 : x.length ≤ 19 := by
      have z' : ¬ (19 : Int) < ((x.length : Nat) : Int) := fun w => z (decide_eq_true w)
      omega
    refine ⟨_, rfl, ⟨_, rfl⟩, x, rfl, rfl, trivial, _, rfl, ?_⟩
    rw [isdec_ascii hx]
    cases hd : (decide (0 < (TL.tl x).length) && (TL.tl x).all digB) with
    | false =>
      refine ite2 (fun _ => ?_) (fun z => absurd rfl z)
      refine no ?_
      unfold rdN
      rw [if_neg (fun c => ?_)]
      have l0 : 0 < (TL.tl x).length := List.length_pos_iff.mpr c.2.1
      rw [c.1, decide_eq_true l0] at hd
      cases hd
    | true =>
      refine ite2 (fun z => absurd z (by decide)) (fun _ => ?_)
      rw [Bool.and_eq_true, decide_eq_true_iff] at hd
      have hall := all_dig.mp hd.2
      have hne : TL.tl x ≠ [] := List.length_pos_iff.mp hd.1
      obtain ⟨n, en⟩ : ∃ n, n = NumText.digitsVal (TL.tl x) := ⟨_, rfl⟩
      have hi : PySem.intText? x = some ((n : Nat) : Int) := by rw [en]; exact PySem.intText_digits hall hne (by omega)
      refine ⟨_, rfl, x, ((n : Nat) : Int), rfl, hi, by omega, ?_⟩
      refine gN_st (σ' := [some (.str x), some (.int ((n : Nat) : Int))]) rfl ?_
      have eN : rdN x = if n ≤ 10 ^ 18 ∧ num n = x then some n else none := by
        unfold rdN
        by_cases c : n ≤ 10 ^ 18 ∧ num n = x
        · rw [if_pos c, if_pos ⟨hd.2, hne, by omega, by rw [← en]; exact c.1, by rw [← en, ← tl_nm, c.2]⟩, en]
        · rw [if_neg c, if_neg (fun z => c ⟨by rw [en]; exact z.2.2.2.1, TL.ext_tl (by rw [tl_nm, en]; exact z.2.2.2.2)⟩)]
      refine ⟨_, rfl, _, _, rfl, rfl, _, rfl, ?_⟩
      by_cases c1 : n ≤ 10 ^ 18
      · refine ite2 (fun _ => ?_) (fun z => absurd (decide_eq_true (show ((n : Nat) : Int) ≤ 1000000000000000000 by omega)) z)
        have l2 : (((n : Nat) : Int)).natAbs.log2 < 1920 := PySem.Flt.log2_lt_of (by decide) (Nat.lt_of_le_of_lt (show (((n : Nat) : Int)).natAbs ≤ 10 ^ 18 by omega) (by decide))
        refine ⟨_, rfl, _, rfl, l2, _, rfl, rfl, _, rfl, ?_⟩
        by_cases c2 : num n = x
        · refine ite2 (fun _ => ?_) (fun z => absurd (decide_eq_true (congrArg V.str c2)) z)
          refine ⟨_, rfl, ?_⟩
          have q := k
          unfold rdV at q
          rw [eN, if_pos ⟨c1, c2⟩] at q
          exact q
        · refine ite2 (fun z => absurd (of_decide_eq_true z) (fun w => c2 (by injection w))) (fun _ => ?_)
          exact no (by rw [eN, if_neg (fun z => c2 z.2)])
      · refine ite2 (fun z => absurd (of_decide_eq_true z) (show ¬ ((n : Nat) : Int) ≤ 1000000000000000000 by omega)) (fun _ => ?_)
        exact no (by rw [eN, if_neg (fun z => c1 z.1)])
theorem ok_wordsQ (D : Df K mg "_words" s_words ["value"]) (T : Bl mg) : HasO P w K mg base 1 "_words" ["value"] (spWordsQ K) := by
  refine D.hasO sc_words (fun vs H Q E h => ?_) (fun f cdv A outer s H vs Q E hr h => ?_)
  · obtain ⟨ex, v, d, rfl, _⟩ := h
    rfl
  · obtain ⟨ex, v, d, rfl, hd, ht, k⟩ := h
    refine ⟨_, (pss_one (ps_ret (pe_ifExp (pt_val (pe_callB call_isi (by rfl) T.isinstance (by decide +kernel) (pa_cons (pv 0) (pa_cons (pe_bltn (v := .ty "str") (by rfl) T.str (by decide +kernel) rfl) pa_nil)))) (pe_split (pv 0) pe_str) (pe_lst pa_nil)))), ?_⟩
    have other : wordsD d = [] → ∀ p, H p = none → Q (.ref p) (upd H p (.lst [])) := fun z p hp => k p _ hp (same_upd hp) (by rw [z]; exact upd_same)
    cases hd with
    | str x =>
      obtain ⟨ha, hl⟩ := ht x rfl
      refine ⟨_, rfl, _, _, _, _, true, rfl, .ty _, .base (.str _), kit_ty (by decide +kernel), true, rfl, ?_⟩
      refine ite2 (fun _ => ?_) (fun z => absurd rfl z)
      exact ⟨_, rfl, ⟨_, rfl⟩, _, _, rfl, rfl, rfl, by rw [sizeLine_eq]; omega, fun p hp => k p _ hp (same_upd hp) upd_same⟩
    | int i => exact ⟨_, rfl, _, _, _, _, false, rfl, .ty _, .base (.int i), kit_ty (by decide +kernel), false, rfl, iteF ⟨Nat.zero_le _, fun p hp => other rfl p hp⟩⟩
    | bl b => exact ⟨_, rfl, _, _, _, _, false, rfl, .ty _, .base (.bl b), kit_ty (by decide +kernel), false, rfl, iteF ⟨Nat.zero_le _, fun p hp => other rfl p hp⟩⟩
    | non => exact ⟨_, rfl, _, _, _, _, false, rfl, .ty _, .base .non, kit_ty (by decide +kernel), false, rfl, iteF ⟨Nat.zero_le _, fun p hp => other rfl p hp⟩⟩
    | lst e n a => exact ⟨_, rfl, _, _, _, _, false, rfl, .ty _, .base (.lst e), kit_ty (by decide +kernel), false, rfl, iteF ⟨Nat.zero_le _, fun p hp => other rfl p hp⟩⟩
    | tup e a => exact ⟨_, rfl, _, _, _, _, false, rfl, .ty _, tyx_seqt e, kit_ty (by decide +kernel), false, rfl, iteF ⟨Nat.zero_le _, fun p hp => other rfl p hp⟩⟩
    | dct e n a => exact ⟨_, rfl, _, _, _, _, false, rfl, .ty _, .base (.dK e), kit_ty (by decide +kernel), false, rfl, iteF ⟨Nat.zero_le _, fun p hp => other rfl p hp⟩⟩
theorem ok_readX (D : Df K mg "read_rule" s_read_rule ["text"]) (T : Bl mg) (R : RuleT K mg C CR mc fInit pAre fAre fdAre) (MOf : ClX.CMet K C mc "of" pOf fOf) (G_of : FnR P w K mg base CX0 5 fOf (spOf K C)) (G_areQ : FnOk P w K mg base CX0 2 fAre fdAre ["value"] (spAreQ K)) (B : BadT K CB fB) (mB : mg "BadText" = some (.ref CB)) (bB : Binds K fdB ["self", "value"] []) (G_bad : FnOk P w K mg base CX0 1 fB fdB ["self", "value"] (spBad CB)) (C_words : HasO P w K mg base 1 "_words" ["value"] (spWordsQ K)) (C_read_number : HasO P w K mg base 1 "read_number" ["word"] spReadNQ) : HasX P w K mg base 6 "read_rule" ["text"] (spReadX K C CB) := by
  refine D.hasX sc_read_rule (fun vs H Q E h => ?_) (fun f cdv A outer s H vs Q E hr h => ?_)
  · obtain ⟨ex, v, d, rfl, _⟩ := h
    rfl
  · obtain ⟨ex, v, d, rfl, hd, ht, k, ke⟩ := h
    refine ⟨_, (pss_cons (ps_set (i := 1) sc_read_rule.nd rfl (Or.inl rfl) (pe_callTy call_tuple_of (by rfl) T.tuple (by decide +kernel) (pa_cons (pe_lc (own := [("word", 2)]) (g := gName 2) (tt := tYes) rfl sc_read_rule.nd (pi_list (pe_hasO C_words (hr.mono (by decide)) rfl (pa_cons (pv 0) pa_nil))) (blkOk_by (N := N_read_rule) (sc := defScope s_read_rule) (by decide +kernel)) (fun _ _ _ _ _ => pg_name (i := 2) sc_read_rule.nd rfl (Or.inl rfl)) (fun _ _ _ _ _ => pts_nil) (fun _ _ _ _ _ => (pe_ifExp (pt_cmpR op_eq (pv 2) pe_str (nomark _)) pe_non (pe_hasO C_read_number (hr.mono (by decide)) rfl (pa_cons (pv 2) pa_nil))))) pa_nil)))
      (pss_cons (ps_if (pt_not (pt_val (pe_static (pe_glob (v := .ref C) rfl R.m_Rule rfl) R.rd R.s_are G_areQ R.b_are (hr.mono (by decide)) (pa_cons (pv 1) pa_nil)))) (pss_one (ps_raise rfl (takes_of rfl rfl rfl rfl) (pmk_oex B.oex B.ini B.ty G_bad (hr.mono (by decide)) bB .nil pass0 rfl mB (pa_cons (pv 0) pa_nil)))) pss_nil)
      (pss_one (ps_ret (ClX.pe_cmeth (pe_glob (v := .ref C) rfl R.m_Rule rfl) R.rd MOf G_of (hr.mono (by decide)) pass0 (pa_cons (pv 1) pa_nil)))))), ?_⟩
    obtain ⟨wl, wa⟩ := wordsD_len ht
    refine ⟨_, rfl, ex, v, d, rfl, hd, ht, fun L H1 hL s1 eL => ?_⟩
    refine ⟨L, rfl, ⟨_, SqL.of eL⟩, fun D hD => lc_genL (f := V.str) (p := fun _ => true) (e := fun x => lv (rdO x)) hD (SqL.of eL) (by rw [sizeLine_eq]; omega) (fun x H' hx s2 N S' hN hS => ?_) (fun H2 s2 eD => ?_)⟩
    · refine ⟨rfl, ?_⟩
      obtain ⟨xa, xl⟩ := wa x hx
      by_cases c : x = dash
      · have er : lv (rdO x) = .non := by unfold rdO; rw [if_pos c]; rfl
        rw [er] at hN
        refine ⟨_, rfl, rfl, _, rfl, ite2 (fun _ => hN rfl _ (Same.refl _)) (fun z => absurd (decide_eq_true (congrArg V.str c)) z)⟩
      · have er : lv (rdO x) = .int (rdV x) := by unfold rdO; rw [if_neg c]; rfl
        rw [er] at hN
        refine ⟨_, rfl, rfl, _, rfl, ite2 (fun z => absurd (of_decide_eq_true z) (fun w => c (by injection w))) (fun _ => ?_)⟩
        exact ⟨_, rfl, x, rfl, xa, by omega, hN rfl _ (Same.refl _)⟩
    · rw [List.filter_eq_self.mpr (fun _ _ => rfl)] at eD
      have eD' : H2 D = some (.lst ((readD d).map lv)) := by
        rw [eD]
        unfold readD
        rw [List.map_map]
        rfl
      refine ⟨D, _, rfl, .inl ⟨SqL.of eD', fun T hT => ?_⟩⟩
      have s3 := same_upd (o := .tup ((readD d).map lv)) hT
      have eT := upd_same (H := H2) (a := T) (o := .tup ((readD d).map lv))
      have s13 := s1.trans (s2.trans s3)
      generalize upd H2 T (.tup ((readD d).map lv)) = H3 at *
      refine gN_st (σ' := [some v, some (.ref T), none]) rfl ?_
      have dT : Dq K ex H3 (.ref T) (dLs (readD d)) := .tup (SqT.of eT) (dqAll_lv _)
      refine ⟨rfl, _, rfl, ex, _, _, rfl, dT, fun H4 s4 => ⟨_, rfl, ?_⟩⟩
      cases ha : areD (dLs (readD d)) with
      | false =>
        refine ite2 (fun _ => ?_) (fun z => absurd rfl z)
        exact ⟨_, rfl, mkBad (fun dd hdd => ke ha H4 (s13.trans s4) dd hdd)⟩
      | true =>
        refine ite2 (fun z => absurd z (by decide)) (fun _ => ?_)
        have g : Good (readD d) := are_goodL ha
        refine ⟨rfl, _, rfl, T, readD d, rfl, SqT.of (s4 _ _ eT), g, fun r H5 s5 ra => ?_⟩
        exact k g ha r _ (s13.trans (s4.trans s5)) ra
end
/-! SPLIT -/
abbrev s_law_number : Stmt := (top 36)
abbrev N_law_number : List Str := ["_law_word"]
theorem sc_law_number : FnScope N_law_number ["_law_word"] (defScope s_law_number) :=
  ⟨rfl, rfl, rfl, by decide +kernel, rfl, by decide +kernel, by decide +kernel⟩
def spLNum : Sp := fun vs H Q _ => ∃ w : Str, vs = [.str w] ∧ Ascii w ∧ w.length ≤ 100000 ∧ Q (lv ((rdN w).map fun n => ((n : Nat) : Int))) H
section
variable {P : Program} {w : World} {K : PySem.W.Frag} {mg : Str → Option Value} {base : Heap}
theorem ok_lnum (D : Df K mg "_law_number" s_law_number ["_law_word"]) (T : Bl mg) : Has P w K mg base 1 "_law_number" ["_law_word"] spLNum := by
  refine D.has sc_law_number (fun vs H Q E h => ?_) (fun f cdv A outer s H vs Q E gd hr h => ?_)
  · obtain ⟨x, rfl, _⟩ := h
    rfl
  · obtain ⟨x, rfl, hx, hl, k⟩ := h
    refine ⟨_, (pss_cons (ps_if (PW.pt (pw_or (pt_not (pt_chain op_lt op_lt pe_int (pe_callB call_len_str (by rfl) T.len PySem.boot_len (pa_cons (pv 0) pa_nil)) pe_int)) (pw_or (pt_cmpR op_ne (pe_m1 PySem.F.slot_str_strip PySem.F.type_str_strip mt_stripChars (pv 0) pe_str) pe_str (nomark _)) (pw_or1 (PW.pt (pw_and (pt_cmpR op_eq (pe_ix ix_str (pv 0) pe_int (fun _ _ => rfl)) pe_str (nomark _)) (pw_and1 (pt_cmpR op_ne (pv 0) pe_str (nomark _))))))))) (pss_one (ps_ret pe_non)) pss_nil)
      (pss_one (ps_ret (pe_ifExp (pt_cmpR op_le (pe_callTy call_int_str (by rfl) T.int (by decide +kernel) (pa_cons (pv 0) pa_nil)) (pe_op op_pow pe_int pe_int) (nomark _)) (pe_callTy call_int_str (by rfl) T.int (by decide +kernel) (pa_cons (pv 0) pa_nil)) pe_non)))), ?_⟩
    have lx := TL.len_tl x
    have no : rdN x = none → Q .non H := fun z => by
      have q := k
      rw [z] at q
      exact q
    refine ⟨_, rfl, x, rfl, by rw [sizeLine_eq]; omega, ?_⟩
    refine ⟨_, _, rfl, rfl, _, rfl, ?_⟩
    refine ite2 (fun c0 => ?_) (fun c0 => ?_)
    rotate_left
    · refine ⟨_, rfl, ?_⟩
      refine ite2 (fun _ => ?_) (fun z => absurd rfl z)
      refine ite2 (fun _ => ?_) (fun z => absurd rfl z)
      refine no ?_
      have l0 : x.length = 0 := by
        have z : ¬ (0 : Int) < ((x.length : Nat) : Int) := fun w => c0 (decide_eq_true w)
        omega
      unfold rdN
      rw [if_neg (fun c => c.2.1 (List.length_eq_zero_iff.mp (by omega)))]
    have l0 : 0 < x.length := by
      have := of_decide_eq_true c0
      omega
    refine ⟨_, _, rfl, rfl, _, rfl, ?_⟩
    by_cases c1 : x.length < 20
    rotate_left
    · rw [decide_eq_false (show ¬ ((x.length : Nat) : Int) < 20 by omega)]
      refine ite2 (fun _ => ?_) (fun z => absurd rfl z)
      refine ite2 (fun _ => ?_) (fun z => absurd rfl z)
      refine no ?_
      unfold rdN
      rw [if_neg (fun c => by have := c.2.2.1; omega)]
    rw [decide_eq_true (show ((x.length : Nat) : Int) < 20 by omega)]
    refine ite2 (fun z => absurd z (by decide)) (fun _ => ?_)
    refine ⟨_, rfl, ⟨_, rfl⟩, x, _, rfl, rfl, by rw [sizeLine_eq]; omega, rfl, _, rfl, ?_⟩
    have hne : TL.tl x ≠ [] := List.length_pos_iff.mp (by omega)
    cases hd : (TL.tl x).all digB with
    | false =>
      have e : Txt.stripChars x "0123456789" ≠ "" := fun z => by
        rw [(strip_dig hx).mp z] at hd
        cases hd
      refine ite2 (fun _ => ?_) (fun z => absurd (by simp [e]) z)
      refine ite2 (fun _ => ?_) (fun z => absurd rfl z)
      refine no ?_
      unfold rdN
      rw [if_neg (fun c => by rw [c.1] at hd; cases hd)]
    | true =>
      have e : Txt.stripChars x "0123456789" = "" := (strip_dig hx).mpr hd
      rw [e, decide_eq_true rfl]
      refine ite2 (fun z => absurd z (by decide)) (fun _ => ?_)
      have hall := all_dig.mp hd
      obtain ⟨c, t, ec⟩ : ∃ c t, TL.tl x = c :: t := by
        cases h : TL.tl x with
        | nil => exact absurd h hne
        | cons c t => exact ⟨c, t, rfl⟩
      have ea : atI x.cps.toList 0 = some c := by
        show atI (TL.tl x) 0 = some c
        rw [ec]
        unfold atI ixN
        simp
      refine ⟨_, rfl, x, 0, c, rfl, rfl, by rw [sizeLine_eq]; omega, ea, rfl, _, rfl, ?_⟩
      obtain ⟨n, en⟩ : ∃ n, n = NumText.digitsVal (TL.tl x) := ⟨_, rfl⟩
      have hi : PySem.intText? x = some ((n : Nat) : Int) := by rw [en]; exact PySem.intText_digits hall hne (by omega)
      have fin : Led (TL.tl x) → tRet (tIf (tTest (tOp (rI0 fun i j => V.bl (decide (i ≤ j))) (tCB (fun xs H Q => ∃ a n, xs = [V.str a] ∧ PySem.intText? a = some n ∧ a.length ≤ 640 ∧ Q (V.int n) H) (tCons (tVar 0) tNil)) (tOp (rI CPow fun i j => V.int (i ^ j.toNat)) (tC (V.int 10)) (tC (V.int 18))))) (tCB (fun xs H Q => ∃ a n, xs = [V.str a] ∧ PySem.intText? a = some n ∧ a.length ≤ 640 ∧ Q (V.int n) H) (tCons (tVar 0) tNil)) (tC V.non)) { nx := fun x H' => Q V.non H', rt := Q } (L2.start N_law_number [.str x]) H := fun led => by
        have eb : numL n = TL.tl x := by rw [en]; exact numL_back _ _ rfl hall hne led
        refine ⟨_, rfl, x, _, rfl, hi, by omega, _, _, rfl, rfl, ⟨by decide, by decide, by decide⟩, _, _, rfl, rfl, _, rfl, ?_⟩
        by_cases c1 : n ≤ 10 ^ 18
        · refine ite2 (fun _ => ?_) (fun z => absurd (decide_eq_true (show ((n : Nat) : Int) ≤ 10 ^ (18 : Int).toNat by show ((n : Nat) : Int) ≤ 10 ^ 18; omega)) z)
          have q := k
          have er : rdN x = some n := by
            unfold rdN
            rw [if_pos ⟨hd, hne, by omega, by rw [← en]; exact c1, by rw [← en]; exact eb⟩, en]
          rw [er] at q
          exact ⟨_, rfl, x, _, rfl, hi, by omega, q⟩
        · refine ite2 (fun z => absurd (of_decide_eq_true z) (show ¬ ((n : Nat) : Int) ≤ 10 ^ (18 : Int).toNat by show ¬ ((n : Nat) : Int) ≤ 10 ^ 18; omega)) (fun _ => ?_)
          refine no ?_
          unfold rdN
          rw [if_neg (fun z => c1 (by rw [en]; exact z.2.2.2.1))]
      by_cases h48 : c = 48
      · subst h48
        refine ite2 (fun _ => ?_) (fun z => absurd (decide_eq_true (show V.str ⟨#[48]⟩ = V.str "0" from rfl)) z)
        refine ⟨_, rfl, rfl, _, rfl, ?_⟩
        by_cases h0 : x = "0"
        · refine ite2 (fun z => absurd z (by rw [h0]; simp)) (fun _ => ?_)
          refine fin (.inr ?_)
          rw [h0]
          rfl
        · refine ite2 (fun _ => ?_) (fun z => absurd (by simp [h0]) z)
          refine no ?_
          unfold rdN
          rw [if_neg (fun z => ?_)]
          rcases numL_led (NumText.digitsVal (TL.tl x)) with w | w
          · rw [z.2.2.2.2, ec] at w
            exact w rfl
          · rw [z.2.2.2.2] at w
            exact h0 (TL.ext_tl (by rw [w]; rfl))
      · refine ite2 (fun z => absurd (of_decide_eq_true z) (fun w => h48 ?_)) (fun _ => ?_)
        · injection w with w
          have q := congrArg TL.tl w
          have q2 : [c] = [48] := q
          injection q2
        · exact fin (.inl (by rw [ec]; intro z; exact h48 (Option.some.inj z)))
end
/-! SPLIT -/
theorem zip_pair : ∀ ns : List Int, (((ns.map PyData.int).zip ((ns.map PyData.int).drop 1)).all fun p => leD p.1 p.2) = true ↔ ns.Pairwise (· ≤ ·)
  | [] => ⟨fun _ => .nil, fun _ => rfl⟩
  | [x] => ⟨fun _ => List.pairwise_singleton _ _, fun _ => rfl⟩
  | x :: y :: r => by
    have ih := zip_pair (y :: r)
    show (leD (.int x) (.int y) && (((y :: r).map PyData.int).zip (((y :: r).map PyData.int).drop 1)).all fun p => leD p.1 p.2) = true ↔ _
    rw [Bool.and_eq_true, ih, List.pairwise_cons (a := x) (l := y :: r)]
    refine ⟨fun h => ⟨fun z hz => ?_, h.2⟩, fun h => ⟨decide_eq_true (h.1 y List.mem_cons_self), h.2⟩⟩
    have xy : x ≤ y := of_decide_eq_true h.1
    rcases List.mem_cons.mp hz with rfl | hz
    · exact xy
    · exact Int.le_trans xy ((List.pairwise_cons.mp h.2).1 z hz)
theorem srt_eq {ws ms : List Int} (p : ms.Perm ws) (s : ms.Pairwise (· ≤ ·)) : ws = ms ↔ ws.Pairwise (· ≤ ·) :=
  ⟨fun e => e ▸ s, fun h => List.Perm.eq_of_pairwise (fun _ _ _ _ a b => Int.le_antisymm a b) h s p.symm⟩
theorem eqv_intsA : ∀ xs ys : List Int, PyData.eqvAll (xs.map PyData.int) (ys.map PyData.int) = decide (xs = ys)
  | [], [] => rfl
  | [], _ :: _ => rfl
  | _ :: _, [] => rfl
  | x :: r, y :: q => by
    show ((x == y) && PyData.eqvAll (r.map PyData.int) (q.map PyData.int)) = decide (x :: r = y :: q)
    rw [eqv_intsA r q, Bool.eq_iff_iff]
    simp
def numO (w : Str) : Option Int := (rdN w).map fun n => ((n : Nat) : Int)
theorem rdN_dash : rdN dash = none := by
  unfold rdN
  rw [if_neg (fun c => ?_)]
  have h : (TL.tl dash).all digB = true := c.1
  have e : (TL.tl dash).all digB = false := by decide +kernel
  rw [e] at h
  cases h
theorem ok_word (w : Str) : okL (dO (rdO w)) = (rdN w).isSome := by
  by_cases c : w = dash
  · subst c
    rw [rdN_dash]
    unfold rdO
    rw [if_pos rfl]
    rfl
  · unfold rdO
    rw [if_neg c]
    unfold rdV
    cases h : rdN w with
    | none => rfl
    | some n =>
      have b := (rdN_some h).2
      show (decide (0 ≤ ((n : Nat) : Int)) && decide (((n : Nat) : Int) ≤ 10 ^ 18)) = true
      rw [decide_eq_true (by omega), decide_eq_true (by omega)]
      rfl
theorem rdO_num {w : Str} (h : (rdN w).isSome = true) : rdO w = numO w := by
  cases e : rdN w with
  | none => rw [e] at h; cases h
  | some n =>
    unfold rdO numO rdV
    rw [if_neg (fun c => by rw [c, rdN_dash] at e; cases e), e]
    rfl
theorem all_num : ∀ {us : List Str}, (∀ w ∈ us, (rdN w).isSome = true) → us.map rdO = us.map numO ∧ (us.map rdO).map dO = (us.filterMap numO).map PyData.int
  | [], _ => ⟨rfl, rfl⟩
  | w :: us, h => by
    obtain ⟨a, b⟩ := all_num (us := us) fun x hx => h x (List.mem_cons_of_mem _ hx)
    have hw := h w List.mem_cons_self
    have e := rdO_num hw
    cases q : rdN w with
    | none => rw [q] at hw; cases hw
    | some n =>
      have en : numO w = some ((n : Nat) : Int) := by unfold numO; rw [q]; rfl
      refine ⟨by rw [List.map_cons, List.map_cons, e, a], ?_⟩
      rw [List.map_cons, List.map_cons, b, List.filterMap_cons, e, en]
      rfl
theorem all_ok (us : List Str) : (((us.map rdO).map dO).all okL = true) ↔ ∀ w ∈ us, (rdN w).isSome = true := by
  rw [List.all_eq_true]
  constructor
  · intro h w hw
    rw [← ok_word]
    exact h _ (List.mem_map.mpr ⟨_, List.mem_map.mpr ⟨w, hw, rfl⟩, rfl⟩)
  · intro h d hd
    obtain ⟨o, ho, rfl⟩ := List.mem_map.mp hd
    obtain ⟨w, hw, rfl⟩ := List.mem_map.mp ho
    rw [ok_word]
    exact h w hw
/-- what the words of a text must be to be lives -/
theorem read_iff (i : List Str) (l : Str) : areD (dLs ((i ++ [l]).map rdO)) = true ↔ (∀ w ∈ i, (rdN w).isSome = true) ∧ ((rdN l).isSome = true ∨ l = dash) ∧ (i ++ [l]).length ≤ 61 ∧ ((i ++ [l]).filterMap numO).Pairwise (· ≤ ·) := by
  have len : (((i ++ [l]).map rdO).map dO).length = (i ++ [l]).length := by rw [List.length_map, List.length_map]
  have l1 : 1 ≤ (i ++ [l]).length := by rw [List.length_append]; exact Nat.le_add_left _ _
  have un : areD (dLs ((i ++ [l]).map rdO)) = (decide (1 ≤ (((i ++ [l]).map rdO).map dO).length) && decide ((((i ++ [l]).map rdO).map dO).length ≤ 61) && (intsD (((i ++ [l]).map rdO).map dO)).all okL && ((intsD (((i ++ [l]).map rdO).map dO)).zip ((intsD (((i ++ [l]).map rdO).map dO)).drop 1)).all fun p => leD p.1 p.2) := rfl
  have em : ((i ++ [l]).map rdO).map dO = (i.map rdO).map dO ++ [dO (rdO l)] := by rw [List.map_append, List.map_append]; rfl
  rw [un, len, decide_eq_true l1, Bool.true_and, Bool.and_eq_true, Bool.and_eq_true, decide_eq_true_iff]
  by_cases c : l = dash
  · have e1 : intsD (((i ++ [l]).map rdO).map dO) = (i.map rdO).map dO := by
      rw [em, c, show dO (rdO dash) = .none by unfold rdO; rw [if_pos rfl]; rfl, intsD_non]
    have e2 : (i ++ [l]).filterMap numO = i.filterMap numO := by
      rw [List.filterMap_append, c]
      show _ ++ List.filterMap numO [dash] = _
      rw [show List.filterMap numO [dash] = [] by simp [numO, rdN_dash], List.append_nil]
    rw [e1, e2, all_ok]
    constructor
    · rintro ⟨⟨h1, h2⟩, h3⟩
      rw [(all_num h2).2, zip_pair] at h3
      exact ⟨h2, .inr c, h1, h3⟩
    · rintro ⟨h2, _, h1, h3⟩
      refine ⟨⟨h1, h2⟩, ?_⟩
      rw [(all_num h2).2, zip_pair]
      exact h3
  · have e1 : intsD (((i ++ [l]).map rdO).map dO) = ((i ++ [l]).map rdO).map dO := by
      rw [em, intsD_some (d := dO (rdO l)) (by unfold rdO; rw [if_neg c]; intro z; cases z)]
    rw [e1, all_ok]
    constructor
    · rintro ⟨⟨h1, h2⟩, h3⟩
      rw [(all_num h2).2, zip_pair] at h3
      exact ⟨fun w hw => h2 w (List.mem_append_left _ hw), .inl (h2 l (List.mem_append_right _ (List.mem_singleton.mpr rfl))), h1, h3⟩
    · rintro ⟨h2, h4, h1, h3⟩
      have h5 : ∀ w ∈ i ++ [l], (rdN w).isSome = true := fun w hw => by
        rcases List.mem_append.mp hw with z | z
        · exact h2 w z
        · rw [List.mem_singleton.mp z]
          exact h4.resolve_right c
      refine ⟨⟨h1, h5⟩, ?_⟩
      rw [(all_num h5).2, zip_pair]
      exact h3
/-- what is read is what the law reads -/
theorem read_num {i : List Str} {l : Str} (h : areD (dLs ((i ++ [l]).map rdO)) = true) : (i ++ [l]).map rdO = (i ++ [l]).map numO := by
  obtain ⟨h1, h2, _, _⟩ := (read_iff i l).mp h
  rw [List.map_append, List.map_append, (all_num h1).1]
  congr 1
  rcases h2 with h2 | h2
  · rw [List.map_singleton, List.map_singleton, rdO_num h2]
  · rw [List.map_singleton, List.map_singleton, h2]
    unfold rdO numO
    rw [if_pos rfl, rdN_dash]
    rfl
/-! SPLIT -/
theorem seq_if {A : TT} {B U : TS} {D : Ends} {σ : L2.St} {H : Hp} (rest : ∀ H', Same H H' → U D σ H') (h : ∀ k' : Bool → Hp → Prop, (∀ H', Same H H' → k' false H') → A σ H k') : tSeq (tIfS A B tNext) U D σ H :=
  h (fun b H1 => if b = true then B { D with nx := U D } σ H1 else tNext { D with nx := U D } σ H1) fun H' s' => ite2 (fun z => absurd z (by decide)) (fun _ => rest H' s')
theorem seq_ifP {A : TT} {B U : TS} {D : Ends} {σ : L2.St} {H : Hp} (R : Hp → Prop) (rest : ∀ H', R H' → U D σ H') (h : ∀ k' : Bool → Hp → Prop, (∀ H', R H' → k' false H') → A σ H k') : tSeq (tIfS A B tNext) U D σ H :=
  h (fun b H1 => if b = true then B { D with nx := U D } σ H1 else tNext { D with nx := U D } σ H1) fun H' s' => ite2 (fun z => absurd z (by decide)) (fun _ => rest H' s')
theorem if_end {A : TT} {B : TS} {D : Ends} {σ : L2.St} {H : Hp} (rest : ∀ H', Same H H' → D.nx σ H') (h : ∀ k' : Bool → Hp → Prop, (∀ H', Same H H' → k' false H') → A σ H k') : tIfS A B tNext D σ H :=
  h (fun b H1 => if b = true then B D σ H1 else tNext D σ H1) fun H' s' => ite2 (fun z => absurd z (by decide)) (fun _ => rest H' s')
theorem or_first2 {A B : TT} {σ : L2.St} {H : Hp} {k : Bool → Hp → Prop} (hB : ∀ H', Same H H' → B σ H' k) (h : ∀ k' : Bool → Hp → Prop, (∀ H', Same H H' → k' false H') → A σ H k') : tOr A B σ H k :=
  h (fun b H1 => if b = true then k true H1 else B σ H1 k) fun H' s' => ite2 (fun z => absurd z (by decide)) (fun _ => hB H' s')
theorem all_yes {α : Type} (xs : List α) : (xs.map fun _ => true).all _root_.id = true := List.all_eq_true.mpr fun x hx => by
  obtain ⟨_, _, rfl⟩ := List.mem_map.mp hx
  rfl
theorem ne_no {x y : Int} (h : x = y) : (!decide (V.int x = V.int y)) = false := by
  subst h
  simp
theorem seq_ways {A : TT} {B U : TS} {D : Ends} {σ : L2.St} {H : Hp} (R : L2.St → Hp → Prop) (h : ∀ D' : Ends, (∀ σ' H', R σ' H' → D'.nx σ' H') → tIfS A B tNext D' σ H) (rest : ∀ σ' H', R σ' H' → U D σ' H') : tSeq (tIfS A B tNext) U D σ H := h { D with nx := U D } rest
abbrev s_law_read : Stmt := (top 37)
abbrev N_law_read : List Str := ["_law_text_here", "_law_words", "_law_lives_here", "_law_word", "_law_least_now", "_law_life"]
theorem sc_law_read : FnScope N_law_read ["_law_text_here"] (defScope s_law_read) :=
  ⟨rfl, rfl, rfl, by decide +kernel, rfl, by decide +kernel, by decide +kernel⟩
def spLRead (K : PySem.W.Frag) : Sp := fun vs H Q _ => ∃ (ex : List Addr) (v : V) (d : PyData), vs = [v] ∧ Dq K ex H v d ∧ TxD d ∧
  (areD (dLs (readD d)) = true → ∀ T H', Same H H' → H' T = some (.tup ((readD d).map lv)) → Q (.ref T) H') ∧ (areD (dLs (readD d)) = false → ∀ H', Same H H' → Q .non H')
theorem spl_ne : ∀ (L acc : List Nat), TL.spl [32] 0 acc L ≠ []
  | [], acc => by
    rw [TL.spl_nil]
    simp
  | c :: r, acc => by
    cases h : TL.pre [32] (c :: r) with
    | true => rw [TL.spl_hit h]; simp
    | false =>
      rw [TL.spl_miss h]
      exact spl_ne r (acc ++ [c])
theorem split_ne (x : Str) : Txt.split x " " ≠ [] := fun z => by
  have e := split_is x
  rw [z] at e
  exact spl_ne _ _ e.symm
theorem cut_initV (ys : List V) (z : V) : cutV (ys ++ [z]) none (some (-1)) = ys := by
  have h0 : HT.sIx (ys ++ [z]).length 0 none = 0 := rfl
  have h1 : HT.sIx (ys ++ [z]).length (ys ++ [z]).length (some (-1)) = ys.length := by
    unfold HT.sIx
    simp
    omega
  unfold cutV
  rw [h0, h1, List.drop_zero, Nat.sub_zero, List.take_left]
theorem in_non (us : List Str) : inV .non ((us.map numO).map lv) = true ↔ ¬ ∀ w ∈ us, (rdN w).isSome = true := by
  unfold inV
  rw [List.any_eq_true]
  constructor
  · rintro ⟨y, hy, e⟩ h
    obtain ⟨o, ho, rfl⟩ := List.mem_map.mp hy
    obtain ⟨w, hw, rfl⟩ := List.mem_map.mp ho
    have q := h w hw
    cases r : rdN w with
    | none => rw [r] at q; cases q
    | some n =>
      rw [show numO w = some ((n : Nat) : Int) by unfold numO; rw [r]; rfl] at e
      cases e
  · intro h
    obtain ⟨w, hw⟩ := Classical.not_forall.mp h
    obtain ⟨hm, hn⟩ := Classical.not_imp.mp hw
    refine ⟨_, List.mem_map.mpr ⟨_, List.mem_map.mpr ⟨w, hm, rfl⟩, rfl⟩, ?_⟩
    cases r : rdN w with
    | none => rw [show numO w = none by unfold numO; rw [r]; rfl]; rfl
    | some n => exact absurd (by rw [r]; rfl) hn
theorem flat_lv (ls : List (Option Int)) : (ls.map lv).all flatV = true := List.all_eq_true.mpr fun x hx => by
  obtain ⟨o, _, rfl⟩ := List.mem_map.mp hx
  cases o <;> rfl
theorem some_lv : ∀ us : List Str, ((us.map numO).filter fun o => o.isSome).map lv = (us.filterMap numO).map V.int
  | [] => rfl
  | w :: us => by
    have ih := some_lv us
    rw [List.map_cons, List.filterMap_cons, List.filter_cons]
    cases numO w with
    | none => exact ih
    | some n =>
      show (some n :: (us.map numO).filter fun o => o.isSome).map lv = _
      rw [List.map_cons, ih]
      rfl
section
variable {P : Program} {w : World} {K : PySem.W.Frag} {mg : Str → Option Value} {base : Heap}
theorem ok_lread (D : Df K mg "_law_read" s_law_read ["_law_text_here"]) (T : Bl mg) (C_law_number : Has P w K mg base 1 "_law_number" ["_law_word"] spLNum) : Has P w K mg base 2 "_law_read" ["_law_text_here"] (spLRead K) := by
  refine D.has sc_law_read (fun vs H Q E h => ?_) (fun f cdv A outer s H vs Q E gd hr h => ?_)
  · obtain ⟨ex, v, d, rfl, _⟩ := h
    rfl
  · obtain ⟨ex, v, d, rfl, hd, ht, ky, kn⟩ := h
    refine ⟨_, (pss_cons (ps_if (pt_not (pt_val (pe_callB call_isi (by rfl) T.isinstance (by decide +kernel) (pa_cons (pv 0) (pa_cons (pe_bltn (v := .ty "str") (by rfl) T.str (by decide +kernel) rfl) pa_nil))))) (pss_one (ps_ret pe_non)) pss_nil)
      (pss_cons (ps_set (i := 1) sc_law_read.nd rfl (Or.inl rfl) (pe_split (pv 0) pe_str))
      (pss_cons (ps_setLc (i := 2) (own := [("_law_word", 3)]) (g := gName 3) (tt := tYes) rfl sc_law_read.nd rfl rfl (sw_true rfl rfl rfl (by decide +kernel)) (pi_list (pv 1)) (blkOk_by (N := N_law_read) (sc := defScope s_law_read) (by decide +kernel)) (fun _ _ _ _ _ => pg_name (i := 3) sc_law_read.nd rfl (Or.inl rfl)) (fun _ _ _ _ _ => pts_nil) (fun _ _ _ _ _ => (pe_has C_law_number gd (hr.mono (by decide)) rfl (pa_cons (pv 3) pa_nil))))
      (pss_cons (ps_if (PW.pt (pw_or (pt_cmpR op_in_seq pe_non (pe_slice sl_list (pv 2) po_none (po_some (pe_un un_neg pe_int))) (by with_unfolding_all rfl)) (pw_or (PW.pt (pw_and (pt_cmpR op_isN (pe_ix ix_list (pv 2) (pe_un un_neg pe_int) (fun _ _ => rfl)) pe_non (nomark _)) (pw_and1 (pt_cmpR op_ne (pe_ix ix_list (pv 1) (pe_un un_neg pe_int) (fun _ _ => rfl)) pe_str (nomark _))))) (pw_or1 (pt_cmpR op_gt (pe_callB call_len_seq (by rfl) T.len PySem.boot_len (pa_cons (pv 2) pa_nil)) pe_int (nomark _)))))) (pss_one (ps_ret pe_non)) pss_nil)
      (pss_cons (ps_setLc (i := 4) (own := [("_law_life", 5)]) (g := gName 5) rfl sc_law_read.nd rfl rfl (sw_true rfl rfl rfl (by decide +kernel)) (pi_list (pv 2)) (blkOk_by (N := N_law_read) (sc := defScope s_law_read) (by decide +kernel)) (fun _ _ _ _ _ => pg_name (i := 5) sc_law_read.nd rfl (Or.inl rfl)) (fun _ _ _ _ _ => (pts_one (pt_cmpR op_notN (pv 5) pe_non (nomark _)))) (fun _ _ _ _ _ => (pv 5)))
      (pss_one (ps_ret (pe_ifExp (pt_cmpR (op_eqD hr.units) (pv 4) (pe_callB cr_sortedI (by rfl) T.sorted (by decide +kernel) (pa_cons (pv 4) pa_nil)) (nomark _)) (pe_callTy call_tuple_of (by rfl) T.tuple (by decide +kernel) (pa_cons (pv 2) pa_nil)) pe_non)))))))), ?_⟩
    cases hd with
    | str x =>
      obtain ⟨ha, hl⟩ := ht x rfl
      refine ⟨_, rfl, _, _, _, _, true, rfl, .ty _, .base (.str _), kit_ty (by decide +kernel), true, rfl, ?_⟩
      refine ite2 (fun z => absurd z (by decide)) (fun _ => ?_)
      unfold tNext
      dsimp only
      obtain ⟨i, l, ews⟩ : ∃ i l, Txt.split x " " = i ++ [l] := ⟨(Txt.split x " ").dropLast, (Txt.split x " ").getLast (split_ne x), (List.dropLast_concat_getLast _).symm⟩
      obtain ⟨sl1, sl2⟩ := split_len x
      have sa := split_ascii ha
      have er : readD (.str x) = (i ++ [l]).map rdO := by
        show (Txt.split x " ").map rdO = _
        rw [ews]
      rw [er] at ky kn
      refine ⟨_, rfl, ⟨_, rfl⟩, _, _, rfl, rfl, rfl, by rw [sizeLine_eq]; omega, fun p1 hp1 => ?_⟩
      rw [ews] at sl1 sl2 sa ⊢
      have s1 := same_upd (o := .lst ((i ++ [l]).map V.str)) hp1
      have e1 := upd_same (H := H) (a := p1) (o := .lst ((i ++ [l]).map V.str))
      generalize upd H p1 (.lst ((i ++ [l]).map V.str)) = H1 at *
      refine gN_st (σ' := [some (.str x), some (.ref p1), none, none, none, none]) rfl ?_
      refine ⟨_, rfl, p1, rfl, ⟨_, SqL.of e1⟩, fun D hD => lc_genL (f := V.str) (p := fun _ => true) (e := fun w => lv (numO w)) hD (SqL.of e1) (by rw [sizeLine_eq]; omega) (fun w H' hw s2 N S' hN hS => ?_) (fun H2 s2 eD => ?_)⟩
      · refine ⟨rfl, _, rfl, w, rfl, sa w hw, ?_, ?_⟩
        · have := sl2 w hw
          omega
        · exact hN rfl _ (Same.refl _)
      rw [List.filter_eq_self.mpr (fun _ _ => rfl)] at eD
      have eD' : H2 D = some (.lst (((i ++ [l]).map numO).map lv)) := by rw [eD, List.map_map]; rfl
      refine gN_st (σ' := [some (.str x), some (.ref p1), some (.ref D), none, none, none]) rfl ?_
      have em : ((i ++ [l]).map numO).map lv = (i.map numO).map lv ++ [lv (numO l)] := by rw [List.map_append, List.map_append]; rfl
      have iff := read_iff i l
      have no : ¬ ((∀ w ∈ i, (rdN w).isSome = true) ∧ ((rdN l).isSome = true ∨ l = dash) ∧ (i ++ [l]).length ≤ 61 ∧ ((i ++ [l]).filterMap numO).Pairwise (· ≤ ·)) → ∀ H', Same H H' → Q .non H' := fun h => kn (by
        cases z : areD (dLs ((i ++ [l]).map rdO)) with
        | false => rfl
        | true => exact absurd (iff.mp z) h)
      have s12 := s1.trans s2
      have e12 := s2 _ _ e1
      dsimp only
      refine ⟨_, rfl, _, rfl, _, rfl, D, _, rfl, SqL.of eD', fun D2 hD2 => ?_⟩
      have s3 := same_upd (o := .lst (cutV (((i ++ [l]).map numO).map lv) none (some (-1)))) hD2
      have e3 : upd H2 D2 (.lst (cutV (((i ++ [l]).map numO).map lv) none (some (-1)))) D2 = some (.lst ((i.map numO).map lv)) := by rw [upd_same, em, cut_initV]
      generalize upd H2 D2 (.lst (cutV (((i ++ [l]).map numO).map lv) none (some (-1)))) = H3 at *
      have eD3 := s3 _ _ eD'
      have e13 := s3 _ _ e12
      have s13 := s12.trans s3
      refine ⟨D2, _, rfl, .inl (SqL.of e3), rfl, flat_lv _, _, rfl, ?_⟩
      by_cases h1 : ∀ w ∈ i, (rdN w).isSome = true
      rotate_left
      · refine ite2 (fun _ => ?_) (fun z => absurd ((in_non i).mpr h1) z)
        refine ite2 (fun _ => ?_) (fun z => absurd rfl z)
        exact no (fun z => h1 z.1) _ s13
      refine ite2 (fun z => absurd h1 ((in_non i).mp z)) (fun _ => ?_)
      have eD3' : H3 D = some (.lst ((i.map numO).map lv ++ [lv (numO l)])) := by rw [eD3, em]
      have e13' : H3 p1 = some (.lst (i.map V.str ++ [V.str l])) := by rw [e13, List.map_append]; rfl
      by_cases h2 : (rdN l).isSome = true ∨ l = dash
      rotate_left
      · have h2a : rdN l = none := by
          cases q : rdN l with
          | none => rfl
          | some n => exact absurd (.inl (by rw [q]; rfl)) h2
        have h2b : l ≠ dash := fun z => h2 (.inr z)
        refine ⟨_, rfl, _, rfl, D, _, _, _, rfl, rfl, SqL.of eD3', atI_last _ _, rfl, _, rfl, ?_⟩
        refine ite2 (fun _ => ?_) (fun z => absurd (by unfold numO; rw [h2a]; rfl) z)
        refine ⟨_, rfl, _, rfl, p1, _, _, _, rfl, rfl, SqL.of e13', atI_last _ _, rfl, _, rfl, ?_⟩
        refine ite2 (fun _ => ?_) (fun z => absurd (by have : V.str l ≠ V.str "-" := fun w => h2b (by injection w); simp [this]) z)
        refine ite2 (fun _ => ?_) (fun z => absurd rfl z)
        exact no (fun z => h2 z.2.1) _ s13
      refine or_first2 (fun HA sA => ?_) (fun k2 hk2 => ?_)
      rotate_left
      · refine ⟨_, rfl, _, rfl, D, _, _, _, rfl, rfl, SqL.of eD3', atI_last _ _, rfl, _, rfl, ?_⟩
        cases q : rdN l with
        | some n =>
          have en : numO l = some ((n : Nat) : Int) := by unfold numO; rw [q]; rfl
          rw [en]
          exact ite2 (fun z => by have z := of_decide_eq_true z; cases z) (fun _ => hk2 _ (Same.refl _))
        | none =>
          have hd : l = dash := by
            rcases h2 with h2 | h2
            · rw [q] at h2; cases h2
            · exact h2
          have en : numO l = none := by unfold numO; rw [q]; rfl
          rw [en]
          refine ite2 (fun _ => ?_) (fun z => absurd rfl z)
          refine ⟨_, rfl, _, rfl, p1, _, _, _, rfl, rfl, SqL.of e13', atI_last _ _, rfl, _, rfl, ?_⟩
          rw [show (!decide (V.str l = V.str "-")) = false by rw [hd]; simp [dash]]
          exact hk2 _ (Same.refl _)
      have eDA := sA _ _ eD3
      have s1A := s13.trans sA
      refine ⟨_, rfl, D, _, rfl, .inl (SqL.of eDA), _, _, rfl, rfl, _, rfl, ?_⟩
      rw [List.length_map, List.length_map]
      by_cases h3 : (i ++ [l]).length ≤ 61
      rotate_left
      · refine ite2 (fun _ => ?_) (fun z => absurd (decide_eq_true (show (61 : Int) < (((i ++ [l]).length : Nat) : Int) by omega)) z)
        exact no (fun z => h3 z.2.2.1) _ s1A
      refine ite2 (fun z => absurd (of_decide_eq_true z) (show ¬ (61 : Int) < (((i ++ [l]).length : Nat) : Int) by omega)) (fun _ => ?_)
      dsimp only
      refine ⟨_, rfl, D, rfl, ⟨_, SqL.of eDA⟩, fun D4 hD4 => lc_genL (f := lv) (p := fun o => o.isSome) (e := lv) hD4 (SqL.of eDA) (by rw [List.length_map, sizeLine_eq]; omega) (fun o H' ho s4 N S' hN hS => ?_) (fun H4 s4 eD4 => ?_)⟩
      · refine ⟨rfl, ?_⟩
        cases o with
        | none => exact ⟨_, rfl, rfl, _, rfl, ite2 (fun z => absurd z (by simp [lv])) (fun _ => hS rfl _ (Same.refl _))⟩
        | some n => exact ⟨_, rfl, rfl, _, rfl, ite2 (fun _ => ⟨_, rfl, hN rfl _ (Same.refl _)⟩) (fun z => absurd (by simp [lv]) z)⟩
      rw [some_lv] at eD4
      refine gN_st (σ' := [some (.str x), some (.ref p1), some (.ref D), none, some (.ref D4), none]) rfl ?_
      obtain ⟨ns, ens⟩ : ∃ ns, ns = (i ++ [l]).filterMap numO := ⟨_, rfl⟩
      rw [← ens] at eD4 iff no
      refine ⟨_, rfl, _, rfl, D4, ns, rfl, SqL.of eD4, fun ms D5 pm pw hD5 => ?_⟩
      have s5 := same_upd (o := .lst (ms.map V.int)) hD5
      have e5 := upd_same (H := H4) (a := D5) (o := .lst (ms.map V.int))
      have eD45 := s5 _ _ eD4
      have eDA5 := s5 _ _ (s4 _ _ eDA)
      have s15 := s1A.trans (s4.trans s5)
      generalize upd H4 D5 (.lst (ms.map V.int)) = H5 at *
      refine ⟨_, _, .lst (SqL.of eD45) (dpAll_ints _), .lst (SqL.of e5) (dpAll_ints _), shaped_ints _, shaped_ints _, ?_⟩
      rw [show PyData.eqv (.list (ns.map PyData.int)) (.list (ms.map PyData.int)) = decide (ns = ms) from eqv_intsA ns ms]
      refine ⟨_, rfl, ?_⟩
      by_cases h4 : ns.Pairwise (· ≤ ·)
      · refine ite2 (fun _ => ?_) (fun z => absurd (decide_eq_true ((srt_eq pm pw).mpr h4)) z)
        have ar := iff.mpr ⟨h1, h2, h3, h4⟩
        refine ⟨_, rfl, D, _, rfl, .inl ⟨SqL.of eDA5, fun T hT => ?_⟩⟩
        refine ky ar T _ (s15.trans (same_upd hT)) ?_
        rw [upd_same, read_num ar]
      · refine ite2 (fun z => absurd ((srt_eq pm pw).mp (of_decide_eq_true z)) h4) (fun _ => ?_)
        exact no (fun z => h4 z.2.2.2) _ s15
    | int i => exact ⟨_, rfl, _, _, _, _, false, rfl, .ty _, .base (.int i), kit_ty (by decide +kernel), false, rfl, ite2 (fun _ => kn rfl _ (Same.refl _)) (fun z => absurd rfl z)⟩
    | bl b => exact ⟨_, rfl, _, _, _, _, false, rfl, .ty _, .base (.bl b), kit_ty (by decide +kernel), false, rfl, ite2 (fun _ => kn rfl _ (Same.refl _)) (fun z => absurd rfl z)⟩
    | non => exact ⟨_, rfl, _, _, _, _, false, rfl, .ty _, .base .non, kit_ty (by decide +kernel), false, rfl, ite2 (fun _ => kn rfl _ (Same.refl _)) (fun z => absurd rfl z)⟩
    | lst e n a => exact ⟨_, rfl, _, _, _, _, false, rfl, .ty _, .base (.lst e), kit_ty (by decide +kernel), false, rfl, ite2 (fun _ => kn rfl _ (Same.refl _)) (fun z => absurd rfl z)⟩
    | tup e a => exact ⟨_, rfl, _, _, _, _, false, rfl, .ty _, tyx_seqt e, kit_ty (by decide +kernel), false, rfl, ite2 (fun _ => kn rfl _ (Same.refl _)) (fun z => absurd rfl z)⟩
    | dct e n a => exact ⟨_, rfl, _, _, _, _, false, rfl, .ty _, .base (.dK e), kit_ty (by decide +kernel), false, rfl, ite2 (fun _ => kn rfl _ (Same.refl _)) (fun z => absurd rfl z)⟩
end
/-! SPLIT -/
abbrev s_law_bent : Stmt := (top 38)
abbrev N_law_bent : List Str := ["_law_pool_here", "_law_text_here", "_law_way", "_law_at", "_law_words", "_law_sign", "_law_spot", "_law_more", "_law_put"]
theorem sc_law_bent : FnScope N_law_bent ["_law_pool_here", "_law_text_here"] (defScope s_law_bent) :=
  ⟨rfl, rfl, rfl, by decide +kernel, rfl, by decide +kernel, by decide +kernel⟩
def spBent : Sp := fun vs H Q _ => ∃ (a : Addr) (n m : Nat) (x : Str), vs = [.ref a, .str x] ∧ PotAt H a n ∧ n < 400000 ∧ Ascii x ∧ x.length ≤ m ∧ m ≤ 900 ∧ ∀ (y : Str) H', Ascii y → y.length ≤ 4 * m + 100 → PotAt H' a (n + 5) → But a H H' → Q (.str y) H'
section
variable {P : Program} {w : World} {K : PySem.W.Frag} {mg : Str → Option Value} {base : Heap}
theorem ok_bent (D : Df K mg "_law_bent" s_law_bent ["_law_pool_here", "_law_text_here"]) (T : Bl mg) (C_law_draw : Has P w K mg base 1 "_law_draw" ["_law_pool_here", "_law_limit"] spTake) (C_law_pick : Has P w K mg base 2 "_law_pick" ["_law_pool_here", "_law_some"] (spPick K)) : Has P w K mg base 3 "_law_bent" ["_law_pool_here", "_law_text_here"] spBent := by
  refine D.has sc_law_bent (fun vs H Q E h => ?_) (fun f cdv A outer s H vs Q E gd hr h => ?_)
  · obtain ⟨a, n, m, x, rfl, _⟩ := h
    rfl
  · obtain ⟨a, n, m, x, rfl, hp, hn, hx, hl, hm, k⟩ := h
    refine ⟨_, (pss_cons (ps_par3 (i := 2) (j := 3) (l := 4) rfl sc_law_bent.nd rfl rfl rfl (by decide) (by decide) (by decide) rfl rfl rfl (pa_cons (pe_has C_law_draw gd (hr.mono (by decide)) rfl (pa_cons (pv 0) (pa_cons pe_int pa_nil))) (pa_cons (pe_has C_law_draw gd (hr.mono (by decide)) rfl (pa_cons (pv 0) (pa_cons (pe_op op_add (pe_callB call_len_str (by rfl) T.len PySem.boot_len (pa_cons (pv 1) pa_nil)) pe_int) pa_nil))) (pa_cons (pe_split (pv 1) pe_str) pa_nil))) (by rfl))
      (pss_cons (ps_par (i := 5) (j := 6) rfl sc_law_bent.nd rfl rfl (by decide) rfl rfl (pa_cons (pe_has C_law_pick gd (hr.mono (by decide)) rfl (pa_cons (pv 0) (pa_cons (pe_lst (pa_cons pe_str (pa_cons pe_str (pa_cons pe_str (pa_cons pe_str (pa_cons pe_str (pa_cons pe_str (pa_cons pe_str (pa_cons pe_str (pa_cons pe_str pa_nil)))))))))) pa_nil))) (pa_cons (pe_has C_law_draw gd (hr.mono (by decide)) rfl (pa_cons (pv 0) (pa_cons (pe_callB call_len_seq (by rfl) T.len PySem.boot_len (pa_cons (pv 4) pa_nil)) pa_nil))) pa_nil)) (by rfl))
      (pss_cons (ps_if (pt_cmpR op_lt (pv 2) pe_int (nomark _)) (pss_one (ps_ret (pe_op op_add_str (pe_op op_add_str (pe_slice sl_str (pv 1) po_none (po_some (pv 3))) (pe_op op_mul_str (pv 5) (pe_callTy call_int1 (by rfl) T.int (by decide +kernel) (pa_cons (pe_cmpR op_gt (pv 2) pe_int (nomark _)) pa_nil)))) (pe_slice sl_str (pv 1) (po_some (pe_op op_add (pv 3) (pe_callTy call_int1 (by rfl) T.int (by decide +kernel) (pa_cons (pe_cmpR op_lt (pv 2) pe_int (nomark _)) pa_nil)))) po_none)))) pss_nil)
      (pss_cons (ps_if (pt_cmpR op_eq (pv 2) pe_int (nomark _)) (pss_one (ps_ret (pe_join pe_str (pe_op op_cat (pe_slice sl_list (pv 4) po_none (po_some (pv 6))) (pe_slice sl_list (pv 4) (po_some (pe_op op_add (pv 6) pe_int)) po_none))))) pss_nil)
      (pss_cons (ps_set (i := 7) sc_law_bent.nd rfl (Or.inl rfl) (pe_lst (pa_cons pe_str (pa_cons pe_str (pa_cons pe_str (pa_cons (pe_callTy call_str_int (by rfl) T.str (by decide +kernel) (pa_cons (pe_op op_pow pe_int pe_int) pa_nil)) (pa_cons (pe_callTy call_str_int (by rfl) T.str (by decide +kernel) (pa_cons (pe_op op_add (pe_op op_pow pe_int pe_int) pe_int) pa_nil)) (pa_cons pe_str (pa_cons pe_str (pa_cons (pe_op op_add_str pe_str (pe_op op_mul_str pe_str pe_int)) (pa_cons pe_str (pa_cons pe_str (pa_cons pe_str (pa_cons pe_str pa_nil))))))))))))))
      (pss_cons (ps_set (i := 8) sc_law_bent.nd rfl (Or.inl rfl) (pe_has C_law_pick gd (hr.mono (by decide)) rfl (pa_cons (pv 0) (pa_cons (pe_op op_cat (pv 7) (pv 4)) pa_nil))))
      (pss_one (ps_ret (pe_join pe_str (pe_op op_cat (pe_op op_cat (pe_slice sl_list (pv 4) po_none (po_some (pv 6))) (pe_lst (pa_cons (pv 8) pa_nil))) (pe_slice sl_list (pv 4) (po_some (pe_op op_add (pv 6) (pe_callTy call_int1 (by rfl) T.int (by decide +kernel) (pa_cons (pe_cmpR op_lt (pv 2) pe_int (nomark _)) pa_nil)))) po_none))))))))))), ?_⟩
    obtain ⟨ws, ews⟩ : ∃ ws, ws = Txt.split x " " := ⟨_, rfl⟩
    have wsz : wSz ws = x.length + 1 := by rw [ews]; exact split_sz x
    have wA : ∀ p ∈ ws, Ascii p := by rw [ews]; exact split_ascii hx
    have wN : 0 < ws.length := by rw [ews]; exact List.length_pos_iff.mpr (split_ne x)
    have wL : ws.length ≤ x.length + 1 := by rw [ews]; exact (split_len x).1
    refine ⟨_, rfl, a, _, 7, rfl, hp, by omega, by decide, by decide, fun w H1 w0 w1 p1 b1 => ?_⟩
    refine ⟨_, rfl, _, rfl, x, rfl, by rw [sizeLine_eq]; omega, _, _, rfl, rfl, a, _, _, rfl, p1, by omega, by show (0 : Int) < ((x.length : Nat) : Int) + 1; omega, small600 (by omega) (by omega), fun at_ H2 a0 a1 p2 b2 => ?_⟩
    refine ⟨_, rfl, ⟨_, rfl⟩, x, _, rfl, rfl, rfl, by rw [sizeLine_eq]; omega, fun W hW => ?_⟩
    rw [← ews]
    have s3 := same_upd (o := .lst (ws.map V.str)) hW
    have eW3 := upd_same (H := H2) (a := W) (o := .lst (ws.map V.str))
    have p3 := p2.same s3
    have nWa : W ≠ a := (p2.ne hW).symm
    have b03 : But a H _ := b1.trans (b2.trans (But.of s3))
    generalize upd H2 W (.lst (ws.map V.str)) = H3 at *
    refine ⟨_, _, _, rfl, ?_⟩
    refine to_st (σ' := [some (.ref a), some (.str x), some (.int w), some (.int at_), some (.ref W), none, none, none, none]) rfl ?_
    refine ⟨_, rfl, by show 9 ≤ sizeLine; decide, fun N hN => ⟨a, N, _, _, rfl, p3.same (same_upd hN), by omega, SqL.of upd_same, (p3.ne hN).symm, by show 0 < 9; decide, by show 9 ≤ 1000; decide, fun v H4 hv p4 b4 => ?_⟩⟩
    obtain ⟨sg, rfl, sA, sL⟩ : ∃ sg : Str, v = .str sg ∧ Ascii sg ∧ sg.length ≤ 2 := by
      have hv' : v ∈ (["0", "1", "9", "-", " ", "  ", "a", "\n", "."] : List Str).map V.str := hv
      obtain ⟨z, hz, rfl⟩ := List.mem_map.mp hv'
      have hq' : ∀ z ∈ (["0", "1", "9", "-", " ", "  ", "a", "\n", "."] : List Str), (TL.tl z).all (fun c => decide (c < 128)) = true ∧ z.length ≤ 2 := by decide +kernel
      have q := hq' z hz
      exact ⟨z, rfl, fun c hc => of_decide_eq_true (List.all_eq_true.mp q.1 c hc), q.2⟩
    clear hv
    have b34 : But a H3 H4 := (But.of (same_upd hN)).trans b4
    have eW4 := b34 _ _ eW3 nWa
    refine ⟨_, rfl, _, rfl, W, _, rfl, .inl (SqL.of eW4), a, _, _, rfl, p4, by omega, by rw [List.length_map]; omega, by rw [List.length_map]; exact small600 (by omega) (by omega), fun sp H5 s0 s1 p5 b5 => ?_⟩
    have eW5 := b5 _ _ eW4 nWa
    have b05 : But a H H5 := b03.trans (b34.trans b5)
    refine ⟨_, _, rfl, ?_⟩
    refine to_st (σ' := [some (.ref a), some (.str x), some (.int w), some (.int at_), some (.ref W), some (.str sg), some (.int sp), none, none]) rfl ?_
    refine ⟨_, rfl, _, _, rfl, rfl, _, rfl, ?_⟩
    by_cases c1 : w < 3
    · refine ite2 (fun _ => ?_) (fun z => absurd (decide_eq_true c1) z)
      refine ⟨_, rfl, _, rfl, _, rfl, x, rfl, by rw [sizeLine_eq]; omega, _, rfl, _, rfl, _, _, rfl, rfl, .inr ⟨_, rfl, ?_⟩⟩
      have mk : ∀ b : Bool, MulOk sg (if b = true then 1 else 0) ∧ Ascii (Txt.mul sg (if b = true then 1 else 0)) ∧ (Txt.mul sg (if b = true then 1 else 0)).length ≤ 2 := fun b => by
        cases b with
        | true => exact ⟨mulOk_1 sg, by rw [show (if true = true then (1 : Int) else 0) = 1 from rfl, mul_1]; exact sA, by rw [show (if true = true then (1 : Int) else 0) = 1 from rfl, mul_1]; exact sL⟩
        | false => exact ⟨mulOk_0 sg, by rw [show (if false = true then (1 : Int) else 0) = 0 from rfl, mul_0]; exact fun c hc => absurd (show c ∈ ([] : List Nat) from hc) (by simp), by rw [show (if false = true then (1 : Int) else 0) = 0 from rfl, mul_0]; exact Nat.zero_le _⟩
      obtain ⟨k1, k2, k3⟩ := mk (decide (0 < w))
      have l1 := cutS_length x none (some at_)
      refine ⟨sg, _, rfl, rfl, k1, _, _, rfl, rfl, by rw [sizeLine_eq]; omega, ?_⟩
      have l2 := len_app (cutS x none (some at_)) (Txt.mul sg (if decide (0 < w) = true then 1 else 0))
      refine ⟨_, rfl, _, rfl, _, rfl, _, _, rfl, rfl, .inr ⟨_, rfl, _, _, rfl, rfl, _, rfl, x, rfl, by rw [sizeLine_eq]; omega, ?_⟩⟩
      have l3 := cutS_length x (some (at_ + if decide (w < 2) = true then 1 else 0)) none
      refine ⟨_, _, rfl, rfl, by rw [sizeLine_eq]; omega, ?_⟩
      refine k _ _ (app_ascii (app_ascii (cutS_ascii hx _ _) k2) (cutS_ascii hx _ _)) ?_ (p5.mono (by omega)) b05
      have l4 := len_app (cutS x none (some at_) ++ Txt.mul sg (if decide (0 < w) = true then 1 else 0)) (cutS x (some (at_ + if decide (w < 2) = true then 1 else 0)) none)
      omega
    · refine ite2 (fun z => absurd (of_decide_eq_true z) c1) (fun _ => ?_)
      unfold tNext
      dsimp only
      have p5' := p5
      refine ⟨_, rfl, rfl, _, rfl, ?_⟩
      by_cases c2 : w = 3
      · refine ite2 (fun _ => ?_) (fun z => absurd (decide_eq_true (congrArg V.int c2)) z)
        refine ⟨⟨_, rfl⟩, _, rfl, _, rfl, _, rfl, W, _, rfl, SqL.of eW5, fun q1 hq1 => ?_⟩
        obtain ⟨us1, eu1, sb1⟩ := cutV_str ws none (some sp)
        rw [eu1]
        have t1 := same_upd (o := .lst (us1.map V.str)) hq1
        have f1 := upd_same (H := H5) (a := q1) (o := .lst (us1.map V.str))
        have eW6 := t1 _ _ eW5
        have p6 := p5.same t1
        generalize upd H5 q1 (.lst (us1.map V.str)) = H6 at *
        refine ⟨_, rfl, _, rfl, _, _, rfl, rfl, _, rfl, W, _, rfl, SqL.of eW6, fun q2 hq2 => ?_⟩
        obtain ⟨us2, eu2, sb2⟩ := cutV_str ws (some (sp + 1)) none
        rw [eu2]
        have t2 := same_upd (o := .lst (us2.map V.str)) hq2
        have f2 := upd_same (H := H6) (a := q2) (o := .lst (us2.map V.str))
        have f12 := t2 _ _ f1
        have p7 := p6.same t2
        generalize upd H6 q2 (.lst (us2.map V.str)) = H7 at *
        have z1 := wSz_sub sb1
        have z2 := wSz_sub sb2
        have z3 := wSz_app us1 us2
        have n1 := sb1.length_le
        have n2 := sb2.length_le
        refine ⟨q1, q2, _, _, rfl, rfl, f12, f2, by rw [List.length_map, List.length_map, sizeLine_eq]; omega, fun q3 hq3 => ?_⟩
        rw [← List.map_append]
        have t3 := same_upd (o := .lst ((us1 ++ us2).map V.str)) hq3
        have f3 := upd_same (H := H7) (a := q3) (o := .lst ((us1 ++ us2).map V.str))
        have p8 := p7.same t3
        generalize upd H7 q3 (.lst ((us1 ++ us2).map V.str)) = H8 at *
        have jl := join_len (us1 ++ us2)
        refine ⟨" ", q3, us1 ++ us2, rfl, rfl, .inl (SqL.of f3), ?_, ?_⟩
        · have e : ((us1 ++ us2).map (·.length)).sum + (us1 ++ us2).length = wSz (us1 ++ us2) := rfl
          rw [show (" " : Str).length = 1 from rfl, Nat.mul_one]
          omega
        · refine k _ _ (join_ascii fun p hp => ?_) (by omega) (p8.mono (by omega)) (b05.trans (But.of (t1.trans (t2.trans t3))))
          rcases List.mem_append.mp hp with h | h
          · exact wA p (sb1.subset h)
          · exact wA p (sb2.subset h)
      · refine ite2 (fun z => absurd (of_decide_eq_true z) (fun v => c2 (by injection v))) (fun _ => ?_)
        dsimp only
        obtain ⟨ms, ems⟩ : ∃ ms : List Str, ms = ([("0" : Str), ("00" : Str), ("7" : Str), num (10 ^ 18), num (10 ^ 18 + 1), ("-" : Str), ("-1" : Str), ("1" : Str) ++ Txt.mul "0" 19, ("" : Str), ("None" : Str), ("1.0" : Str), ("+1" : Str)] : List Str) := ⟨_, rfl⟩
        have l2a : ((10 : Int) ^ (18 : Int).toNat).natAbs.log2 < 1920 := by decide +kernel
        have l2b : ((10 : Int) ^ (18 : Int).toNat + 1).natAbs.log2 < 1920 := by decide +kernel
        refine ⟨_, _, rfl, rfl, ⟨by decide, by decide, by decide⟩, _, rfl, l2a, _, _, rfl, rfl, ⟨by decide, by decide, by decide⟩, _, _, rfl, rfl, _, rfl, l2b, _, _, rfl, rfl, mulOk_19, _, _, rfl, rfl, by decide +kernel, by show 12 ≤ sizeLine; decide, fun q1 hq1 => ?_⟩
        have t1 := same_upd (o := .lst (ms.map V.str)) hq1
        have f1 : upd H5 q1 (.lst (ms.map V.str)) q1 = some (.lst (ms.map V.str)) := upd_same
        have mA : ∀ z ∈ ms, Ascii z ∧ z.length ≤ 25 := fun z hz => by
          have hq' : ∀ z ∈ ([("0" : Str), ("00" : Str), ("7" : Str), num (10 ^ 18), num (10 ^ 18 + 1), ("-" : Str), ("-1" : Str), ("1" : Str) ++ Txt.mul "0" 19, ("" : Str), ("None" : Str), ("1.0" : Str), ("+1" : Str)] : List Str), (TL.tl z).all (fun c => decide (c < 128)) = true ∧ z.length ≤ 25 := by decide +kernel
          have q := hq' z (by rw [← ems]; exact hz)
          exact ⟨fun c hc => of_decide_eq_true (List.all_eq_true.mp q.1 c hc), q.2⟩
        have eml : ms.length = 12 := by rw [ems]; rfl
        have goalU : upd H5 q1 (.lst (ms.map V.str)) = upd H5 q1 (.lst (([("0" : Str), ("00" : Str), ("7" : Str), num (10 ^ 18), num (10 ^ 18 + 1), ("-" : Str), ("-1" : Str), ("1" : Str) ++ Txt.mul "0" 19, ("" : Str), ("None" : Str), ("1.0" : Str), ("+1" : Str)] : List Str).map V.str)) := by rw [ems]
        refine gN_stH (σ' := [some (.ref a), some (.str x), some (.int w), some (.int at_), some (.ref W), some (.str sg), some (.int sp), some (.ref q1), none]) rfl (H' := upd H5 q1 (.lst (ms.map V.str))) ?_ ?_
        · rw [goalU]
          rfl
        clear goalU ems
        have eW6 := t1 _ _ eW5
        have p6 := p5.same t1
        generalize upd H5 q1 (.lst (ms.map V.str)) = H6 at *
        dsimp only
        refine ⟨_, rfl, _, rfl, _, rfl, q1, W, _, _, rfl, rfl, f1, eW6, by rw [List.length_map, List.length_map, sizeLine_eq]; omega, fun q2 hq2 => ?_⟩
        rw [← List.map_append]
        have t2 := same_upd (o := .lst ((ms ++ ws).map V.str)) hq2
        have f2 := upd_same (H := H6) (a := q2) (o := .lst ((ms ++ ws).map V.str))
        have p7 := p6.same t2
        have eW7 := t2 _ _ eW6
        have nq2 : q2 ≠ a := (p6.ne hq2).symm
        generalize upd H6 q2 (.lst ((ms ++ ws).map V.str)) = H7 at *
        refine ⟨a, q2, _, _, rfl, p7, by omega, SqL.of f2, nq2, by rw [List.length_map, List.length_append]; omega, by rw [List.length_map, List.length_append]; omega, fun v H8 hv p8 b8 => ?_⟩
        obtain ⟨pw, hpw, rfl⟩ := List.mem_map.mp hv
        obtain ⟨pA, pL⟩ : Ascii pw ∧ pw.length ≤ m + 25 := by
          rcases List.mem_append.mp hpw with h | h
          · have := mA pw h
            exact ⟨this.1, by omega⟩
          · have z := wSz_sub (List.singleton_sublist.mpr h)
            have e : wSz [pw] = pw.length + 1 := by unfold wSz; simp
            exact ⟨wA pw h, by omega⟩
        have eW8 := b8 _ _ eW7 nWa
        have b08 : But a H H8 := b05.trans ((But.of (t1.trans t2)).trans b8)
        refine gN_st (σ' := [some (.ref a), some (.str x), some (.int w), some (.int at_), some (.ref W), some (.str sg), some (.int sp), some (.ref q1), some (.str pw)]) rfl ?_
        refine ⟨⟨_, rfl⟩, _, rfl, _, rfl, _, rfl, W, _, rfl, SqL.of eW8, fun r1 hr1 => ?_⟩
        obtain ⟨us1, eu1, sb1⟩ := cutV_str ws none (some sp)
        rw [eu1]
        have v1 := same_upd (o := .lst (us1.map V.str)) hr1
        have g1 := upd_same (H := H8) (a := r1) (o := .lst (us1.map V.str))
        have eW9 := v1 _ _ eW8
        have p9 := p8.same v1
        generalize upd H8 r1 (.lst (us1.map V.str)) = H9 at *
        refine ⟨_, rfl, by show 1 ≤ sizeLine; decide, fun r2 hr2 => ?_⟩
        have v2 := same_upd (o := .lst [V.str pw]) hr2
        have g2 := upd_same (H := H9) (a := r2) (o := .lst [V.str pw])
        have g12 := v2 _ _ g1
        have eW10 := v2 _ _ eW9
        have p10 := p9.same v2
        generalize upd H9 r2 (.lst [V.str pw]) = H10 at *
        have n1 := sb1.length_le
        refine ⟨r1, r2, _, _, rfl, rfl, g12, g2, by rw [List.length_map, sizeLine_eq]; show us1.length + 1 ≤ _; omega, fun r3 hr3 => ?_⟩
        have em : us1.map V.str ++ [V.str pw] = (us1 ++ [pw]).map V.str := by rw [List.map_append]; rfl
        rw [em]
        have v3 := same_upd (o := .lst ((us1 ++ [pw]).map V.str)) hr3
        have g3 := upd_same (H := H10) (a := r3) (o := .lst ((us1 ++ [pw]).map V.str))
        have eW11 := v3 _ _ eW10
        have p11 := p10.same v3
        generalize upd H10 r3 (.lst ((us1 ++ [pw]).map V.str)) = H11 at *
        refine ⟨_, rfl, _, rfl, _, rfl, _, _, rfl, rfl, .inr ⟨_, rfl, _, _, rfl, rfl, _, rfl, W, _, rfl, SqL.of eW11, fun r4 hr4 => ?_⟩⟩
        obtain ⟨us2, eu2, sb2⟩ := cutV_str ws (some (sp + if decide (w < 6) = true then 1 else 0)) none
        rw [eu2]
        have v4 := same_upd (o := .lst (us2.map V.str)) hr4
        have g4 := upd_same (H := H11) (a := r4) (o := .lst (us2.map V.str))
        have g34 := v4 _ _ g3
        have p12 := p11.same v4
        generalize upd H11 r4 (.lst (us2.map V.str)) = H12 at *
        have n2 := sb2.length_le
        have z1 := wSz_sub sb1
        have z2 := wSz_sub sb2
        have z3 := wSz_app us1 [pw]
        have z4 := wSz_app (us1 ++ [pw]) us2
        have z5 : wSz [pw] = pw.length + 1 := by unfold wSz; simp
        have n3 : (us1 ++ [pw]).length = us1.length + 1 := by rw [List.length_append]; rfl
        refine ⟨r3, r4, _, _, rfl, rfl, g34, g4, by rw [List.length_map, List.length_map, sizeLine_eq]; omega, fun r5 hr5 => ?_⟩
        rw [← List.map_append]
        have v5 := same_upd (o := .lst ((us1 ++ [pw] ++ us2).map V.str)) hr5
        have g5 := upd_same (H := H12) (a := r5) (o := .lst ((us1 ++ [pw] ++ us2).map V.str))
        have p13 := p12.same v5
        generalize upd H12 r5 (.lst ((us1 ++ [pw] ++ us2).map V.str)) = H13 at *
        have jl := join_len (us1 ++ [pw] ++ us2)
        refine ⟨" ", r5, us1 ++ [pw] ++ us2, rfl, rfl, .inl (SqL.of g5), ?_, ?_⟩
        · have e : ((us1 ++ [pw] ++ us2).map (·.length)).sum + (us1 ++ [pw] ++ us2).length = wSz (us1 ++ [pw] ++ us2) := rfl
          rw [show (" " : Str).length = 1 from rfl, Nat.mul_one]
          omega
        · refine k _ _ (join_ascii fun p hp => ?_) (by omega) (p13.mono (by omega)) (b08.trans (But.of (v1.trans (v2.trans (v3.trans (v4.trans v5))))))
          rcases List.mem_append.mp hp with h | h
          · rcases List.mem_append.mp h with h | h
            · exact wA p (sb1.subset h)
            · rw [List.mem_singleton.mp h]
              exact pA
          · exact wA p (sb2.subset h)
end
/-! SPLIT -/
abbrev s_law_text : Stmt := (top 35)
abbrev N_law_text : List Str := ["_law_lives_here", "_law_life"]
theorem sc_law_text : FnScope N_law_text ["_law_lives_here"] (defScope s_law_text) :=
  ⟨rfl, rfl, rfl, by decide +kernel, rfl, by decide +kernel, by decide +kernel⟩
/-- lives that can be written -/
def Wr (ls : List (Option Int)) : Prop := ∀ x, some x ∈ ls → 0 ≤ x ∧ x < 10 ^ 30
def spText : Sp := fun vs H Q _ => ∃ (a : Addr) (ls : List (Option Int)), vs = [.ref a] ∧ H a = some (.tup (ls.map lv)) ∧ ls.length ≤ 100 ∧ Wr ls ∧ ∀ H', Same H H' → Q (.str (Txt.join " " (ls.map wordO))) H'
theorem Good.mem {ls : List (Option Int)} (g : Good ls) {x : Int} (h : some x ∈ ls) : 0 ≤ x ∧ x ≤ 10 ^ 18 := by
  obtain ⟨is, l, rfl, hi, hl⟩ := g.init
  rcases List.mem_append.mp h with h | h
  · obtain ⟨y, hy, e⟩ := List.mem_map.mp h
    cases e
    exact hi _ hy
  · exact hl _ (List.mem_singleton.mp h).symm
theorem word_len {ls : List (Option Int)} (h : Wr ls) {o : Option Int} (ho : o ∈ ls) : (wordO o).length ≤ 30 := by
  cases o with
  | none => decide
  | some x =>
    obtain ⟨h0, h1⟩ := h x ho
    show (num x.toNat).length ≤ 30
    rw [num_len]
    exact TL.numL_len (by decide) (by omega)
theorem sum_words : ∀ {ls : List (Option Int)} (_ : ∀ o ∈ ls, (wordO o).length ≤ 30), ((ls.map wordO).map (·.length)).sum ≤ 30 * ls.length
  | [], _ => Nat.le_refl _
  | o :: r, h => by
    have a := h o List.mem_cons_self
    have b := sum_words (ls := r) fun x hx => h x (List.mem_cons_of_mem _ hx)
    show (wordO o).length + ((r.map wordO).map (·.length)).sum ≤ 30 * (r.length + 1)
    omega
theorem joinL_len (S : List Nat) : ∀ ps : List (List Nat), (TL.joinL S ps).length ≤ (ps.map (·.length)).sum + ps.length * S.length
  | [] => Nat.zero_le _
  | [p] => by
    show p.length ≤ p.length + 0 + 1 * S.length
    omega
  | p :: q :: r => by
    have z := joinL_len S (q :: r)
    show (p ++ (S ++ TL.joinL S (q :: r))).length ≤ _
    rw [List.length_append, List.length_append, List.map_cons, List.sum_cons, List.length_cons, Nat.succ_mul]
    omega
theorem text_len {ls : List (Option Int)} (h : Wr ls) : (Txt.join " " (ls.map wordO)).length ≤ 31 * ls.length := by
  have s := sum_words (ls := ls) fun o ho => word_len h ho
  have z := joinL_len (TL.tl (" " : Str)) ((ls.map wordO).map TL.tl)
  rw [TL.len_tl, TL.join_eq, TL.tl_join]
  have e : (((ls.map wordO).map TL.tl).map (·.length)).sum = ((ls.map wordO).map (·.length)).sum := by
    rw [List.map_map]
    congr 1
  rw [e, List.length_map, List.length_map, show (TL.tl (" " : Str)).length = 1 from rfl] at z
  omega
section
variable {P : Program} {w : World} {K : PySem.W.Frag} {mg : Str → Option Value} {base : Heap}
theorem ok_text (D : Df K mg "_law_text" s_law_text ["_law_lives_here"]) (T : Bl mg) : Has P w K mg base 1 "_law_text" ["_law_lives_here"] spText := by
  refine D.has sc_law_text (fun vs H Q E h => ?_) (fun f cdv A outer s H vs Q E gd hr h => ?_)
  · obtain ⟨a, ls, rfl, _⟩ := h
    rfl
  · obtain ⟨a, ls, rfl, ea, hl, hw, k⟩ := h
    have wl := sum_words (ls := ls) fun o ho => word_len hw ho
    refine ⟨_, (pss_one (ps_ret (pe_join pe_str (pe_lc (own := [("_law_life", 1)]) (g := gName 1) (tt := tYes) rfl sc_law_text.nd (pi_tup (pv 0)) (blkOk_by (N := N_law_text) (sc := defScope s_law_text) (by decide +kernel)) (fun _ _ _ _ _ => pg_name (i := 1) sc_law_text.nd rfl (Or.inl rfl)) (fun _ _ _ _ _ => pts_nil) (fun _ _ _ _ _ => (pe_ifExp (pt_cmpR op_isN (pv 1) pe_non (nomark _)) pe_str (pe_callTy call_str_int (by rfl) T.str (by decide +kernel) (pa_cons (pv 1) pa_nil)))))))), ?_⟩
    refine ⟨⟨_, rfl⟩, _, rfl, a, rfl, ⟨_, SqT.of ea⟩, fun D hD => lc_genT (f := lv) (p := fun _ => true) (e := fun o => V.str (wordO o)) hD (SqT.of ea) (small1000 (by omega)) (fun o H' ho s2 N S' hN hS => ?_) (fun H2 s2 eD => ?_)⟩
    · refine ⟨rfl, ?_⟩
      cases o with
      | none => exact ⟨_, rfl, rfl, _, rfl, ite2 (fun _ => hN rfl _ (Same.refl _)) (fun z => absurd rfl z)⟩
      | some x =>
        obtain ⟨x0, x1⟩ := hw x ho
        obtain ⟨n, rfl⟩ := Int.eq_ofNat_of_zero_le x0
        refine ⟨_, rfl, rfl, _, rfl, ite2 (fun z => by have z := of_decide_eq_true z; cases z) (fun _ => ?_)⟩
        have l2 : (((n : Nat) : Int)).natAbs.log2 < 1920 := PySem.Flt.log2_lt_of (by decide) (Nat.lt_of_le_of_lt (show (((n : Nat) : Int)).natAbs ≤ 10 ^ 30 by omega) (by decide))
        exact ⟨_, rfl, _, rfl, l2, hN rfl _ (Same.refl _)⟩
    · rw [List.filter_eq_self.mpr (fun _ _ => rfl)] at eD
      have eD' : H2 D = some (.lst ((ls.map wordO).map V.str)) := by rw [eD, List.map_map]; rfl
      refine ⟨" ", D, ls.map wordO, rfl, rfl, .inl (SqL.of eD'), ?_, k _ s2⟩
      rw [List.length_map, show (" " : Str).length = 1 from rfl]
      omega
end
abbrev s_law_texts : Stmt := (top 39)
abbrev N_law_texts : List Str := ["_law_pool_here", "_law_found", "_law_turn", "_law_text_here", "_law_bent_here"]
theorem sc_law_texts : FnScope N_law_texts ["_law_pool_here"] (defScope s_law_texts) :=
  ⟨rfl, rfl, rfl, by decide +kernel, rfl, by decide +kernel, by decide +kernel⟩
/-- a value of any kind that can be handed in as a text, and be shown -/
def TxOk (K : PySem.W.Frag) (bad : List Addr) (H : Hp) (x : V) : Prop := ∃ d, Dq K bad H x d ∧ TxD d ∧ ShQ d 200000 30
def spTexts (K : PySem.W.Frag) : Sp := fun vs H Q _ => ∃ (a : Addr) (n : Nat), vs = [.ref a] ∧ PotAt H a n ∧ n < 100000 ∧ ∀ (L : Addr) (xs : List V) (H' : Hp), H' L = some (.lst xs) → xs.length ≤ 200 → (∀ x ∈ xs, TxOk K [sysModules, a, L] H' x) → PotAt H' a (n + 7000) → But a H H' → L ≠ a → Q (.ref L) H'
theorem word_ascii (o : Option Int) : Ascii (wordO o) := fun c hc => by
  cases o with
  | none =>
    have e : TL.tl (wordO none) = [45] := rfl
    rw [e] at hc
    rw [List.mem_singleton.mp hc]
    decide
  | some i =>
    have e : TL.tl (wordO (some i)) = TL.numL i.toNat := tl_nm _
    rw [e] at hc
    have := TL.numL_digits _ c hc
    omega
theorem text_ascii (ls : List (Option Int)) : Ascii (Txt.join " " (ls.map wordO)) := join_ascii fun p hp => by
  obtain ⟨o, _, rfl⟩ := List.mem_map.mp hp
  exact word_ascii o
theorem TxOk.but {K : PySem.W.Frag} {bad : List Addr} {H H' : Hp} {a : Addr} {n : Nat} {x : V} (t : TxOk K bad H x) (p : PotAt H a n) (ha : a ∈ bad) (b : But a H H') : TxOk K bad H' x := by
  obtain ⟨d, h, r⟩ := t
  exact ⟨d, Dq.buts (ex := [a]) (fun c o e ne => b c o e fun z => ne (List.mem_singleton.mpr z)) p.noTup (fun e he => by rw [List.mem_singleton.mp he]; exact ha) d x h, r⟩
theorem TxOk.same {K : PySem.W.Frag} {bad : List Addr} {H H' : Hp} {x : V} (t : TxOk K bad H x) (s : Same H H') : TxOk K bad H' x := by
  obtain ⟨d, h, r⟩ := t
  exact ⟨d, h.same s, r⟩
theorem TxOk.lst {K : PySem.W.Frag} {bad : List Addr} {H : Hp} {q : Addr} {xs ys : List V} {x : V} (t : TxOk K bad H x) (e : H q = some (.lst xs)) (hq : q ∈ bad) : TxOk K bad (upd H q (.lst ys)) x := by
  obtain ⟨d, h, r⟩ := t
  exact ⟨d, Dq.buts (ex := [q]) (fun c o e ne => by rw [upd_ne (fun z => ne (List.mem_singleton.mpr z))]; exact e) (fun e' he o ho => by
    rw [List.mem_singleton.mp he, e] at ho
    cases ho
    exact ⟨(fun xs z => by cases z), (fun ob w z => by cases z)⟩) (fun e' he => by rw [List.mem_singleton.mp he]; exact hq) d x h, r⟩
theorem dqAll_mem {K : PySem.W.Frag} {bad : List Addr} {H : Hp} : ∀ {xs : List V} {ds : List PyData}, DqAll K bad H xs ds → ∀ x ∈ xs, ∃ d ∈ ds, Dq K bad H x d
  | _, _, .nil, x, h => nomatch h
  | _, _, .cons (d := d) h1 h2, x, h => by
    rcases List.mem_cons.mp h with e | h
    · rw [e]
      exact ⟨_, List.mem_cons_self .., h1⟩
    · obtain ⟨d', hd, z⟩ := dqAll_mem h2 x h
      exact ⟨d', List.mem_cons_of_mem _ hd, z⟩
section
variable {P : Program} {w : World} {K : PySem.W.Frag} {mg : Str → Option Value} {base : Heap}
theorem ok_texts (D : Df K mg "_law_texts" s_law_texts ["_law_pool_here"]) (T : Bl mg) (C_law_draw : Has P w K mg base 1 "_law_draw" ["_law_pool_here", "_law_limit"] spTake) (C_law_pick : Has P w K mg base 2 "_law_pick" ["_law_pool_here", "_law_some"] (spPick K)) (C_law_lives : Has P w K mg base 3 "_law_lives" ["_law_pool_here", "_law_top", "_law_upto"] spLives) (C_law_text : Has P w K mg base 1 "_law_text" ["_law_lives_here"] spText) (C_law_bent : Has P w K mg base 3 "_law_bent" ["_law_pool_here", "_law_text_here"] spBent) : Has P w K mg base 4 "_law_texts" ["_law_pool_here"] (spTexts K) := by
  refine D.has sc_law_texts (fun vs H Q E h => ?_) (fun f cdv A outer s H vs Q E gd hr h => ?_)
  · obtain ⟨a, n, rfl, _⟩ := h
    rfl
  · obtain ⟨a, n, rfl, hp, hn, k⟩ := h
    refine ⟨_, (pss_cons (ps_set (i := 1) sc_law_texts.nd rfl (Or.inl rfl) (pe_lst (pa_cons pe_str (pa_cons pe_str (pa_cons pe_str (pa_cons pe_str (pa_cons pe_str (pa_cons pe_str (pa_cons pe_str (pa_cons pe_str (pa_cons pe_str (pa_cons pe_str (pa_cons pe_str (pa_cons pe_str (pa_cons pe_str (pa_cons pe_str (pa_cons pe_str (pa_cons pe_str pa_nil))))))))))))))))))
      (pss_cons (ps_set (i := 1) sc_law_texts.nd rfl (Or.inl rfl) (pe_op op_cat (pv 1) (pe_lst (pa_cons (pe_callTy call_str_int (by rfl) T.str (by decide +kernel) (pa_cons (pe_op op_pow pe_int pe_int) pa_nil)) (pa_cons (pe_callTy call_str_int (by rfl) T.str (by decide +kernel) (pa_cons (pe_op op_add (pe_op op_pow pe_int pe_int) pe_int) pa_nil)) (pa_cons (pe_join pe_str (pe_op op_rep (pe_lst (pa_cons pe_str pa_nil)) pe_int)) (pa_cons (pe_join pe_str (pe_op op_rep (pe_lst (pa_cons pe_str pa_nil)) pe_int)) (pa_cons pe_str (pa_cons pe_str pa_nil)))))))))
      (pss_cons (ps_set (i := 1) sc_law_texts.nd rfl (Or.inl rfl) (pe_op op_cat (pv 1) (pe_lst (pa_cons pe_non (pa_cons pe_bl (pa_cons pe_int (pa_cons pe_int (pa_cons (pe_tup pa_nil) (pa_cons (pe_tup (pa_cons pe_str pa_nil)) (pa_cons (pe_lstX (pa_cons pe_str pa_nil)) (pa_cons pe_dnewX (pa_cons (pe_tup (pa_cons pe_int (pa_cons pe_int pa_nil))) (pa_cons (pe_lstX (pa_cons pe_non pa_nil)) (pa_cons (pe_tup (pa_cons (pe_tup (pa_cons pe_int (pa_cons pe_int pa_nil))) pa_nil)) pa_nil))))))))))))))
      (pss_cons (ps_for PassesOwn.never rfl (pi_range1 rfl T.range (pa_cons pe_int pa_nil)) (pg_name (i := 2) sc_law_texts.nd rfl (Or.inl rfl)) (pss_cons (ps_set (i := 3) sc_law_texts.nd rfl (Or.inl rfl) (pe_has C_law_text gd (hr.mono (by decide)) rfl (pa_cons (pe_has C_law_lives gd (hr.mono (by decide)) rfl (pa_cons (pv 0) (pa_cons (pe_has C_law_pick gd (hr.mono (by decide)) rfl (pa_cons (pv 0) (pa_cons (pe_lst (pa_cons pe_int (pa_cons pe_int (pa_cons (pe_op op_pow pe_int pe_int) pa_nil)))) pa_nil))) (pa_cons pe_int pa_nil)))) pa_nil)))
      (pss_cons (ps_set (i := 4) sc_law_texts.nd rfl (Or.inl rfl) (pe_has C_law_bent gd (hr.mono (by decide)) rfl (pa_cons (pv 0) (pa_cons (pv 3) pa_nil))))
      (pss_one (ps_expr (pe_bm PySem.F.plainAttrs_list PySem.F.slot_list_extend PySem.F.type_list_extend mt_extend (pv 1) (pa_cons (pe_lst (pa_cons (pv 3) (pa_cons (pe_ifExp (pt_cmpR op_eq (pe_has C_law_draw gd (hr.mono (by decide)) rfl (pa_cons (pv 0) (pa_cons pe_int pa_nil))) pe_int (nomark _)) (pe_has C_law_bent gd (hr.mono (by decide)) rfl (pa_cons (pv 0) (pa_cons (pv 4) pa_nil))) (pv 4)) pa_nil))) pa_nil)))))))
      (pss_one (ps_ret (pv 1))))))), ?_⟩
    have asc : ∀ z : Str, (TL.tl z).all (fun c => decide (c < 128)) = true → z.length ≤ 5000 → ∀ {bad : List Addr} {H' : Hp}, TxOk K bad H' (.str z) := fun z h1 h2 bad H' => ⟨.str z, .str z, fun x e => by
      cases e
      exact ⟨fun c hc => of_decide_eq_true (List.all_eq_true.mp h1 c hc), h2⟩, by
        have e2 := StrLaws.reprText_len z (fun c hc => by
          have q := of_decide_eq_true (List.all_eq_true.mp h1 c hc)
          exact Nat.lt_trans q (by decide))
        refine ⟨rfl, by simp [PyData.depth], ?_⟩
        show (PySem.reprText z).length ≤ 200000
        omega⟩
    obtain ⟨as0, e0⟩ : ∃ as0 : List Str, as0 = ([("" : Str), (" " : Str), ("-" : Str), ("- -" : Str), ("- 5" : Str), ("5 -" : Str), ("5 4" : Str), ("4 5 4" : Str), ("0 0 0" : Str), ("01" : Str), ("5 " : Str), (" 5" : Str), ("5  6" : Str), ("-1" : Str), ("5 - -" : Str), ("5\n" : Str)] : List Str) := ⟨_, rfl⟩
    refine ⟨by show 16 ≤ sizeLine; decide, fun q0 hq0 => ?_⟩
    refine gN_stH (σ' := [some (.ref a), some (.ref q0), none, none, none]) rfl (H' := upd H q0 (.lst (as0.map V.str))) (by rw [e0]; rfl) ?_
    have h0 : ∀ z ∈ as0, (TL.tl z).all (fun c => decide (c < 128)) = true ∧ z.length ≤ 5000 := by
      rw [e0]
      decide +kernel
    have l0 : as0.length = 16 := by rw [e0]; rfl
    clear e0
    have s0 := same_upd (o := .lst (as0.map V.str)) hq0
    have f0 := upd_same (H := H) (a := q0) (o := .lst (as0.map V.str))
    have p0 := hp.same s0
    generalize upd H q0 (.lst (as0.map V.str)) = H0 at *
    have l2a : ((10 : Int) ^ (18 : Int).toNat).natAbs.log2 < 1920 := by decide +kernel
    have l2b : ((10 : Int) ^ (18 : Int).toNat + 1).natAbs.log2 < 1920 := by decide +kernel
    refine ⟨_, rfl, _, _, rfl, rfl, ⟨by decide, by decide, by decide⟩, _, rfl, l2a, _, _, rfl, rfl, ⟨by decide, by decide, by decide⟩, _, _, rfl, rfl, _, rfl, l2b, ⟨_, rfl⟩, by show 1 ≤ sizeLine; decide, fun r1 hr1 => ?_⟩
    have t1 := same_upd (o := .lst [V.str "7"]) hr1
    have g1 := upd_same (H := H0) (a := r1) (o := .lst [V.str "7"])
    generalize upd H0 r1 (.lst [V.str "7"]) = H1 at *
    refine ⟨r1, 61, _, rfl, rfl, g1, by decide, by decide, by show 1 * 61 ≤ sizeLine; decide, fun r2 hr2 => ?_⟩
    have rr : ∀ k : Nat, (List.replicate k [V.str "7"]).flatten = (List.replicate k ("7" : Str)).map V.str := fun k => by
      induction k with
      | zero => rfl
      | succ q ih =>
        rw [List.replicate_succ, List.flatten_cons, ih, List.replicate_succ]
        rfl
    rw [show (61 : Int).toNat = 61 from rfl, rr]
    have t2 := same_upd (o := .lst ((List.replicate 61 ("7" : Str)).map V.str)) hr2
    have g2 := upd_same (H := H1) (a := r2) (o := .lst ((List.replicate 61 ("7" : Str)).map V.str))
    generalize upd H1 r2 (.lst ((List.replicate 61 ("7" : Str)).map V.str)) = H2 at *
    refine ⟨" ", r2, List.replicate 61 "7", rfl, rfl, .inl (SqL.of g2), by decide +kernel, ⟨_, rfl⟩, by show 1 ≤ sizeLine; decide, fun r3 hr3 => ?_⟩
    have t3 := same_upd (o := .lst [V.str "7"]) hr3
    have g3 := upd_same (H := H2) (a := r3) (o := .lst [V.str "7"])
    generalize upd H2 r3 (.lst [V.str "7"]) = H3 at *
    refine ⟨r3, 62, _, rfl, rfl, g3, by decide, by decide, by show 1 * 62 ≤ sizeLine; decide, fun r4 hr4 => ?_⟩
    rw [show (62 : Int).toNat = 62 from rfl, rr]
    have t4 := same_upd (o := .lst ((List.replicate 62 ("7" : Str)).map V.str)) hr4
    have g4 := upd_same (H := H3) (a := r4) (o := .lst ((List.replicate 62 ("7" : Str)).map V.str))
    generalize upd H3 r4 (.lst ((List.replicate 62 ("7" : Str)).map V.str)) = H4 at *
    refine ⟨" ", r4, List.replicate 62 "7", rfl, rfl, .inl (SqL.of g4), by decide +kernel, by show 6 ≤ sizeLine; decide, fun q1 hq1 => ?_⟩
    obtain ⟨as1, e1⟩ : ∃ as1 : List Str, as1 = ([num (10 ^ 18), num (10 ^ 18 + 1), Txt.join " " (List.replicate 61 "7"), Txt.join " " (List.replicate 62 "7"), ("0 x" : Str), ("0,2" : Str)] : List Str) := ⟨_, rfl⟩
    have h1 : ∀ z ∈ as1, (TL.tl z).all (fun c => decide (c < 128)) = true ∧ z.length ≤ 5000 := by
      rw [e1]
      decide +kernel
    have l1 : as1.length = 6 := by rw [e1]; rfl
    have s04 : Same H0 H4 := t1.trans (t2.trans (t3.trans t4))
    have f04 := s04 _ _ f0
    have u5 := same_upd (o := .lst (as1.map V.str)) hq1
    have f5 : upd H4 q1 (.lst (as1.map V.str)) q1 = some (.lst (as1.map V.str)) := upd_same
    refine ⟨q0, q1, as0.map V.str, as1.map V.str, rfl, rfl, (by have z := u5 _ _ f04; rw [e1] at z; exact z), (by rw [e1]; exact upd_same), by rw [List.length_map, List.length_map, sizeLine_eq]; omega, fun q2 hq2 => ?_⟩
    refine gN_stH (σ' := [some (.ref a), some (.ref q2), none, none, none]) rfl (H' := upd (upd H4 q1 (.lst (as1.map V.str))) q2 (.lst ((as0 ++ as1).map V.str))) (by rw [List.map_append, e1]; rfl) ?_
    have hq2' : upd H4 q1 (.lst (as1.map V.str)) q2 = none := by rw [e1]; exact hq2
    clear hq2 e1
    have p5 := (p0.same s04).same u5
    generalize upd H4 q1 (.lst (as1.map V.str)) = H5 at *
    have u6 := same_upd (o := .lst ((as0 ++ as1).map V.str)) hq2'
    have f6 := upd_same (H := H5) (a := q2) (o := .lst ((as0 ++ as1).map V.str))
    have p6 := p5.same u6
    have s06 : Same H0 _ := s04.trans (u5.trans u6)
    generalize upd H5 q2 (.lst ((as0 ++ as1).map V.str)) = H6 at *
    dsimp only
    refine ⟨_, rfl, Nat.zero_le _, fun e0 he0 => ⟨by show 1 ≤ sizeLine; decide, fun e1 he1 => ⟨by show 1 ≤ sizeLine; decide, fun e2 he2 hs2 => fun e3 he3 hs3 => ⟨by show 2 ≤ sizeLine; decide, fun e4 he4 => ⟨by show 1 ≤ sizeLine; decide, fun e5 he5 hs5 => ⟨by show 2 ≤ sizeLine; decide, fun e6 he6 => ⟨by show 1 ≤ sizeLine; decide, fun e7 he7 => ⟨by show 11 ≤ sizeLine; decide, fun q3 hq3 => ?_⟩⟩⟩⟩⟩⟩⟩⟩
    have m0 := same_upd (o := .tup []) he0
    have m1 := same_upd (o := .tup [V.str "0"]) he1
    have m2 := same_upd (o := .lst [V.str "0"]) he2
    have m3 := same_upd (o := .dK []) he3
    have m4 := same_upd (o := .tup [V.int 0, V.int 2]) he4
    have m5 := same_upd (o := .lst [V.non]) he5
    have m6 := same_upd (o := .tup [V.int 0, V.int 2]) he6
    have m7 := same_upd (o := .tup [V.ref e6]) he7
    have sA : ∀ d ∈ ([.none, .bool true, .int 0, .int 5, .tuple [], .tuple [.str "0"], .list [.str "0"], .dict [], .tuple [.int 0, .int 2], .list [.none], .tuple [.tuple [.int 0, .int 2]]] : List PyData), ShQ d 200000 30 ∧ TxD d := fun d hd => by
      simp only [List.mem_cons, List.not_mem_nil, or_false] at hd
      rcases hd with rfl | rfl | rfl | rfl | rfl | rfl | rfl | rfl | rfl | rfl | rfl <;> exact ⟨⟨by decide +kernel, by decide +kernel, by decide +kernel⟩, fun x e => by cases e⟩
    have eW : ∀ {b : Addr}, H6 b = none → b ≠ a := fun hb => (p6.ne hb).symm
    have x0 : H6 e1 = none := m0.free he1
    have x2 : H6 e2 = none := (m0.trans m1).free he2
    have x3 : H6 e3 = none := (m0.trans (m1.trans m2)).free he3
    have x5 : H6 e5 = none := (m0.trans (m1.trans (m2.trans (m3.trans m4)))).free he5
    have m27 := m3.trans (m4.trans (m5.trans (m6.trans m7)))
    have hA : ∀ q : Addr, q ≠ e2 → q ≠ e3 → q ≠ e5 → DqAll K [sysModules, a, q] (upd (upd (upd (upd (upd (upd (upd (upd H6 e0 (.tup [])) e1 (.tup [V.str "0"])) e2 (.lst [V.str "0"])) e3 (.dK [])) e4 (.tup [V.int 0, V.int 2])) e5 (.lst [V.non])) e6 (.tup [V.int 0, V.int 2])) e7 (.tup [V.ref e6])) [V.non, .bl true, .int 0, .int 5, .ref e0, .ref e1, .ref e2, .ref e3, .ref e4, .ref e5, .ref e7]
        [.none, .bool true, .int 0, .int 5, .tuple [], .tuple [.str "0"], .list [.str "0"], .dict [], .tuple [.int 0, .int 2], .list [.none], .tuple [.tuple [.int 0, .int 2]]] := fun q n2 n3 n5 => by
      have nb : ∀ b : Addr, b ≠ sysModules → H6 b = none → q ≠ b → b ∉ [sysModules, a, q] := fun b h1 h2 h3 z => by
        simp only [List.mem_cons, List.not_mem_nil, or_false] at z
        rcases z with z | z | z
        · exact h1 z
        · exact eW h2 z
        · exact h3 z.symm
      exact .cons .non (.cons (.bl _) (.cons (.int _) (.cons (.int _) (.cons (.tup (SqT.of ((m1.trans (m2.trans m27)) _ _ upd_same)) .nil) (.cons (.tup (SqT.of ((m2.trans m27) _ _ upd_same)) (.cons (.str _) .nil)) (.cons (.lst (m27 _ _ upd_same) (nb _ hs2 x2 n2) (.cons (.str _) .nil)) (.cons (.dct ((m4.trans (m5.trans (m6.trans m7))) _ _ upd_same) (nb _ hs3 x3 n3) .nil) (.cons (.tup (SqT.of ((m5.trans (m6.trans m7)) _ _ upd_same)) (.cons (.int _) (.cons (.int _) .nil))) (.cons (.lst ((m6.trans m7) _ _ upd_same) (nb _ hs5 x5 n5) (.cons .non .nil)) (.cons (.tup (SqT.of upd_same) (.cons (.tup (SqT.of (m7 _ _ upd_same)) (.cons (.int _) (.cons (.int _) .nil))) .nil)) .nil))))))))))
    have m07 := m0.trans (m1.trans (m2.trans m27))
    have g2 := m27 _ _ (upd_same (H := upd (upd H6 e0 (.tup [])) e1 (.tup [V.str "0"])) (a := e2) (o := .lst [V.str "0"]))
    have g3 := (m4.trans (m5.trans (m6.trans m7))) _ _ (upd_same (H := upd (upd (upd H6 e0 (.tup [])) e1 (.tup [V.str "0"])) e2 (.lst [V.str "0"])) (a := e3) (o := .dK []))
    have g5 := (m6.trans m7) _ _ (upd_same (H := upd (upd (upd (upd (upd H6 e0 (.tup [])) e1 (.tup [V.str "0"])) e2 (.lst [V.str "0"])) e3 (.dK [])) e4 (.tup [V.int 0, V.int 2])) (a := e5) (o := .lst [V.non]))
    clear m0 m1 m2 m3 m4 m5 m6 m7 m27
    generalize upd (upd (upd (upd (upd (upd (upd (upd H6 e0 (.tup [])) e1 (.tup [V.str "0"])) e2 (.lst [V.str "0"])) e3 (.dK [])) e4 (.tup [V.int 0, V.int 2])) e5 (.lst [V.non])) e6 (.tup [V.int 0, V.int 2])) e7 (.tup [V.ref e6]) = H7 at *
    obtain ⟨vs, evs⟩ : ∃ vs : List V, vs = [V.non, .bl true, .int 0, .int 5, .ref e0, .ref e1, .ref e2, .ref e3, .ref e4, .ref e5, .ref e7] := ⟨_, rfl⟩
    rw [← evs] at hA ⊢
    have lvs : vs.length = 11 := by rw [evs]; rfl
    clear evs
    have u8 := same_upd (o := .lst vs) hq3
    have f8 := upd_same (H := H7) (a := q3) (o := .lst vs)
    have f68 := u8 _ _ (m07 _ _ f6)
    have s08 : Same H _ := s0.trans (s06.trans (m07.trans u8))
    have g2' := u8 _ _ g2
    have g3' := u8 _ _ g3
    have g5' := u8 _ _ g5
    generalize upd H7 q3 (.lst vs) = H8 at *
    refine ⟨q2, q3, _, _, rfl, rfl, f68, f8, by rw [List.length_map, List.length_append, lvs, sizeLine_eq]; omega, fun q4 hq4 => ?_⟩
    have u9 := same_upd (o := .lst ((as0 ++ as1).map V.str ++ vs)) hq4
    have f9 := upd_same (H := H8) (a := q4) (o := .lst ((as0 ++ as1).map V.str ++ vs))
    have hX : ∀ x ∈ (as0 ++ as1).map V.str ++ vs, TxOk K [sysModules, a, q4] (upd H8 q4 (.lst ((as0 ++ as1).map V.str ++ vs))) x := fun x hx => by
      rcases List.mem_append.mp hx with hx | hx
      · obtain ⟨z, hz, rfl⟩ := List.mem_map.mp hx
        rcases List.mem_append.mp hz with hz | hz
        · exact asc z (h0 z hz).1 (h0 z hz).2
        · exact asc z (h1 z hz).1 (h1 z hz).2
      · obtain ⟨d, hd, hq⟩ := dqAll_mem (hA q4 (ne_of_none g2' hq4).symm (ne_of_none g3' hq4).symm (ne_of_none g5' hq4).symm) x hx
        exact ⟨d, (hq.same u8).same u9, (sA d hd).2, (sA d hd).1⟩
    have s09 := s08.trans u9
    have p9 := hp.same s09
    have n4a : q4 ≠ a := ((hp.same s08).ne hq4).symm
    have lX : ((as0 ++ as1).map V.str ++ vs).length = 33 := by rw [List.length_append, List.length_map, List.length_append]; omega
    generalize (as0 ++ as1).map V.str ++ vs = X0 at *
    have fq4 : H q4 = none := s08.free hq4
    generalize upd H8 q4 (.lst X0) = H9 at *
    refine gN_st (σ' := [some (.ref a), some (.ref q4), none, none, none]) rfl ?_
    dsimp only
    refine ⟨30, rfl, by decide, by decide, for_range (n := 30) (fun i σ H' => ∃ (xs : List V) (v2 v3 v4 : Option V), σ = [some (.ref a), some (.ref q4), v2, v3, v4] ∧ H' q4 = some (.lst xs) ∧ xs.length = 33 + 2 * i ∧ (∀ x ∈ xs, TxOk K [sysModules, a, q4] H' x) ∧ PotAt H' a (n + 220 * i) ∧ But a H H') ⟨X0, none, none, none, rfl, f9, by omega, hX, p9.mono (by omega), But.of s09⟩ ?_ ?_⟩
    rotate_left
    · rintro σ H10 ⟨xs, v2, v3, v4, rfl, e1, e2, e3, e4, e5⟩
      exact ⟨_, rfl, k q4 xs H10 e1 (by omega) e3 (e4.mono (by omega)) e5 n4a⟩
    rintro i σ H1 hi ⟨xs, v2, v3, v4, rfl, e1, e2, e3, e4, e5⟩
    refine gN_st (σ' := [some (.ref a), some (.ref q4), some (.int (0 + (i : Int))), v3, v4]) rfl ?_
    refine ⟨_, rfl, _, rfl, _, _, rfl, rfl, ⟨by decide, by decide, by decide⟩, by show 3 ≤ sizeLine; decide, fun N1 hN1 => ⟨a, N1, _, _, rfl, e4.same (same_upd hN1), by omega, SqL.of upd_same, (e4.ne hN1).symm, by show 0 < 3; decide, by show 3 ≤ 1000; decide, fun v1 H2 hv1 p2 b2 => ?_⟩⟩
    obtain ⟨top, rfl, t0, t1⟩ : ∃ top : Int, v1 = .int top ∧ 0 ≤ top ∧ top ≤ 10 ^ 18 := by
      have hv' : v1 ∈ ([3, 60, 10 ^ 16] : List Int).map V.int := hv1
      obtain ⟨z, hz, rfl⟩ := List.mem_map.mp hv'
      have hq' : ∀ z ∈ ([3, 60, 10 ^ 16] : List Int), 0 ≤ z ∧ z ≤ 10 ^ 18 := by decide
      exact ⟨z, rfl, hq' z hz⟩
    have b12 : But a H1 H2 := (But.of (same_upd hN1)).trans b2
    refine ⟨a, _, top, 6, rfl, p2, by omega, t0, t1, by decide, by decide, fun S ls H3 hS eS g lls p3 b3 => ?_⟩
    have gm : ls.length ≤ 6 := by omega
    have hw : Wr ls := fun x hx => by have := g.mem hx; exact ⟨this.1, Int.lt_of_le_of_lt this.2 (by decide)⟩
    refine ⟨S, ls, rfl, eS, by omega, hw, fun H4 s4 => ?_⟩
    have tA := text_ascii ls
    have tL := text_len hw
    obtain ⟨TX, eTX⟩ : ∃ TX, TX = Txt.join " " (ls.map wordO) := ⟨_, rfl⟩
    rw [← eTX] at tA tL ⊢
    have p4 := p3.same s4
    have b14 : But a H1 H4 := b12.trans (b3.trans (But.of s4))
    refine gN_st (σ' := [some (.ref a), some (.ref q4), some (.int (0 + (i : Int))), some (.str TX), v4]) rfl ?_
    refine ⟨_, rfl, _, rfl, a, _, 200, TX, rfl, p4, by omega, tA, by omega, by decide, fun y H5 yA yL p5 b5 => ?_⟩
    refine gN_st (σ' := [some (.ref a), some (.ref q4), some (.int (0 + (i : Int))), some (.str TX), some (.str y)]) rfl ?_
    have b15 : But a H1 H5 := b14.trans b5
    have e15 := b15 _ _ e1 n4a
    have inS : ∀ z : Str, Ascii z → z.length ≤ 5000 → ∀ {H' : Hp}, TxOk K [sysModules, a, q4] H' (.str z) := fun z h1 h2 H' => asc z (List.all_eq_true.mpr fun c hc => decide_eq_true (h1 c hc)) h2
    have fin : ∀ (z : Str) (H6 : Hp) (q5 : Addr), Ascii z → z.length ≤ 5000 → PotAt H6 a (n + 220 * (i + 1)) → But a H5 H6 → H6 q5 = none → ∃ (xs' : List V) (w2 w3 w4 : Option V), [some (V.ref a), some (V.ref q4), some (V.int (0 + (i : Int))), some (V.str TX), some (V.str y)] = [some (.ref a), some (.ref q4), w2, w3, w4] ∧ upd (upd H6 q5 (.lst [V.str TX, V.str z])) q4 (.lst (xs ++ [V.str TX, V.str z])) q4 = some (.lst xs') ∧ xs'.length = 33 + 2 * (i + 1) ∧ (∀ x ∈ xs', TxOk K [sysModules, a, q4] (upd (upd H6 q5 (.lst [V.str TX, V.str z])) q4 (.lst (xs ++ [V.str TX, V.str z]))) x) ∧ PotAt (upd (upd H6 q5 (.lst [V.str TX, V.str z])) q4 (.lst (xs ++ [V.str TX, V.str z]))) a (n + 220 * (i + 1)) ∧ But a H (upd (upd H6 q5 (.lst [V.str TX, V.str z])) q4 (.lst (xs ++ [V.str TX, V.str z]))) := fun z H6 q5 zA zL p6 b6 hq5 => by
      have s7 := same_upd (o := .lst [V.str TX, V.str z]) hq5
      have e16 := s7 _ _ (b6 _ _ e15 n4a)
      refine ⟨xs ++ [V.str TX, V.str z], _, _, _, rfl, upd_same, by rw [List.length_append]; show xs.length + 2 = _; omega, fun x hx => ?_, ((p6.same s7).upd n4a.symm), fun c o e ne => ?_⟩
      · rcases List.mem_append.mp hx with hx | hx
        · exact ((((e3 x hx).but e4 (by simp) (b15.trans b6))).same s7).lst e16 (by simp)
        · simp only [List.mem_cons, List.not_mem_nil, or_false] at hx
          rcases hx with rfl | rfl
          · exact inS TX tA (by omega)
          · exact inS z zA zL
      · rw [upd_ne (fun w => by rw [w, fq4] at e; cases e)]
        exact s7 _ _ (b6 _ _ (b15 _ _ (e5 _ _ e ne) ne) ne)
    refine ⟨_, rfl, .inl ⟨rfl, _, SqL.of e15⟩, _, rfl, _, rfl, a, _, 3, rfl, p5, by omega, by decide, by decide, fun u H6 u0 u1 p6 b6 => ⟨rfl, _, rfl, ?_⟩⟩
    have e16 := b6 _ _ e15 n4a
    refine ite2 (fun _ => ?_) (fun _ => ?_)
    · refine ⟨_, rfl, _, rfl, a, _, 900, y, rfl, p6, by omega, yA, by omega, by decide, fun z H7 zA zL p7 b7 => ?_⟩
      refine ⟨by show 2 ≤ sizeLine; decide, fun q5 hq5 => ?_⟩
      have e17 := same_upd (o := .lst [V.str TX, V.str z]) hq5 _ _ (b7 _ _ e16 n4a)
      exact ⟨q4, q5, _, _, rfl, rfl, e17, upd_same, by rw [sizeLine_eq]; show xs.length + 2 ≤ _; omega, fin z H7 q5 zA (by omega) (p7.mono (by omega)) (b6.trans b7) hq5⟩
    · refine ⟨_, rfl, by show 2 ≤ sizeLine; decide, fun q5 hq5 => ?_⟩
      have e17 := same_upd (o := .lst [V.str TX, V.str y]) hq5 _ _ e16
      exact ⟨q4, q5, _, _, rfl, rfl, e17, upd_same, by rw [sizeLine_eq]; show xs.length + 2 ≤ _; omega, fin y H6 q5 yA (by omega) (p6.mono (by omega)) b6 hq5⟩
end
/-! SPLIT -/
abbrev s_Rule___eq__ : Stmt := (inClass (top 21) 6)
abbrev N_Rule___eq__ : List Str := ["self", "other"]
theorem sc_Rule___eq__ : FnScope N_Rule___eq__ ["self", "other"] (defScope s_Rule___eq__) :=
  ⟨rfl, rfl, rfl, by decide +kernel, rfl, by decide +kernel, by decide +kernel⟩
/-- what isinstance asks of an instance of Rule -/
structure EqT (K : PySem.W.Frag) (C : Addr) : Prop where
  haC : PySem.W.findIn K (.ref C) "__class__" = some (some (.builtin "object.__class__"))
  hnO : PySem.W.specialIn K (.builtin "object.__class__") "__get__" = some (some (.builtin "getset_descriptor.__get__"))
  htk : PySem.W.takesIn K (.builtin "object.__class__") = some true
  hmC : PySem.W.mroIn K C (.type "object") = some true
/-- a rule beside a rule, or beside a value of any kind -/
def spEqA (K : PySem.W.Frag) (C : Addr) : Sp := fun vs H Q _ => ∃ (a : Addr) (v : V) (ls : List (Option Int)), vs = [.ref a, v] ∧ RuleAt C H a ls ∧
  ((∃ (b : Addr) (ms : List (Option Int)), v = .ref b ∧ RuleAt C H b ms ∧ Q (.bl (decide (ls = ms))) H) ∨ ∃ (ex : List Addr) (d : PyData), Dq K ex H v d ∧ Q (.bl false) H)
section
variable {P : Program} {w : World} {K : PySem.W.Frag} {mg : Str → Option Value} {base : Heap} {C CR : Addr} {mc : Value} {fInit pAre fAre : Addr} {fdAre : FuncData}
theorem ok_eqA {fEq : Addr} {fdEq : FuncData} (F : Fun K "__eq__" "Rule.__eq__" s_Rule___eq__ fEq fdEq) (T : Bl mg) (R : RuleT K mg C CR mc fInit pAre fAre fdAre) (R2 : EqT K C) (nC : ∀ d : PyData, PySem.W.kitOne K (tyD d) (.ref C) = some false) : FnOk P w K mg base CX0 1 fEq fdEq ["self", "other"] (spEqA K C) := by
  refine F.ok sc_Rule___eq__ (fun vs H Q E h => ?_) (fun cdv A outer s H vs Q E hr h => ?_)
  · obtain ⟨a, v, ls, rfl, _⟩ := h
    rfl
  · obtain ⟨a, v, ls, rfl, ⟨dx1, t1, h1, h2⟩, hv⟩ := h
    refine ⟨_, (pss_one (ps_ret (pe_and (pe_callB call_isi (by rfl) T.isinstance (by decide +kernel) (pa_cons (pv 1) (pa_cons (pe_glob (v := .ref C) rfl R.m_Rule rfl) pa_nil))) (pe_one (pe_cmpR (op_eqD hr.units) (pe_fld (pv 0) rfl) (pe_fld (pv 1) rfl) (nomark _)))))), ?_⟩
    rcases hv with ⟨b, ms, rfl, ⟨dx2, t2, h3, h4⟩, k⟩ | ⟨ex, d, hd, k⟩
    · refine ⟨_, rfl, _, _, _, _, true, rfl, .own C, .base (.ins h3 R.cl R2.haC R2.hnO R2.htk R2.hmC), if_pos (beq_self_eq_true _), true, rfl, ?_⟩
      refine iteT ?_
      refine ⟨_, rfl, a, C, dx1, _, _, rfl, h1, R.cl, R.nL, lives_of _, _, rfl, b, C, dx2, _, _, rfl, h3, R.cl, R.nL, lives_of _, dLs ls, dLs ms, dp_lives (SqT.of h2), dp_lives (SqT.of h4), shaped_lives ls, shaped_lives ms, ?_⟩
      rw [eqv_lives]
      exact k
    · exact ⟨_, rfl, _, _, _, _, false, rfl, .own C, hd.ty, nC d, false, rfl, iteF k⟩
end
abbrev s_Rule_lives : Stmt := (inClass (top 21) 4)
abbrev N_Rule_lives : List Str := ["self"]
theorem sc_Rule_lives : FnScope N_Rule_lives ["self"] (defScope s_Rule_lives) :=
  ⟨rfl, rfl, rfl, by decide +kernel, rfl, by decide +kernel, by decide +kernel⟩
def spLivesP (C : Addr) : Sp := fun vs H Q _ => ∃ (a : Addr) (ls : List (Option Int)), vs = [.ref a] ∧ RuleAt C H a ls ∧ ∀ t, H t = some (.tup (ls.map lv)) → Q (.ref t) H
section
variable {P : Program} {w : World} {K : PySem.W.Frag} {mg : Str → Option Value} {base : Heap} {C CR : Addr} {mc : Value} {fInit pAre fAre : Addr} {fdAre : FuncData}
theorem ok_livesP {fLv : Addr} {fdLv : FuncData} (F : Fun K "lives" "Rule.lives" s_Rule_lives fLv fdLv) (R : RuleT K mg C CR mc fInit pAre fAre fdAre) : FnOk P w K mg base CX0 1 fLv fdLv ["self"] (spLivesP C) := by
  refine F.ok sc_Rule_lives (fun vs H Q E h => ?_) (fun cdv A outer s H vs Q E hr h => ?_)
  · obtain ⟨a, ls, rfl, _⟩ := h
    rfl
  · obtain ⟨a, ls, rfl, ⟨dx1, t1, h1, h2⟩, k⟩ := h
    refine ⟨_, (pss_one (ps_ret (pe_fld (pv 0) rfl))), ?_⟩
    exact ⟨_, rfl, a, C, dx1, _, _, rfl, h1, R.cl, R.nL, lives_of _, k _ h2⟩
end
abbrev s_law_short : Stmt := (top 34)
abbrev N_law_short : List Str := ["_law_lives_here"]
theorem sc_law_short : FnScope N_law_short ["_law_lives_here"] (defScope s_law_short) :=
  ⟨rfl, rfl, rfl, by decide +kernel, rfl, by decide +kernel, by decide +kernel⟩
def spShort (K : PySem.W.Frag) : Sp := fun vs H Q _ => ∃ (a : Addr) (ls : List (Option Int)), vs = [.ref a] ∧ H a = some (.tup (ls.map lv)) ∧ 0 < ls.length ∧ ls.length ≤ 1000 ∧ ∀ r H', Same H H' → H' r = some (.tup ((short ls).map lv)) → Q (.ref r) H'
section
variable {P : Program} {w : World} {K : PySem.W.Frag} {mg : Str → Option Value} {base : Heap}
theorem ok_short (D : Df K mg "_law_short" s_law_short ["_law_lives_here"]) (T : Bl mg) : Has P w K mg base 1 "_law_short" ["_law_lives_here"] (spShort K) := by
  refine D.has sc_law_short (fun vs H Q E h => ?_) (fun f cdv A outer s H vs Q E gd hr h => ?_)
  · obtain ⟨a, ls, rfl, _⟩ := h
    rfl
  · obtain ⟨a, ls, rfl, hS, h0, h1, k⟩ := h
    refine ⟨_, (pss_cons (ps_while PassesOwn.never (PW.pt (pw_and (pt_cmpR op_gt (pe_callB call_len_seq (by rfl) T.len PySem.boot_len (pa_cons (pv 0) pa_nil)) pe_int (nomark _)) (pw_and1 (pt_cmpR op_eq (pe_ix ix_tup (pv 0) (pe_un un_neg pe_int) (fun _ _ => rfl)) (pe_ix ix_tup (pv 0) (pe_un un_neg pe_int) (fun _ _ => rfl)) (nomark _))))) (pss_one (ps_set (i := 0) sc_law_short.nd rfl (Or.inl rfl) (pe_slice sl_tupH (pv 0) po_none (po_some (pe_un un_neg pe_int))))))
      (pss_one (ps_ret (pv 0)))), ?_⟩
    refine ⟨fun m σ H' => Same H H' ∧ ∃ (n : Nat) (F : Addr), σ = [some (.ref F)] ∧ 0 < n ∧ n ≤ ls.length ∧ n = m ∧ cutN ls n = cutN ls ls.length ∧ H' F = some (.tup ((ls.take n).map lv)), ⟨_, Same.refl _, ls.length, a, rfl, h0, Nat.le_refl _, rfl, rfl, by rw [List.take_length]; exact hS⟩, ?_⟩
    rintro m σ H' ⟨sm, n, F, rfl, n0, n1, rfl, hc, eF⟩
    have hln : ((ls.take n).map lv).length = n := by rw [List.length_map, List.length_take]; omega
    have fin : cutN ls n = n → Q (.ref F) H' := by
      intro e
      refine k F H' sm ?_
      rw [eF]
      unfold short
      rw [← hc, e]
    refine ⟨_, rfl, F, _, rfl, .inr (SqT.of eF), _, _, rfl, rfl, _, rfl, ?_⟩
    refine ite2 (fun hn => ?_) (fun hn => ?_)
    · have hn' : 1 < n := by
        have := of_decide_eq_true hn
        omega
      obtain ⟨j, rfl⟩ : ∃ j, n = j + 2 := ⟨n - 2, by omega⟩
      have l1 : j + 1 < ls.length := by omega
      have l0 : j < ls.length := by omega
      have a1 : ((ls.take (j + 2)).map lv)[j + 1]? = some (lv ls[j + 1]) := by rw [List.getElem?_map, List.getElem?_take_of_lt (by omega), List.getElem?_eq_getElem l1]; rfl
      have a0 : ((ls.take (j + 2)).map lv)[j]? = some (lv ls[j]) := by rw [List.getElem?_map, List.getElem?_take_of_lt (by omega), List.getElem?_eq_getElem l0]; rfl
      refine ⟨_, rfl, _, rfl, F, _, _, _, rfl, rfl, SqT.of eF, (atI_neg (k := 1) (by decide) (by omega)).trans (by rw [hln]; exact a1), ?_⟩
      refine ⟨_, rfl, _, rfl, F, _, _, _, rfl, rfl, SqT.of eF, (atI_neg (k := 2) (by decide) (by omega)).trans (by rw [hln]; exact a0), ?_⟩
      refine ⟨by cases ls[j + 1] <;> cases ls[j] <;> rfl, _, rfl, ?_⟩
      refine ite2 (fun he => ?_) (fun he => ?_)
      · have he' : ls[j + 1]? = ls[j]? := by
          rw [List.getElem?_eq_getElem l1, List.getElem?_eq_getElem l0, lv_inj (of_decide_eq_true he)]
        refine ⟨fun σ' H'' => Same H H'' ∧ ∃ F2, σ' = [some (.ref F2)] ∧ H'' F2 = some (.tup ((ls.take (j + 1)).map lv)), ?_, ?_⟩
        · rintro σ' H'' ⟨s2, F2, rfl, e2⟩
          exact ⟨j + 1, by omega, s2, j + 1, F2, rfl, by omega, by omega, rfl, by rw [← hc, cutN_eq he'], e2⟩
        · refine ⟨_, rfl, _, rfl, _, rfl, F, _, rfl, eF, fun u H3 s3 e3 => ⟨sm.trans s3, u, rfl, ?_⟩⟩
          have ei : (ls.take (j + 2)).map lv = (ls.take (j + 1)).map lv ++ [lv ls[j + 1]] := by
            rw [← List.take_append_getElem l1, List.map_append]
            rfl
          rw [ei, cut_init] at e3
          exact e3
      · have he' : ¬ ls[j + 1]? = ls[j]? := by
          rw [List.getElem?_eq_getElem l1, List.getElem?_eq_getElem l0]
          intro z
          exact he (decide_eq_true (by rw [Option.some.inj z]))
        exact ⟨_, rfl, fin (cutN_ne he')⟩
    · have hn' : n = 1 := by
        have : ¬ (1 : Int) < (((ls.take n).map lv).length : Int) := fun z => hn (decide_eq_true z)
        omega
      subst hn'
      refine ite2 (fun z => absurd z (by decide)) (fun _ => ?_)
      exact ⟨_, rfl, fin rfl⟩
end
abbrev s_law : Stmt := (top 41)
abbrev N_law : List Str := ["_law_script", "_law_k"]
theorem sc_law : FnScope N_law ["_law_script"] (defScope s_law) :=
  ⟨rfl, rfl, rfl, by decide +kernel, rfl, by decide +kernel, by decide +kernel⟩
def spLaw (K : PySem.W.Frag) : Sp := fun vs H Q _ => ∃ (a : Addr) (ns : List Int), vs = [.ref a] ∧ SqL K H a (ns.map V.int) ∧ ns.length ≤ 63 ∧ ∀ H', Q (.bl true) H'
def spRight : Sp := fun vs H Q _ => ∃ (a : Addr), vs = [.ref a] ∧ PotAt H a 0 ∧ ∀ H', But a H H' → Q (.bl true) H'
section
variable {P : Program} {w : World} {K : PySem.W.Frag} {mg : Str → Option Value} {base : Heap}
theorem ok_law {kr : Nat} (hk : 1 ≤ kr) (D : Df K mg "law" s_law ["_law_script"]) (T : Bl mg) (C_law_pool : Has P w K mg base 1 "_law_pool" ["_law_script", "_law_k"] (spPot K)) (C_law_right : Has P w K mg base kr "_law_right" ["_law_pool_here"] spRight) : Has P w K mg base (kr + 1) "law" ["_law_script"] (spLaw K) := by
  refine D.has sc_law (fun vs H Q E h => ?_) (fun f cdv A outer s H vs Q E gd hr0 h => ?_)
  · obtain ⟨a, ns, rfl, _⟩ := h
    rfl
  · obtain ⟨a, ns, rfl, hS, hl, k⟩ := h
    refine ⟨_, (pss_one (ps_ret (pe_callB (cr_all rfl) (by rfl) T.all (by decide +kernel) (pa_cons (pe_lc (own := [("_law_k", 1)]) (g := gName 1) (tt := tYes) rfl sc_law.nd (pi_range1 rfl T.range (pa_cons (pe_callB (call_max2 rfl) (by rfl) T.max (by decide +kernel) (pa_cons pe_int (pa_cons (pe_callB (call_min2 rfl) (by rfl) T.min (by decide +kernel) (pa_cons pe_int (pa_cons (pe_callB call_len_seq (by rfl) T.len PySem.boot_len (pa_cons (pv 0) pa_nil)) pa_nil))) pa_nil))) pa_nil)) (blkOk_by (N := N_law) (sc := defScope s_law) (by decide +kernel)) (fun _ _ _ _ _ => pg_name (i := 1) sc_law.nd rfl (Or.inl rfl)) (fun _ _ _ _ _ => pts_nil) (fun _ _ _ _ _ => (pe_has C_law_right gd hr0 rfl (pa_cons (pe_has C_law_pool gd (hr0.mono hk) rfl (pa_cons (pv 0) (pa_cons (pv 1) pa_nil))) pa_nil)))) pa_nil)))), ?_⟩
    obtain ⟨n, en, hn⟩ := three_of (ns.map V.int).length
    refine ⟨_, rfl, _, _, rfl, .inl hS, _, _, rfl, _, _, rfl, (n : Int), congrArg (fun z => [V.int z]) en, by omega, by omega, fun D2 hD2 => lc_range (lo := 0) (n := (n : Int).toNat) (fun i H2 => H2 D2 = some (.lst (List.replicate i (.bl true))) ∧ Same H H2) ⟨upd_same, same_upd hD2⟩ ?_ ?_⟩
    · rintro i H2 hi ⟨e2, sm2⟩
      refine ⟨rfl, _, rfl, _, rfl, a, ns, i, by rw [Int.zero_add]; rfl, sm2.seq hS, hl, by omega, fun p H3 np s3 p3 => ?_⟩
      refine ⟨p, rfl, p3, fun H4 b4 => ?_⟩
      have nD : D2 ≠ p := ne_of_none e2 np
      have e4 : H4 D2 = some (.lst (List.replicate i (.bl true))) := b4 _ _ (s3 _ _ e2) nD
      refine ⟨_, e4, ?_, ?_, ?_⟩
      · rw [List.length_replicate]
        exact Nat.lt_of_lt_of_le (show i < 4 by omega) (by decide)
      · rw [upd_same, List.replicate_succ']
      · intro b o z
        have z2 := sm2 b o z
        have nb : b ≠ D2 := ne_of_none z hD2
        rw [upd_ne nb]
        exact b4 b o (s3 b o z2) (ne_of_none z2 np)
    · rintro H2 ⟨e2, sm2⟩
      refine ⟨D2, List.replicate (n : Int).toNat true, rfl, SqL.of (by rw [e2, List.map_replicate]), ?_⟩
      have ea : (List.replicate (n : Int).toNat true).all _root_.id = true := by simp
      rw [ea]
      exact k _
end
/-! SPLIT -/
abbrev s_law_right : Stmt := (top 40)
abbrev N_law_right : List Str := ["_law_pool_here", "_law_text_here", "_law_due", "_law_found", "_law_caught", "error"]
theorem sc_law_right : FnScope N_law_right ["_law_pool_here"] (defScope s_law_right) :=
  ⟨rfl, rfl, rfl, by decide +kernel, rfl, by decide +kernel, by decide +kernel⟩
structure MTlv (K : PySem.W.Frag) (C pLv fLv : Addr) : Prop where
  lv : PropOf K C "lives" pLv fLv
theorem ne_v (v : V) : (!decide (v = v)) = false := by simp
section
variable {P : Program} {w : World} {K : PySem.W.Frag} {mg : Str → Option Value} {base : Heap} {C CR CB CK CI CL fB : Addr} {mc mcK : Value} {fInit pAre fAre pLv fLv : Addr} {fdAre fdLv : FuncData}
theorem ok_right (D : Df K mg "_law_right" s_law_right ["_law_pool_here"]) (T : Bl mg) (R : RuleT K mg C CR mc fInit pAre fAre fdAre) (R2 : EqT K C) (M : MTlv K C pLv fLv) (F_lives : FnOk P w K mg base CX0 1 fLv fdLv ["self"] (spLivesP C)) (b_lives : Binds K fdLv ["self"] [])
    (TK : KeepT K mg CK mcK) (B : BadT K CB fB) (mB : mg "BadText" = some (.ref CB)) (mI : mg "BadLine" = some (.ref CI)) (mL : mg "BadLives" = some (.ref CL)) (hEx : PySem.W.exmOne K (.ref CB) (.ref CK) = some true) (kB : PySem.W.kitOne K (.ref CB) (.ref CB) = some true) (kI : PySem.W.kitOne K (.ref CB) (.ref CI) = some false) (kL : PySem.W.kitOne K (.ref CB) (.ref CL) = some false)
    (C_law_texts : Has P w K mg base 4 "_law_texts" ["_law_pool_here"] (spTexts K)) (C_law_read : Has P w K mg base 2 "_law_read" ["_law_text_here"] (spLRead K)) (C_law_short : Has P w K mg base 1 "_law_short" ["_law_lives_here"] (spShort K)) (C_read_rule : HasX P w K mg base 6 "read_rule" ["text"] (spReadX K C CB)) : Has P w K mg base 9 "_law_right" ["_law_pool_here"] spRight := by
  refine D.has sc_law_right (fun vs H Q E h => ?_) (fun f cdv A outer s H vs Q E gd hr h => ?_)
  · obtain ⟨a, rfl, _⟩ := h
    rfl
  · obtain ⟨a, rfl, hp, k⟩ := h
    refine ⟨_, (pss_cons (ps_for PassesOwn.never rfl (pi_list (pe_has C_law_texts gd (hr.mono (by decide)) rfl (pa_cons (pv 0) pa_nil))) (pg_name (i := 1) sc_law_right.nd rfl (Or.inl rfl)) (pss_cons (ps_par3 (i := 2) (j := 3) (l := 4) rfl sc_law_right.nd rfl rfl rfl (by decide) (by decide) (by decide) rfl rfl rfl (pa_cons (pe_has C_law_read gd (hr.mono (by decide)) rfl (pa_cons (pv 1) pa_nil)) (pa_cons pe_non (pa_cons pe_non pa_nil))) (by rfl))
      (pss_cons (ps_try_keep (i := 5) (tb := fun W => tAsg (tCallS (spReadX K C CB) (WE W) (tCons (tVar 1) tNil)) (gName 3)) (ts := tAsg (tVar 5) (gName 4)) (Wout := fun _ _ _ _ => False) rfl rfl sc_law_right.nd rfl rfl ⟨rfl, by decide, Or.inl TK.m⟩ takes0 (fun W pn xe tk _ => pss_one (ps_set (i := 3) sc_law_right.nd rfl (Or.inl rfl) (pe_hasX C_read_rule (hr.mono (by decide)) rfl tk (pa_cons (pv 1) pa_nil)))) (fun a pn => pss_one (ps_set (i := 4) sc_law_right.nd rfl (Or.inl rfl) (pv 5))))
      (pss_one (ps_if (pt_cmpR op_notN (pv 2) pe_non (nomark _)) (pss_one (ps_if (PW.pt (pw_or (pt_cmpR op_notN (pv 4) pe_non (nomark _)) (pw_or (pt_not (pt_val (pe_callB call_isi (by rfl) T.isinstance (by decide +kernel) (pa_cons (pv 3) (pa_cons (pe_glob (v := .ref C) rfl R.m_Rule rfl) pa_nil))))) (pw_or1 (pt_cmpR op_ne (pe_callB (call_reprD gd hr.units) (by rfl) T.repr (by decide +kernel) (pa_cons (pe_prop (pv 3) R.cl M.lv F_lives (hr.mono (by decide)) b_lives .nil pass0 rfl) pa_nil)) (pe_callB (call_reprD gd hr.units) (by rfl) T.repr (by decide +kernel) (pa_cons (pe_has C_law_short gd (hr.mono (by decide)) rfl (pa_cons (pv 2) pa_nil)) pa_nil)) (nomark _)))))) (pss_one (ps_ret pe_bl)) pss_nil)) (pss_one (ps_if (PW.pt (pw_or (pt_not (pt_val (pe_callB call_isK (by rfl) T.isinstance (by decide +kernel) (pa_cons (pv 4) (pa_cons (pe_glob (v := .ref CB) rfl mB rfl) pa_nil))))) (pw_or1 (pt_val (pe_callB call_isKT (by rfl) T.isinstance (by decide +kernel) (pa_cons (pv 4) (pa_cons (pe_tup (pa_cons (pe_glob (v := .ref CI) rfl mI rfl) (pa_cons (pe_glob (v := .ref CL) rfl mL rfl) pa_nil))) pa_nil))))))) (pss_one (ps_ret pe_bl)) (pss_one (ps_if (pt_cmpR op_ne (pe_callB (call_reprQ gd hr.units) (by rfl) T.repr (by decide +kernel) (pa_cons (pe_xk (pv 4)) pa_nil)) (pe_callB (call_reprQ gd hr.units) (by rfl) T.repr (by decide +kernel) (pa_cons (pv 1) pa_nil)) (nomark _)) (pss_one (ps_ret pe_bl)) pss_nil)))))))))
      (pss_one (ps_ret pe_bl))), ?_⟩
    refine ⟨_, rfl, a, 0, rfl, hp, by decide, fun L xs H1 eL lx hX p1 b1 nLa => ?_⟩
    refine ⟨L, rfl, ⟨_, SqL.of eL⟩, for_list (xs := xs) (fun i σ H' => ∃ v1 v2 v3 v4 v5, σ = [some (.ref a), v1, v2, v3, v4, v5] ∧ Same H1 H') ⟨none, none, none, none, none, rfl, Same.refl _⟩ (fun i σ H' _ z => ?_) ?_ ?_⟩
    · obtain ⟨_, _, _, _, _, _, z⟩ := z
      exact SqL.of (z _ _ eL)
    rotate_left
    · rintro σ H2 ⟨v1, v2, v3, v4, v5, rfl, s2⟩
      exact k _ (b1.trans (But.of s2))
    rintro i x σ H2 hx ⟨v1, v2, v3, v4, v5, rfl, s2⟩
    obtain ⟨d, hd, ht, hq⟩ := hX x (List.mem_of_getElem? hx)
    have hd2 := hd.same s2
    refine gN_st (σ' := [some (.ref a), some x, v2, v3, v4, v5]) rfl ?_
    dsimp only
    refine ⟨_, rfl, _, x, d, rfl, hd2, ht, fun hA T H3 s3 eT => ?_, fun hA H3 s3 => ?_⟩
    · refine ⟨_, _, _, rfl, ?_⟩
      refine to_st (σ' := [some (.ref a), some x, some (.ref T), some .non, some .non, v5]) rfl ?_
      dsimp only
      have gd2 : Good (readD d) := are_goodL hA
      refine ⟨_, rfl, _, x, d, rfl, hd2.same s3, ht, fun _ _ r H4 s4 ra => ?_, fun hN => absurd (hA.symm.trans hN) (by decide)⟩
      refine gN_st (σ' := [some (.ref a), some x, some (.ref T), some (.ref r), some .non, v5]) rfl ?_
      dsimp only
      refine ⟨_, rfl, rfl, _, rfl, ite2 (fun _ => ?_) (fun z => absurd rfl z)⟩
      refine ⟨_, rfl, rfl, _, rfl, ite2 (fun z => absurd z (by decide)) (fun _ => ?_)⟩
      obtain ⟨dxr, tr, r1, r2⟩ := id ra
      refine ⟨_, rfl, _, _, _, _, true, rfl, .own C, .base (.ins r1 R.cl R2.haC R2.hnO R2.htk R2.hmC), if_pos (beq_self_eq_true _), true, rfl, ite2 (fun z => absurd z (by decide)) (fun _ => ?_)⟩
      have shl : Sh (dLs (short (readD d))) 71000 1 := sh_lives (fun x hx i e => small600 (by have := gd2.bd x (short_sub hx) i e; omega) (by have := gd2.bd x (short_sub hx) i e; omega)) (by have := short_len_le (readD d); have := gd2.most; omega)
      obtain ⟨w1, w2, w3, w4⟩ := shl.ok (by decide) (by decide)
      refine ⟨_, rfl, r, dxr, _, rfl, r1, r, _, rfl, ra, fun t ht => ?_⟩
      refine ⟨_, _, rfl, dp_lives (SqT.of ht), w1, w2, w3, w4, ?_⟩
      refine ⟨_, rfl, T, readD d, rfl, s4 _ _ eT, gd2.pos, by have := gd2.most; omega, fun S2 H5 s5 eS2 => ?_⟩
      refine ⟨_, _, rfl, dp_lives (SqT.of eS2), w1, w2, w3, w4, ?_⟩
      refine ⟨rfl, _, rfl, ?_⟩
      rw [ne_v]
      refine ite2 (fun z => absurd z (by decide)) (fun _ => ?_)
      exact ⟨_, _, _, _, _, rfl, s2.trans (s3.trans (s4.trans s5))⟩
    · refine ⟨_, _, _, rfl, ?_⟩
      refine to_st (σ' := [some (.ref a), some x, some .non, some .non, some .non, v5]) rfl ?_
      dsimp only
      refine ⟨_, rfl, _, x, d, rfl, hd2.same s3, ht, fun _ hN => absurd (hN.symm.trans hA) (by decide), fun _ H4 s4 dd hdd => ?_⟩
      refine ⟨true, hEx, fun _ e he => ?_, fun z => Bool.noConfusion z⟩
      have sd := same_upd (o := .xd [("value", x)]) hdd
      have se := same_upd (o := ExK (.ref CB) (some dd) e) he
      have ed : upd (upd H4 dd (.xd [("value", x)])) e (ExK (.ref CB) (some dd) e) dd = some (.xd [("value", x)]) := se _ _ upd_same
      have ee : upd (upd H4 dd (.xd [("value", x)])) e (ExK (.ref CB) (some dd) e) e = some (ExK (.ref CB) (some dd) e) := upd_same
      have s25 := s3.trans (s4.trans (sd.trans se))
      generalize upd (upd H4 dd (.xd [("value", x)])) e (ExK (.ref CB) (some dd) e) = H5 at *
      refine ⟨_, rfl, ?_⟩
      refine gN_st (σ' := [some (.ref a), some x, some .non, some .non, some (.ref e), some (.ref e)]) rfl ?_
      dsimp only [List.set]
      refine ⟨_, rfl, rfl, _, rfl, ite2 (fun z => absurd z (by decide)) (fun _ => ?_)⟩
      refine ⟨_, rfl, e, CB, dd, _, .ref CB, .ref CB, true, rfl, ee, ed, B.exc, fun u r => r, kB, true, rfl, ite2 (fun z => absurd z (by decide)) (fun _ => ?_)⟩
      refine ⟨_, rfl, by show 2 ≤ sizeLine; decide, fun tp htp => ?_⟩
      have sp := same_upd (o := .tup [V.ref CI, V.ref CL]) htp
      have et := upd_same (H := H5) (a := tp) (o := .tup [V.ref CI, V.ref CL])
      have ee := sp _ _ ee
      have ed := sp _ _ ed
      have s26 := s25.trans sp
      generalize upd H5 tp (.tup [V.ref CI, V.ref CL]) = H6 at *
      refine ⟨e, CB, dd, tp, _, _, [.ref CI, .ref CL], false, rfl, ee, ed, B.exc, et, .cons (.own CI) (.cons (.own CL) .nil), kitAny_cons kI (fun _ => kitAny_cons kL (fun _ => kitAny_nil) (fun z => Bool.noConfusion z)) (fun z => Bool.noConfusion z), ?_⟩
      refine ⟨_, rfl, ite2 (fun z => absurd z (by decide)) (fun _ => ?_)⟩
      have hd6 := hd2.same s26
      refine ⟨_, rfl, e, CB, dd, _, x, rfl, ee, B.xf, B.nv, ed, rfl, ?_⟩
      refine ⟨x, d, _, rfl, hd6, by simp, hq.s, Nat.le_trans hq.p (by decide), Nat.le_trans hq.l (by rw [sizeLine_eq]; decide), ?_⟩
      refine ⟨_, rfl, x, d, _, rfl, hd6, by simp, hq.s, Nat.le_trans hq.p (by decide), Nat.le_trans hq.l (by rw [sizeLine_eq]; decide), ?_⟩
      refine ⟨rfl, _, rfl, ?_⟩
      rw [ne_v]
      refine ite2 (fun z => absurd z (by decide)) (fun _ => ?_)
      exact ⟨_, _, _, _, _, rfl, s2.trans s26⟩
end
/-! SPLIT -/
theorem all_mk {l : PySem.W.OpenLaw} {w : World} {K : PySem.W.Frag} {mg : Str → Option Value} {base : Heap} {C CR CK CB CI CL : Addr} {mc mcK : Value} {fInit pAre fAre pOf fOf pLv fLv fEq fB : Addr} {fdInit fdAre fdOf fdLv fdEq fdB : FuncData} (T : Bl mg) (R : RuleT K mg C CR mc fInit pAre fAre fdAre)
    (FI : Fun K "__init__" "Rule.__init__" s_Rule___init__ fInit fdInit) (FA : Fun K "are_lives" "Rule.are_lives" s_Rule_are_lives fAre fdAre) (FO : Fun K "of" "Rule.of" s_Rule_of fOf fdOf) (MOf : ClX.CMet K C mc "of" pOf fOf)
    (PLv : PropOf K C "lives" pLv fLv) (FLv : Fun K "lives" "Rule.lives" s_Rule_lives fLv fdLv)
    (hMF : ∃ t, mg "MOST_FIGURES" = some (.int 19 t)) (hGR : ∃ t, mg "GREATEST_READ" = some (.int 1000000000000000000 t)) (hNo : ∃ t, mg "NO_NUMBER" = some (.int (-1) t))
    (FEq : Fun K "__eq__" "Rule.__eq__" s_Rule___eq__ fEq fdEq) (MEq : OwnNe K C fEq) (R2 : EqT K C) (nC : ∀ d : PyData, PySem.W.kitOne K (tyD d) (.ref C) = some false) (nS : ∀ d : PyData, PySem.W.subIn K (tyD d) (.ref C) = some false)
    (TK : KeepT K mg CK mcK) (FB : Fun K "__init__" "BadText.__init__" s_BadText___init__ fB fdB) (mB : mg "BadText" = some (.ref CB)) (B : BadT K CB fB) (hEx : PySem.W.exmOne K (.ref CB) (.ref CK) = some true) (mI : mg "BadLine" = some (.ref CI)) (mL : mg "BadLives" = some (.ref CL))
    (kB : PySem.W.kitOne K (.ref CB) (.ref CB) = some true) (kI : PySem.W.kitOne K (.ref CB) (.ref CI) = some false) (kL : PySem.W.kitOne K (.ref CB) (.ref CL) = some false)
    (D_is_natural : Df K mg "is_natural" s_is_natural ["value"]) (D_at_most : Df K mg "at_most" s_at_most ["one", "other"]) (D_shortest : Df K mg "shortest" s_shortest ["lives"]) (D_read_number : Df K mg "read_number" s_read_number ["word"]) (D_read_rule : Df K mg "read_rule" s_read_rule ["text"]) (D_words : Df K mg "_words" s_words ["value"]) (D_law_pool : Df K mg "_law_pool" s_law_pool ["_law_script", "_law_k"]) (D_law_draw : Df K mg "_law_draw" s_law_draw ["_law_pool_here", "_law_limit"]) (D_law_pick : Df K mg "_law_pick" s_law_pick ["_law_pool_here", "_law_some"]) (D_law_lives : Df K mg "_law_lives" s_law_lives ["_law_pool_here", "_law_top", "_law_upto"]) (D_law_short : Df K mg "_law_short" s_law_short ["_law_lives_here"]) (D_law_text : Df K mg "_law_text" s_law_text ["_law_lives_here"]) (D_law_number : Df K mg "_law_number" s_law_number ["_law_word"]) (D_law_read : Df K mg "_law_read" s_law_read ["_law_text_here"]) (D_law_bent : Df K mg "_law_bent" s_law_bent ["_law_pool_here", "_law_text_here"]) (D_law_texts : Df K mg "_law_texts" s_law_texts ["_law_pool_here"]) (D_law_right : Df K mg "_law_right" s_law_right ["_law_pool_here"]) (D_law : Df K mg "law" s_law ["_law_script"]) :
    Has l.prog w K mg base 10 "law" ["_law_script"] (spLaw K) :=
  let nat := ok_natural (P := l.prog) (w := w) (base := base) D_is_natural T
  let natQ := ok_natQ (P := l.prog) (w := w) (K := K) (base := base) D_is_natural T
  let are := ok_are FA T R nat
  let areQ := ok_areQ FA T R natQ
  let sho := ok_shortest (P := l.prog) (w := w) (base := base) D_shortest T
  let init := ok_init FI T R are sho
  let gof := fnR_ok (ok_of FO T R are init) (FO.binds (ps := ["cls", "lives"]) fun _ _ _ _ _ _ us hl => match us, hl with | [_, _], _ => rfl)
  let b_lv := FLv.binds (ps := ["self"]) fun _ _ _ _ _ _ us hl => match us, hl with | [_], _ => rfl
  let lives := ok_livesP (P := l.prog) (w := w) (mg := mg) (base := base) FLv R
  let bB := FB.binds (ps := ["self", "value"]) fun _ _ _ _ _ _ us hl => match us, hl with | [_, _], _ => rfl
  let take := ok_take (P := l.prog) (w := w) (base := base) D_law_draw T
  let pick := ok_pick D_law_pick T take
  let read := ok_readX (P := l.prog) (w := w) (base := base) D_read_rule T R MOf gof areQ B mB bB (ok_BadText FB TK B) (ok_wordsQ D_words T) (ok_readNQ D_read_number T hMF hGR hNo)
  ok_law (by decide) D_law T (ok_pot D_law_pool T) (ok_right D_law_right T R R2 ⟨PLv⟩ lives b_lv TK B mB mI mL hEx kB kI kL (ok_texts D_law_texts T take pick (ok_lives D_law_lives T take pick) (ok_text D_law_text T) (ok_bent D_law_bent T take pick)) (ok_lread D_law_read T (ok_lnum D_law_number T)) (ok_short D_law_short T) read)
end Rk
open PySem PySem.W L2 in
set_option maxHeartbeats 0 in
theorem Rk.end_mk {l : OpenLaw} {w : World} {K : Frag} {mg : Str → Option Value} {h base : Heap} (X : K.In h) (G : h.Ns mainGlobals mg) {C CR : Addr} {tL tM : Tok} {pA pO : Addr} {rA rO : List Value}
    (aC : nsIn K mainGlobals "Rule" = some (some (.ref C)))
    (aR : nsIn K mainGlobals "Reckoned" = some (some (.ref CR)))
    (aL : nsIn K mainGlobals "LONGEST_LIFE" = some (some (.int 1000000000000000000 tL)))
    {fI : Addr} {ocI kVI docI pmI cdvI ctI : Value} {odI anI : Option Addr} {oslI : Array (Option Value)}
    {fA : Addr} {ocA kVA docA pmA cdvA ctA : Value} {odA anA : Option Addr} {oslA : Array (Option Value)}
    {fO : Addr} {ocO kVO docO pmO cdvO ctO : Value} {odO anO : Option Addr} {oslO : Array (Option Value)}
    {fLv : Addr} {ocLv kVLv docLv pmLv cdvLv ctLv : Value} {odLv anLv : Option Addr} {oslLv : Array (Option Value)}
    {fEq : Addr} {ocEq kVEq docEq pmEq cdvEq ctEq : Value} {odEq anEq : Option Addr} {oslEq : Array (Option Value)}
    {fBadText : Addr} {ocBadText kVBadText docBadText pmBadText cdvBadText ctBadText : Value} {odBadText anBadText : Option Addr} {oslBadText : Array (Option Value)}
    (aI : findIn K (.ref C) "__init__" = some (some (.ref fI)))
    (aA : findCls K (.ref C) (.type "type") "are_lives" = some (.get (.builtin "staticmethod.__get__") (.ref pA) .none (.ref C)))
    (xA : recIn K pA "staticmethod" = some (.ref fA :: rA))
    (aO : findCls K (.ref C) (.type "type") "of" = some (.get (.builtin "classmethod.__get__") (.ref pO) .none (.ref C)))
    (xO : recIn K pO "classmethod" = some (.ref fO :: rO))
    {pLv : Addr} {rLv : List Value}
    (aLv : findIn K (.ref C) "lives" = some (some (.ref pLv)))
    (gLv : specialIn K (.ref pLv) "__get__" = some (some (.builtin "property.__get__")))
    (tLv : takesIn K (.ref pLv) = some true)
    (xLv : recIn K pLv "property" = some (.ref fLv :: rLv))
    (hnO : specialIn K (.builtin "object.__class__") "__get__" = some (some (.builtin "getset_descriptor.__get__")))
    (htk : takesIn K (.builtin "object.__class__") = some true)
    (haC : findIn K (.ref C) "__class__" = some (some (.builtin "object.__class__")))
    (obE : mroIn K C (.type "object") = some true)
    (neE : findIn K (.ref C) "__ne__" = some (some (.builtin "object.__ne__")))
    (aEq : findIn K (.ref C) "__eq__" = some (some (.ref fEq)))
    (iEq : isFn K (.ref fEq) = true)
    (kc0 : kitOne K (.type "NoneType") (.ref C) = some false)
    (sc0 : subIn K (.type "NoneType") (.ref C) = some false)
    (kc1 : kitOne K (.type "bool") (.ref C) = some false)
    (sc1 : subIn K (.type "bool") (.ref C) = some false)
    (kc2 : kitOne K (.type "int") (.ref C) = some false)
    (sc2 : subIn K (.type "int") (.ref C) = some false)
    (kc3 : kitOne K (.type "str") (.ref C) = some false)
    (sc3 : subIn K (.type "str") (.ref C) = some false)
    (kc4 : kitOne K (.type "list") (.ref C) = some false)
    (sc4 : subIn K (.type "list") (.ref C) = some false)
    (kc5 : kitOne K (.type "tuple") (.ref C) = some false)
    (sc5 : subIn K (.type "tuple") (.ref C) = some false)
    (kc6 : kitOne K (.type "dict") (.ref C) = some false)
    (sc6 : subIn K (.type "dict") (.ref C) = some false)
    {CK : Addr}
    (aKE : nsIn K mainGlobals "KeepError" = some (some (.ref CK)))
    (ke1 : readsIn K CK (.type "type") = true)
    (ke2 : specialIn K (.ref CK) "__getattribute__" = some (some (.builtin "type.__getattribute__")))
    (ke3 : findCls K (.ref CK) (.type "type") "__init__" = some (.val (.builtin "ValueError.__init__")))
    (ke4 : subIn K (.ref CK) (.type "BaseException") = some true)
    (ke5 : isClsIn K CK = true)
    (ke6 : typeIn K (.ref CK) = some (.type "type"))
    {CBadText NBadText : Addr} {nmBadText qnBadText : Str} {bsBadText sbBadText : List Value} {snBadText : List Str} {abBadText : Bool} {colBadText : Option Bool} {ddBadText : Option Addr} {moBadText mpBadText mqBadText mrBadText mtBadText : Option Value}
    (eaBadText : nsIn K mainGlobals "BadText" = some (some (.ref CBadText)))
    (exBadText : K.lookup CBadText = some (excClassObj nmBadText qnBadText CBadText NBadText bsBadText [.ref CK, .type "ValueError", .type "Exception", .type "BaseException", .type "object"] true snBadText sbBadText abBadText colBadText ddBadText moBadText mpBadText mqBadText mrBadText mtBadText "ValueError.__new__"))
    (e1BadText : findIn K (.ref CBadText) "__setattr__" = some (some (.builtin "object.__setattr__")))
    (e2BadText : subIn K (.ref CBadText) (.type "BaseException") = some true)
    (e3BadText : typeIn K (.ref CBadText) = some (.type "type"))
    (e4BadText : keepIn K (.ref CBadText) = true)
    (e5BadText : findIn K (.ref CBadText) "value" = some none)
    (e6BadText : findIn K (.ref CBadText) "__init__" = some (some (.ref fBadText)))
    (e7BadText : typeIn K (.ref fBadText) = some (.type "function"))
    (e8BadText : findIn K (.ref CBadText) "__getattribute__" = some (some (.builtin "BaseException.__getattribute__")))
    (e9BadText : findIn K (.ref CBadText) "__getattr__" = some none)
    (edBadText : hasDictIn K CBadText = true)
    (ecBadText : findIn K (.ref CBadText) "__class__" = some (some (.builtin "object.__class__")))
    (emBadText : mroIn K CBadText (.type "object") = some true)
    (esBadText : subIn K (.ref CBadText) (.ref CK) = some true)
    {CBadLine : Addr}
    (eaBadLine : nsIn K mainGlobals "BadLine" = some (some (.ref CBadLine)))
    {CBadLives : Addr}
    (eaBadLives : nsIn K mainGlobals "BadLives" = some (some (.ref CBadLives)))
    (eiBadTextBadText : kitOne K (.ref CBadText) (.ref CBadText) = some true)
    (eiBadTextBadLine : kitOne K (.ref CBadText) (.ref CBadLine) = some false)
    (eiBadTextBadLives : kitOne K (.ref CBadText) (.ref CBadLives) = some false)
    {tcc0 : Tok}
    (cc0 : nsIn K mainGlobals "MOST_FIGURES" = some (some (.int 19 tcc0)))
    {tcc1 : Tok}
    (cc1 : nsIn K mainGlobals "GREATEST_READ" = some (some (.int 1000000000000000000 tcc1)))
    {tcc2 : Tok}
    (cc2 : nsIn K mainGlobals "NO_NUMBER" = some (some (.int (-1) tcc2)))
    (lI : K.lookup fI = some ⟨ocI, odI, .func (fnOf "__init__" "Rule.__init__" (defArgs Rk.s_Rule___init__) (defBody Rk.s_Rule___init__) (defScope Rk.s_Rule___init__) .none kVI docI pmI anI cdvI ctI), oslI⟩)
    (cI : codeIn K cdvI "Rule.__init__" = true)
    (kI : keepIn K (.ref fI) = true)
    (lA : K.lookup fA = some ⟨ocA, odA, .func (fnOf "are_lives" "Rule.are_lives" (defArgs Rk.s_Rule_are_lives) (defBody Rk.s_Rule_are_lives) (defScope Rk.s_Rule_are_lives) .none kVA docA pmA anA cdvA ctA), oslA⟩)
    (cA : codeIn K cdvA "Rule.are_lives" = true)
    (kA : keepIn K (.ref fA) = true)
    (lO : K.lookup fO = some ⟨ocO, odO, .func (fnOf "of" "Rule.of" (defArgs Rk.s_Rule_of) (defBody Rk.s_Rule_of) (defScope Rk.s_Rule_of) .none kVO docO pmO anO cdvO ctO), oslO⟩)
    (cO : codeIn K cdvO "Rule.of" = true)
    (kO : keepIn K (.ref fO) = true)
    (lLv : K.lookup fLv = some ⟨ocLv, odLv, .func (fnOf "lives" "Rule.lives" (defArgs Rk.s_Rule_lives) (defBody Rk.s_Rule_lives) (defScope Rk.s_Rule_lives) .none kVLv docLv pmLv anLv cdvLv ctLv), oslLv⟩)
    (cLv : codeIn K cdvLv "Rule.lives" = true)
    (kLv : keepIn K (.ref fLv) = true)
    (lEq : K.lookup fEq = some ⟨ocEq, odEq, .func (fnOf "__eq__" "Rule.__eq__" (defArgs Rk.s_Rule___eq__) (defBody Rk.s_Rule___eq__) (defScope Rk.s_Rule___eq__) .none kVEq docEq pmEq anEq cdvEq ctEq), oslEq⟩)
    (cEq : codeIn K cdvEq "Rule.__eq__" = true)
    (kEq : keepIn K (.ref fEq) = true)
    (lBadText : K.lookup fBadText = some ⟨ocBadText, odBadText, .func (fnOf "__init__" "BadText.__init__" (defArgs Rk.s_BadText___init__) (defBody Rk.s_BadText___init__) (defScope Rk.s_BadText___init__) .none kVBadText docBadText pmBadText anBadText cdvBadText ctBadText), oslBadText⟩)
    (cBadText : codeIn K cdvBadText "BadText.__init__" = true)
    (kBadText : keepIn K (.ref fBadText) = true)
    (q1 : plainGet K C Str.empty = true)
    (q2 : hasDictIn K C = true)
    (q3 : plainOver K C = true)
    (q4 : findIn K (.ref C) "__setattr__" = some (some (.builtin "object.__setattr__")))
    (q5 : makesIn K C = true)
    (q6 : isFn K (.ref fI) = true)
    (q7 : keepIn K (.ref C) = true)
    (q8 : findIn K (.ref C) "_lives" = some none)
    (q9 : readsIn K C (.type "type") = true)
    (r1 : specialIn K (.ref C) "__getattribute__" = some (some (.builtin "type.__getattribute__")))
    (r2 : findCls K (.ref C) (.type "type") "MOST_LIVES" = some (.val (.int 61 tM)))
    (r4 : fnIn K fO = true)
    (r7 : kitOne K (.type "int") (.ref CR) = some false)
    (r8 : kitOne K (.type "NoneType") (.ref CR) = some false)
    {f1 : Addr} {oc1 kV1 doc1 pm1 cdv1 ct1 : Value} {od1 an1 : Option Addr} {osl1 : Array (Option Value)}
    (a1 : nsIn K mainGlobals "is_natural" = some (some (.ref f1)))
    (l1 : K.lookup f1 = some ⟨oc1, od1, .func (fnOf "is_natural" "is_natural" (defArgs Rk.s_is_natural) (defBody Rk.s_is_natural) (defScope Rk.s_is_natural) .none kV1 doc1 pm1 an1 cdv1 ct1), osl1⟩)
    (c1 : codeIn K cdv1 "is_natural" = true)
    (k1 : keepIn K (.ref f1) = true)
    {f2 : Addr} {oc2 kV2 doc2 pm2 cdv2 ct2 : Value} {od2 an2 : Option Addr} {osl2 : Array (Option Value)}
    (a2 : nsIn K mainGlobals "at_most" = some (some (.ref f2)))
    (l2 : K.lookup f2 = some ⟨oc2, od2, .func (fnOf "at_most" "at_most" (defArgs Rk.s_at_most) (defBody Rk.s_at_most) (defScope Rk.s_at_most) .none kV2 doc2 pm2 an2 cdv2 ct2), osl2⟩)
    (c2 : codeIn K cdv2 "at_most" = true)
    (k2 : keepIn K (.ref f2) = true)
    {f3 : Addr} {oc3 kV3 doc3 pm3 cdv3 ct3 : Value} {od3 an3 : Option Addr} {osl3 : Array (Option Value)}
    (a3 : nsIn K mainGlobals "shortest" = some (some (.ref f3)))
    (l3 : K.lookup f3 = some ⟨oc3, od3, .func (fnOf "shortest" "shortest" (defArgs Rk.s_shortest) (defBody Rk.s_shortest) (defScope Rk.s_shortest) .none kV3 doc3 pm3 an3 cdv3 ct3), osl3⟩)
    (c3 : codeIn K cdv3 "shortest" = true)
    (k3 : keepIn K (.ref f3) = true)
    {f4 : Addr} {oc4 kV4 doc4 pm4 cdv4 ct4 : Value} {od4 an4 : Option Addr} {osl4 : Array (Option Value)}
    (a4 : nsIn K mainGlobals "read_number" = some (some (.ref f4)))
    (l4 : K.lookup f4 = some ⟨oc4, od4, .func (fnOf "read_number" "read_number" (defArgs Rk.s_read_number) (defBody Rk.s_read_number) (defScope Rk.s_read_number) .none kV4 doc4 pm4 an4 cdv4 ct4), osl4⟩)
    (c4 : codeIn K cdv4 "read_number" = true)
    (k4 : keepIn K (.ref f4) = true)
    {f5 : Addr} {oc5 kV5 doc5 pm5 cdv5 ct5 : Value} {od5 an5 : Option Addr} {osl5 : Array (Option Value)}
    (a5 : nsIn K mainGlobals "read_rule" = some (some (.ref f5)))
    (l5 : K.lookup f5 = some ⟨oc5, od5, .func (fnOf "read_rule" "read_rule" (defArgs Rk.s_read_rule) (defBody Rk.s_read_rule) (defScope Rk.s_read_rule) .none kV5 doc5 pm5 an5 cdv5 ct5), osl5⟩)
    (c5 : codeIn K cdv5 "read_rule" = true)
    (k5 : keepIn K (.ref f5) = true)
    {f6 : Addr} {oc6 kV6 doc6 pm6 cdv6 ct6 : Value} {od6 an6 : Option Addr} {osl6 : Array (Option Value)}
    (a6 : nsIn K mainGlobals "_words" = some (some (.ref f6)))
    (l6 : K.lookup f6 = some ⟨oc6, od6, .func (fnOf "_words" "_words" (defArgs Rk.s_words) (defBody Rk.s_words) (defScope Rk.s_words) .none kV6 doc6 pm6 an6 cdv6 ct6), osl6⟩)
    (c6 : codeIn K cdv6 "_words" = true)
    (k6 : keepIn K (.ref f6) = true)
    {f7 : Addr} {oc7 kV7 doc7 pm7 cdv7 ct7 : Value} {od7 an7 : Option Addr} {osl7 : Array (Option Value)}
    (a7 : nsIn K mainGlobals "_law_pool" = some (some (.ref f7)))
    (l7 : K.lookup f7 = some ⟨oc7, od7, .func (fnOf "_law_pool" "_law_pool" (defArgs Rk.s_law_pool) (defBody Rk.s_law_pool) (defScope Rk.s_law_pool) .none kV7 doc7 pm7 an7 cdv7 ct7), osl7⟩)
    (c7 : codeIn K cdv7 "_law_pool" = true)
    (k7 : keepIn K (.ref f7) = true)
    {f8 : Addr} {oc8 kV8 doc8 pm8 cdv8 ct8 : Value} {od8 an8 : Option Addr} {osl8 : Array (Option Value)}
    (a8 : nsIn K mainGlobals "_law_draw" = some (some (.ref f8)))
    (l8 : K.lookup f8 = some ⟨oc8, od8, .func (fnOf "_law_draw" "_law_draw" (defArgs Rk.s_law_draw) (defBody Rk.s_law_draw) (defScope Rk.s_law_draw) .none kV8 doc8 pm8 an8 cdv8 ct8), osl8⟩)
    (c8 : codeIn K cdv8 "_law_draw" = true)
    (k8 : keepIn K (.ref f8) = true)
    {f9 : Addr} {oc9 kV9 doc9 pm9 cdv9 ct9 : Value} {od9 an9 : Option Addr} {osl9 : Array (Option Value)}
    (a9 : nsIn K mainGlobals "_law_pick" = some (some (.ref f9)))
    (l9 : K.lookup f9 = some ⟨oc9, od9, .func (fnOf "_law_pick" "_law_pick" (defArgs Rk.s_law_pick) (defBody Rk.s_law_pick) (defScope Rk.s_law_pick) .none kV9 doc9 pm9 an9 cdv9 ct9), osl9⟩)
    (c9 : codeIn K cdv9 "_law_pick" = true)
    (k9 : keepIn K (.ref f9) = true)
    {f10 : Addr} {oc10 kV10 doc10 pm10 cdv10 ct10 : Value} {od10 an10 : Option Addr} {osl10 : Array (Option Value)}
    (a10 : nsIn K mainGlobals "_law_lives" = some (some (.ref f10)))
    (l10 : K.lookup f10 = some ⟨oc10, od10, .func (fnOf "_law_lives" "_law_lives" (defArgs Rk.s_law_lives) (defBody Rk.s_law_lives) (defScope Rk.s_law_lives) .none kV10 doc10 pm10 an10 cdv10 ct10), osl10⟩)
    (c10 : codeIn K cdv10 "_law_lives" = true)
    (k10 : keepIn K (.ref f10) = true)
    {f11 : Addr} {oc11 kV11 doc11 pm11 cdv11 ct11 : Value} {od11 an11 : Option Addr} {osl11 : Array (Option Value)}
    (a11 : nsIn K mainGlobals "_law_short" = some (some (.ref f11)))
    (l11 : K.lookup f11 = some ⟨oc11, od11, .func (fnOf "_law_short" "_law_short" (defArgs Rk.s_law_short) (defBody Rk.s_law_short) (defScope Rk.s_law_short) .none kV11 doc11 pm11 an11 cdv11 ct11), osl11⟩)
    (c11 : codeIn K cdv11 "_law_short" = true)
    (k11 : keepIn K (.ref f11) = true)
    {f12 : Addr} {oc12 kV12 doc12 pm12 cdv12 ct12 : Value} {od12 an12 : Option Addr} {osl12 : Array (Option Value)}
    (a12 : nsIn K mainGlobals "_law_text" = some (some (.ref f12)))
    (l12 : K.lookup f12 = some ⟨oc12, od12, .func (fnOf "_law_text" "_law_text" (defArgs Rk.s_law_text) (defBody Rk.s_law_text) (defScope Rk.s_law_text) .none kV12 doc12 pm12 an12 cdv12 ct12), osl12⟩)
    (c12 : codeIn K cdv12 "_law_text" = true)
    (k12 : keepIn K (.ref f12) = true)
    {f13 : Addr} {oc13 kV13 doc13 pm13 cdv13 ct13 : Value} {od13 an13 : Option Addr} {osl13 : Array (Option Value)}
    (a13 : nsIn K mainGlobals "_law_number" = some (some (.ref f13)))
    (l13 : K.lookup f13 = some ⟨oc13, od13, .func (fnOf "_law_number" "_law_number" (defArgs Rk.s_law_number) (defBody Rk.s_law_number) (defScope Rk.s_law_number) .none kV13 doc13 pm13 an13 cdv13 ct13), osl13⟩)
    (c13 : codeIn K cdv13 "_law_number" = true)
    (k13 : keepIn K (.ref f13) = true)
    {f14 : Addr} {oc14 kV14 doc14 pm14 cdv14 ct14 : Value} {od14 an14 : Option Addr} {osl14 : Array (Option Value)}
    (a14 : nsIn K mainGlobals "_law_read" = some (some (.ref f14)))
    (l14 : K.lookup f14 = some ⟨oc14, od14, .func (fnOf "_law_read" "_law_read" (defArgs Rk.s_law_read) (defBody Rk.s_law_read) (defScope Rk.s_law_read) .none kV14 doc14 pm14 an14 cdv14 ct14), osl14⟩)
    (c14 : codeIn K cdv14 "_law_read" = true)
    (k14 : keepIn K (.ref f14) = true)
    {f15 : Addr} {oc15 kV15 doc15 pm15 cdv15 ct15 : Value} {od15 an15 : Option Addr} {osl15 : Array (Option Value)}
    (a15 : nsIn K mainGlobals "_law_bent" = some (some (.ref f15)))
    (l15 : K.lookup f15 = some ⟨oc15, od15, .func (fnOf "_law_bent" "_law_bent" (defArgs Rk.s_law_bent) (defBody Rk.s_law_bent) (defScope Rk.s_law_bent) .none kV15 doc15 pm15 an15 cdv15 ct15), osl15⟩)
    (c15 : codeIn K cdv15 "_law_bent" = true)
    (k15 : keepIn K (.ref f15) = true)
    {f16 : Addr} {oc16 kV16 doc16 pm16 cdv16 ct16 : Value} {od16 an16 : Option Addr} {osl16 : Array (Option Value)}
    (a16 : nsIn K mainGlobals "_law_texts" = some (some (.ref f16)))
    (l16 : K.lookup f16 = some ⟨oc16, od16, .func (fnOf "_law_texts" "_law_texts" (defArgs Rk.s_law_texts) (defBody Rk.s_law_texts) (defScope Rk.s_law_texts) .none kV16 doc16 pm16 an16 cdv16 ct16), osl16⟩)
    (c16 : codeIn K cdv16 "_law_texts" = true)
    (k16 : keepIn K (.ref f16) = true)
    {f17 : Addr} {oc17 kV17 doc17 pm17 cdv17 ct17 : Value} {od17 an17 : Option Addr} {osl17 : Array (Option Value)}
    (a17 : nsIn K mainGlobals "_law_right" = some (some (.ref f17)))
    (l17 : K.lookup f17 = some ⟨oc17, od17, .func (fnOf "_law_right" "_law_right" (defArgs Rk.s_law_right) (defBody Rk.s_law_right) (defScope Rk.s_law_right) .none kV17 doc17 pm17 an17 cdv17 ct17), osl17⟩)
    (c17 : codeIn K cdv17 "_law_right" = true)
    (k17 : keepIn K (.ref f17) = true)
    {f18 : Addr} {oc18 kV18 doc18 pm18 cdv18 ct18 : Value} {od18 an18 : Option Addr} {osl18 : Array (Option Value)}
    (a18 : nsIn K mainGlobals "law" = some (some (.ref f18)))
    (l18 : K.lookup f18 = some ⟨oc18, od18, .func (fnOf "law" "law" (defArgs Rk.s_law) (defBody Rk.s_law) (defScope Rk.s_law) .none kV18 doc18 pm18 an18 cdv18 ct18), osl18⟩)
    (c18 : codeIn K cdv18 "law" = true)
    (k18 : keepIn K (.ref f18) = true)
    (z0 : nsIn K mainGlobals "len" = some none)
    (z1 : nsIn K mainGlobals "abs" = some none)
    (z2 : nsIn K mainGlobals "min" = some none)
    (z3 : nsIn K mainGlobals "max" = some none)
    (z4 : nsIn K mainGlobals "range" = some none)
    (z5 : nsIn K mainGlobals "all" = some none)
    (z6 : nsIn K mainGlobals "any" = some none)
    (z7 : nsIn K mainGlobals "repr" = some none)
    (z8 : nsIn K mainGlobals "tuple" = some none)
    (z9 : nsIn K mainGlobals "list" = some none)
    (z10 : nsIn K mainGlobals "sorted" = some none)
    (z11 : nsIn K mainGlobals "enumerate" = some none)
    (z12 : nsIn K mainGlobals "zip" = some none)
    (z13 : nsIn K mainGlobals "isinstance" = some none)
    (z14 : nsIn K mainGlobals "int" = some none)
    (z15 : nsIn K mainGlobals "bool" = some none)
    (z16 : nsIn K mainGlobals "sum" = some none)
    (z17 : nsIn K mainGlobals "str" = some none)
    (z18 : nsIn K mainGlobals "divmod" = some none) :
    Rk.Has l.prog w K mg base 10 "law" ["_law_script"] (Rk.spLaw K) := by
  have T : Rk.Bl mg := ⟨mg_none_of X G z0, mg_none_of X G z1, mg_none_of X G z2, mg_none_of X G z3, mg_none_of X G z4, mg_none_of X G z5, mg_none_of X G z6, mg_none_of X G z7, mg_none_of X G z8, mg_none_of X G z9, mg_none_of X G z10, mg_none_of X G z11, mg_none_of X G z12, mg_none_of X G z13, mg_none_of X G z14, mg_none_of X G z15, mg_none_of X G z16, mg_none_of X G z17, mg_none_of X G z18⟩
  have D1 : Rk.Df K mg "is_natural" Rk.s_is_natural ["value"] := Rk.df_mk X G a1 l1 c1 k1 fun _ _ _ _ _ _ us hl => match us, hl with | [_], _ => rfl
  have D2 : Rk.Df K mg "at_most" Rk.s_at_most ["one", "other"] := Rk.df_mk X G a2 l2 c2 k2 fun _ _ _ _ _ _ us hl => match us, hl with | [_, _], _ => rfl
  have D3 : Rk.Df K mg "shortest" Rk.s_shortest ["lives"] := Rk.df_mk X G a3 l3 c3 k3 fun _ _ _ _ _ _ us hl => match us, hl with | [_], _ => rfl
  have D4 : Rk.Df K mg "read_number" Rk.s_read_number ["word"] := Rk.df_mk X G a4 l4 c4 k4 fun _ _ _ _ _ _ us hl => match us, hl with | [_], _ => rfl
  have D5 : Rk.Df K mg "read_rule" Rk.s_read_rule ["text"] := Rk.df_mk X G a5 l5 c5 k5 fun _ _ _ _ _ _ us hl => match us, hl with | [_], _ => rfl
  have D6 : Rk.Df K mg "_words" Rk.s_words ["value"] := Rk.df_mk X G a6 l6 c6 k6 fun _ _ _ _ _ _ us hl => match us, hl with | [_], _ => rfl
  have D7 : Rk.Df K mg "_law_pool" Rk.s_law_pool ["_law_script", "_law_k"] := Rk.df_mk X G a7 l7 c7 k7 fun _ _ _ _ _ _ us hl => match us, hl with | [_, _], _ => rfl
  have D8 : Rk.Df K mg "_law_draw" Rk.s_law_draw ["_law_pool_here", "_law_limit"] := Rk.df_mk X G a8 l8 c8 k8 fun _ _ _ _ _ _ us hl => match us, hl with | [_, _], _ => rfl
  have D9 : Rk.Df K mg "_law_pick" Rk.s_law_pick ["_law_pool_here", "_law_some"] := Rk.df_mk X G a9 l9 c9 k9 fun _ _ _ _ _ _ us hl => match us, hl with | [_, _], _ => rfl
  have D10 : Rk.Df K mg "_law_lives" Rk.s_law_lives ["_law_pool_here", "_law_top", "_law_upto"] := Rk.df_mk X G a10 l10 c10 k10 fun _ _ _ _ _ _ us hl => match us, hl with | [_, _, _], _ => rfl
  have D11 : Rk.Df K mg "_law_short" Rk.s_law_short ["_law_lives_here"] := Rk.df_mk X G a11 l11 c11 k11 fun _ _ _ _ _ _ us hl => match us, hl with | [_], _ => rfl
  have D12 : Rk.Df K mg "_law_text" Rk.s_law_text ["_law_lives_here"] := Rk.df_mk X G a12 l12 c12 k12 fun _ _ _ _ _ _ us hl => match us, hl with | [_], _ => rfl
  have D13 : Rk.Df K mg "_law_number" Rk.s_law_number ["_law_word"] := Rk.df_mk X G a13 l13 c13 k13 fun _ _ _ _ _ _ us hl => match us, hl with | [_], _ => rfl
  have D14 : Rk.Df K mg "_law_read" Rk.s_law_read ["_law_text_here"] := Rk.df_mk X G a14 l14 c14 k14 fun _ _ _ _ _ _ us hl => match us, hl with | [_], _ => rfl
  have D15 : Rk.Df K mg "_law_bent" Rk.s_law_bent ["_law_pool_here", "_law_text_here"] := Rk.df_mk X G a15 l15 c15 k15 fun _ _ _ _ _ _ us hl => match us, hl with | [_, _], _ => rfl
  have D16 : Rk.Df K mg "_law_texts" Rk.s_law_texts ["_law_pool_here"] := Rk.df_mk X G a16 l16 c16 k16 fun _ _ _ _ _ _ us hl => match us, hl with | [_], _ => rfl
  have D17 : Rk.Df K mg "_law_right" Rk.s_law_right ["_law_pool_here"] := Rk.df_mk X G a17 l17 c17 k17 fun _ _ _ _ _ _ us hl => match us, hl with | [_], _ => rfl
  have D18 : Rk.Df K mg "law" Rk.s_law ["_law_script"] := Rk.df_mk X G a18 l18 c18 k18 fun _ _ _ _ _ _ us hl => match us, hl with | [_], _ => rfl
  have FI := fun_mk (st := Rk.s_Rule___init__) lI cI kI
  have FA := fun_mk (st := Rk.s_Rule_are_lives) lA cA kA
  have FO := fun_mk (st := Rk.s_Rule_of) lO cO kO
  have FLv := fun_mk (st := Rk.s_Rule_lives) lLv cLv kLv
  have FEq := fun_mk (st := Rk.s_Rule___eq__) lEq cEq kEq
  have FBadText := fun_mk (st := Rk.s_BadText___init__) lBadText cBadText kBadText
  have bA := FA.binds (ps := ["value"]) fun _ _ _ _ _ _ us hl => match us, hl with | [_], _ => rfl
  have R : Rk.RuleT K mg C CR (.type "type") fI pA fA _ := ⟨⟨q1, q2, q3, q4⟩, ⟨q5, aI, q6, q7⟩, q8, mg_of X G aC, mg_of X G aR, ⟨_, mg_of X G aL⟩, ⟨q9, r1⟩, ⟨_, r2, ⟨_, rfl⟩⟩, ⟨aA, ⟨_, xA⟩, rfl, kA⟩, bA, r7, r8⟩
  exact Rk.all_mk (l := l) (w := w) (base := base) T R FI FA FO ⟨aO, ⟨_, xO⟩, r4⟩ ⟨aLv, gLv, tLv, ⟨_, xLv⟩⟩ FLv ⟨_, mg_of X G cc0⟩ ⟨_, mg_of X G cc1⟩ ⟨_, mg_of X G cc2⟩ FEq ⟨⟨aEq, iEq⟩, neE, obE⟩ ⟨haC, hnO, htk, obE⟩ (fun d => match d with | .none => kc0 | .bool _ => kc1 | .int _ => kc2 | .str _ => kc3 | .list _ => kc4 | .tuple _ => kc5 | .dict _ => kc6) (fun d => match d with | .none => sc0 | .bool _ => sc1 | .int _ => sc2 | .str _ => sc3 | .list _ => sc4 | .tuple _ => sc5 | .dict _ => sc6) ⟨mg_of X G aKE, ⟨ke1, ke2⟩, ke3⟩ FBadText (mg_of X G eaBadText) ⟨⟨⟨_, _, _, _, _, _, _, _, _, _, _, _, _, _, _, exBadText, by show PySem.HandSPX.refsVE [.type "ValueError", .type "Exception", .type "BaseException", .type "object"] = true; decide +kernel⟩, e1BadText, e2BadText, e3BadText, e4BadText⟩, e5BadText, e6BadText, e7BadText, ⟨e8BadText, e9BadText, e2BadText, edBadText, ecBadText, hnO, htk, emBadText⟩, ⟨e8BadText, e9BadText, e2BadText, edBadText⟩⟩ (Rk.exm_of ke4 ke5 ke6 esBadText) (mg_of X G eaBadLine) (mg_of X G eaBadLives) eiBadTextBadText eiBadTextBadLine eiBadTextBadLives D1 D2 D3 D4 D5 D6 D7 D8 D9 D10 D11 D12 D13 D14 D15 D16 D17 D18
open PySem PySem.W PyProof.Rows in
set_option maxRecDepth 100000 in
set_option maxHeartbeats 0 in
theorem PySem.Challenge.cw_rulerkeep_k43_texts_that_are_no_rules_holds : PySem.Challenge.rw_rulerkeep_k43_texts_that_are_no_rules.Holds := by
  w_on; o_law; k_head; (case hw => w_witness2)
  k_fill
  refine Rk.walkG (l := PySem.Challenge.rw_rulerkeep_k43_texts_that_are_no_rules) (n := 63) (k := 10) (x := "_law_script") (sp := Rk.spLaw) rfl (by decide) rfl ⟨rfl, by decide, by decide⟩ (fun w h Y => PySem.W.kIn_of Y) ?F (fun _ _ a ns hl _ hS => ⟨a, ns, rfl, hS, hl, fun _ => rfl⟩)
  case F =>
    intro w mg h KX G base _ _
    refine' Rk.end_mk KX G ?aC ?aR ?aL ?aI ?aA ?xA ?aO ?xO ?aLv ?gLv ?tLv ?xLv ?hnO ?htk ?haC ?obE ?neE ?aEq ?iEq ?kc0 ?sc0 ?kc1 ?sc1 ?kc2 ?sc2 ?kc3 ?sc3 ?kc4 ?sc4 ?kc5 ?sc5 ?kc6 ?sc6 ?aKE ?ke1 ?ke2 ?ke3 ?ke4 ?ke5 ?ke6 ?eaBadText ?exBadText ?e1BadText ?e2BadText ?e3BadText ?e4BadText ?e5BadText ?e6BadText ?e7BadText ?e8BadText ?e9BadText ?edBadText ?ecBadText ?emBadText ?esBadText ?eaBadLine ?eaBadLives ?eiBadTextBadText ?eiBadTextBadLine ?eiBadTextBadLives ?cc0 ?cc1 ?cc2 ?lI ?cI ?kI ?lA ?cA ?kA ?lO ?cO ?kO ?lLv ?cLv ?kLv ?lEq ?cEq ?kEq ?lBadText ?cBadText ?kBadText ?q1 ?q2 ?q3 ?q4 ?q5 ?q6 ?q7 ?q8 ?q9 ?r1 ?r2 ?r4 ?r7 ?r8 ?a1 ?l1 ?c1 ?k1 ?a2 ?l2 ?c2 ?k2 ?a3 ?l3 ?c3 ?k3 ?a4 ?l4 ?c4 ?k4 ?a5 ?l5 ?c5 ?k5 ?a6 ?l6 ?c6 ?k6 ?a7 ?l7 ?c7 ?k7 ?a8 ?l8 ?c8 ?k8 ?a9 ?l9 ?c9 ?k9 ?a10 ?l10 ?c10 ?k10 ?a11 ?l11 ?c11 ?k11 ?a12 ?l12 ?c12 ?k12 ?a13 ?l13 ?c13 ?k13 ?a14 ?l14 ?c14 ?k14 ?a15 ?l15 ?c15 ?k15 ?a16 ?l16 ?c16 ?k16 ?a17 ?l17 ?c17 ?k17 ?a18 ?l18 ?c18 ?k18 ?z0 ?z1 ?z2 ?z3 ?z4 ?z5 ?z6 ?z7 ?z8 ?z9 ?z10 ?z11 ?z12 ?z13 ?z14 ?z15 ?z16 ?z17 ?z18
    (case aC => k_is)
    (case aR => k_is)
    (case aL => k_is)
    (case aI => k_is)
    (case aA => k_is)
    (case xA => k_is)
    (case aO => k_is)
    (case xO => k_is)
    (case aLv => k_is)
    (case gLv => k_is)
    (case tLv => k_is)
    (case xLv => k_is)
    (case hnO => k_is)
    (case htk => k_is)
    (case haC => k_is)
    (case obE => k_is)
    (case neE => k_is)
    (case aEq => k_is)
    (case iEq => k_is)
    (case kc0 => kit_is)
    (case sc0 => k_is)
    (case kc1 => kit_is)
    (case sc1 => k_is)
    (case kc2 => kit_is)
    (case sc2 => k_is)
    (case kc3 => kit_is)
    (case sc3 => k_is)
    (case kc4 => kit_is)
    (case sc4 => k_is)
    (case kc5 => kit_is)
    (case sc5 => k_is)
    (case kc6 => kit_is)
    (case sc6 => k_is)
    (case aKE => k_is)
    (case ke1 => k_is)
    (case ke2 => k_is)
    (case ke3 => k_is)
    (case ke4 => k_is)
    (case ke5 => k_is)
    (case ke6 => k_is)
    (case eaBadText => k_is)
    (case exBadText => k_is)
    (case e1BadText => k_is)
    (case e2BadText => k_is)
    (case e3BadText => k_is)
    (case e4BadText => k_is)
    (case e5BadText => k_is)
    (case e6BadText => k_is)
    (case e7BadText => k_is)
    (case e8BadText => k_is)
    (case e9BadText => k_is)
    (case edBadText => k_is)
    (case ecBadText => k_is)
    (case emBadText => k_is)
    (case esBadText => k_is)
    (case eaBadLine => k_is)
    (case eaBadLives => k_is)
    (case eiBadTextBadText => kit_is)
    (case eiBadTextBadLine => kit_is)
    (case eiBadTextBadLives => kit_is)
    (case cc0 => k_is)
    (case cc1 => k_is)
    (case cc2 => k_is)
    (case lI => k_is)
    (case cI => k_is)
    (case kI => k_is)
    (case lA => k_is)
    (case cA => k_is)
    (case kA => k_is)
    (case lO => k_is)
    (case cO => k_is)
    (case kO => k_is)
    (case lLv => k_is)
    (case cLv => k_is)
    (case kLv => k_is)
    (case lEq => k_is)
    (case cEq => k_is)
    (case kEq => k_is)
    (case lBadText => k_is)
    (case cBadText => k_is)
    (case kBadText => k_is)
    (case q1 => k_is)
    (case q2 => k_is)
    (case q3 => k_is)
    (case q4 => k_is)
    (case q5 => k_is)
    (case q6 => k_is)
    (case q7 => k_is)
    (case q8 => k_is)
    (case q9 => k_is)
    (case r1 => k_is)
    (case r2 => k_is)
    (case r4 => k_is)
    (case r7 => kit_is)
    (case r8 => kit_is)
    (case a1 => k_is)
    (case l1 => k_is)
    (case c1 => k_is)
    (case k1 => k_is)
    (case a2 => k_is)
    (case l2 => k_is)
    (case c2 => k_is)
    (case k2 => k_is)
    (case a3 => k_is)
    (case l3 => k_is)
    (case c3 => k_is)
    (case k3 => k_is)
    (case a4 => k_is)
    (case l4 => k_is)
    (case c4 => k_is)
    (case k4 => k_is)
    (case a5 => k_is)
    (case l5 => k_is)
    (case c5 => k_is)
    (case k5 => k_is)
    (case a6 => k_is)
    (case l6 => k_is)
    (case c6 => k_is)
    (case k6 => k_is)
    (case a7 => k_is)
    (case l7 => k_is)
    (case c7 => k_is)
    (case k7 => k_is)
    (case a8 => k_is)
    (case l8 => k_is)
    (case c8 => k_is)
    (case k8 => k_is)
    (case a9 => k_is)
    (case l9 => k_is)
    (case c9 => k_is)
    (case k9 => k_is)
    (case a10 => k_is)
    (case l10 => k_is)
    (case c10 => k_is)
    (case k10 => k_is)
    (case a11 => k_is)
    (case l11 => k_is)
    (case c11 => k_is)
    (case k11 => k_is)
    (case a12 => k_is)
    (case l12 => k_is)
    (case c12 => k_is)
    (case k12 => k_is)
    (case a13 => k_is)
    (case l13 => k_is)
    (case c13 => k_is)
    (case k13 => k_is)
    (case a14 => k_is)
    (case l14 => k_is)
    (case c14 => k_is)
    (case k14 => k_is)
    (case a15 => k_is)
    (case l15 => k_is)
    (case c15 => k_is)
    (case k15 => k_is)
    (case a16 => k_is)
    (case l16 => k_is)
    (case c16 => k_is)
    (case k16 => k_is)
    (case a17 => k_is)
    (case l17 => k_is)
    (case c17 => k_is)
    (case k17 => k_is)
    (case a18 => k_is)
    (case l18 => k_is)
    (case c18 => k_is)
    (case k18 => k_is)
    (case z0 => k_is)
    (case z1 => k_is)
    (case z2 => k_is)
    (case z3 => k_is)
    (case z4 => k_is)
    (case z5 => k_is)
    (case z6 => k_is)
    (case z7 => k_is)
    (case z8 => k_is)
    (case z9 => k_is)
    (case z10 => k_is)
    (case z11 => k_is)
    (case z12 => k_is)
    (case z13 => k_is)
    (case z14 => k_is)
    (case z15 => k_is)
    (case z16 => k_is)
    (case z17 => k_is)
    (case z18 => k_is)
