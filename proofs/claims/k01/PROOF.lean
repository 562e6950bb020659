import PyProof.Rows.All
import Wide.All
import OpenK.AllK
import Wide.FinOn
import HandS.ForMost
import HandS.Wide
import HandS.WideBits
import HandS.RaiseMore
import HandS.Star
import HandS.ClsMeth
import HandS.IsInst
import HandS.Zip
import HandS.TupAny
import HandS.Property
import HandS.Walk
import PySem.Challenge.RW_rulerkeep_k01_ranks_of_points
set_option Elab.async false
set_option linter.all false
set_option maxRecDepth 100000
namespace Rk
open PySem PySem.Spec PyProof.Rows L2

/-! ### powers of great bases -/
def CPowB (i j : Int) : Prop := 0 ≤ j ∧ (Builtin.Int.intBits i : Int) * j ≤ 2 ^ 27
section
variable {X : Cx}
theorem op_powB : OpR X (binaryOp .Pow) (rI CPowB fun i j => .int (i ^ j.toNat)) :=
  opI fun _ _ _ _ _ _ _ hc q => pow_int hc.1 hc.2 q

/-! ### repr of plain values -/
def plainD : V → Option PyData
  | .non => some .none
  | .bl b => some (.bool b)
  | .int i => some (.int i)
  | .str x => some (.str x)
  | _ => none
theorem call_repr0 : CallR X (.builtin "repr") (fun xs H Q => ∃ x d, xs = [x] ∧ plainD x = some d ∧ d.showable = true ∧ d.shown.length ≤ sizeLine ∧ Q (.str d.shown) H) := by
  intro pins s σ H xs us Q I r h
  obtain ⟨x, d, rfl, hd, hs, hl, q⟩ := h
  obtain ⟨u, rfl, rx⟩ := vals1 r
  cases x with
  | non =>
    cases rx
    cases hd
    exact PySem.P.repr_of_none ⟨.str _, H, I.tok _, ⟨_, rfl⟩, q⟩
  | bl b =>
    cases rx
    cases hd
    exact PySem.P.repr_of_bool ⟨.str _, H, I.tok _, ⟨_, rfl⟩, q⟩
  | int i =>
    obtain ⟨t, rfl⟩ := rx
    cases hd
    exact PySem.P.repr_of_int (by simpa [PyData.showable] using hs) ⟨.str _, H, I.tok _, ⟨_, rfl⟩, q⟩
  | str z =>
    obtain ⟨t, rfl⟩ := rx
    cases hd
    exact PySem.P.repr_of_str (hsz := hl) ⟨.str _, H, I.tok _, ⟨_, rfl⟩, q⟩
  | _ => cases hd
end
end Rk
namespace Rk
open PySem PySem.Spec PyProof.Rows L2

/-! ### defs that are called where no repr is under way: with that, repr of tuples and lists is known -/
structure FnG (P : Program) (w : World) (K : PySem.W.Frag) (mg : Str → Option Value) (base : Heap) (k : Nat) (f : Addr) (fd : FuncData) (ps : List Str) (sp : Sp) : Prop where
  len : ∀ vs H Q E, sp vs H Q E → vs.length = ps.length
  run : ∀ (A : Around) (outer : List Env) (s : Shared) (H : Hp) (args : Args) (us : List Value) (vs : List V) (Q : VK) (E : XK), A.guards = some [] →
    Room k A → Env0 P w K mg base A outer s H → BindsTo s fd args (ps.zip us) → Vals vs us → sp vs H Q E →
    codeAny (model P w) A (.call (.ref f) args) (CR CX0 outer P w H s Q E) s
section
variable {P : Program} {w : World} {K : PySem.W.Frag} {mg : Str → Option Value} {base : Heap} {k : Nat} {f : Addr} {fd : FuncData} {ps N : List Str} {sp : Sp}
theorem FnG.of (F : FnOk P w K mg base CX0 k f fd ps sp) : FnG P w K mg base k f fd ps sp :=
  ⟨F.len, fun A o s H a us vs Q E _ => F.run A o s H a us vs Q E⟩
theorem FnG.mono {j : Nat} (F : FnG P w K mg base j f fd ps sp) (h : j ≤ k) : FnG P w K mg base k f fd ps sp :=
  ⟨F.len, fun A o s H a us vs Q E hg hr => F.run A o s H a us vs Q E hg (hr.mono h)⟩

theorem FnG.body {x qual : Str} {st : Stmt} (F : Fun K x qual st f fd) (S : FnScope N ps (defScope st)) (len : ∀ vs H Q E, sp vs H Q E → vs.length = ps.length)
    (bd : ∀ (cdv : Value) (A : Around) (outer : List Env) (s : Shared) (H : Hp) (vs : List V) (Q : VK) (E : XK), A.guards = some [] → Room k (A.deeper (envOfC qual (defScope st) s.heap.objs.size f cdv)) → sp vs H Q E →
      ∃ t, PSs (cxOf CX0 P w K mg base N qual (defScope st) f cdv A outer s H E).nox (defBody st) t ∧ t { nx := fun _ H' => Q .non H', rt := Q } (start N vs) H) :
    FnG P w K mg base (k + 1) f fd ps sp := by
  obtain ⟨oc, od, kV, doc, pm, an, cdv, ct, osl, efd, lk, hcd⟩ := F.ex
  subst efd
  refine ⟨len, ?_⟩
  intro A outer s H args us vs Q E gd hr e0 hb r hsp
  have kin : K.In s.heap := e0.mod.kin.keeps (fun b o e => And.left (e0.bs b o e))
  have nol : s.heap.NoLimit := e0.mod.nolimit.keeps (fun b o e => And.left (e0.bs b o e))
  have kinds : ∀ y ∈ ps.zip us, (defScope st).names.lookup y.1 = some .local ∨ ((defScope st).names.lookup y.1 = some .cell ∧ ((cellsFrom (s.heap.objs.size + 1) (defScope st).names []).lookup y.1).isSome = true) := by
    rintro ⟨n, v⟩ hy
    rcases S.par n (List.of_mem_zip hy).1 with q | q
    · exact Or.inl q
    · exact Or.inr ⟨q, PySem.W.cellsFrom_some _ _ _ (Or.inl q)⟩
  refine codeAny_call_function hr.depth (kin _ _ lk) rfl S.co S.gen rfl (PySem.W.codeRec_of kin hcd) (hb _ _ _ _ (wpAny_newFunctionEnv_cells S.kind kinds ?_))
  intro env he s1 x
  subst he
  refine ⟨nol.keeps x.toInCall.keep, codeAny_func ?_⟩
  obtain ⟨t, ht, hq⟩ := bd cdv A outer s H vs Q E gd (hr.deeper _) hsp
  have I : Inv (cxOf CX0 P w K mg base N qual (defScope st) f cdv A outer s H E) [] (start N vs) H s1 := inv_start S hr.hd e0 (len _ _ _ _ hsp) r x
  refine wpAny_mono (ht.nox.run [] s1 (start N vs) H _ I hq) ?_ (fun _ _ z => z)
  intro fl s' hs
  cases fl with
  | brk => exact hs.elim fun _ z => z.elim fun _ z => z.2.elim
  | cont => exact hs.elim fun _ z => z.elim fun _ z => z.2.elim
  | next =>
    obtain ⟨σ', H', J, q⟩ := hs
    exact ⟨V.non, H', J.os, J.bare, J.base, J.hok, rfl, q⟩
  | ret u =>
    obtain ⟨v, σ', H', J, rv, q⟩ := hs
    exact ⟨v, H', J.os, J.bare, J.base, J.hok, rv, q⟩
end

/-! ### a def of the text by its name -/
structure Df (K : PySem.W.Frag) (mg : Str → Option Value) (x : Str) (st : Stmt) (ps : List Str) : Prop where
  ex : ∃ (f : Addr) (fd : FuncData), Fun K x x st f fd ∧ mg x = some (.ref f) ∧ Binds K fd ps []
/-- the def of this name keeps the promise -/
def Has (P : Program) (w : World) (K : PySem.W.Frag) (mg : Str → Option Value) (base : Heap) (k : Nat) (x : Str) (ps : List Str) (sp : Sp) : Prop :=
  ∃ (f : Addr) (fd : FuncData), mg x = some (.ref f) ∧ PySem.W.keepIn K (.ref f) = true ∧ Binds K fd ps [] ∧ FnG P w K mg base k f fd ps sp
section
variable {P : Program} {w : World} {K : PySem.W.Frag} {mg : Str → Option Value} {base : Heap} {k : Nat} {x : Str} {ps N : List Str} {sp : Sp} {st : Stmt}
theorem Df.has (D : Df K mg x st ps) (S : FnScope N ps (defScope st)) (len : ∀ vs H Q E, sp vs H Q E → vs.length = ps.length)
    (bd : ∀ (f : Addr) (cdv : Value) (A : Around) (outer : List Env) (s : Shared) (H : Hp) (vs : List V) (Q : VK) (E : XK), A.guards = some [] → Room k (A.deeper (envOfC x (defScope st) s.heap.objs.size f cdv)) → sp vs H Q E →
      ∃ t, PSs (cxOf CX0 P w K mg base N x (defScope st) f cdv A outer s H E).nox (defBody st) t ∧ t { nx := fun _ H' => Q .non H', rt := Q } (start N vs) H) :
    Has P w K mg base (k + 1) x ps sp := by
  obtain ⟨f, fd, F, m, b⟩ := D.ex
  exact ⟨f, fd, m, F.kp, b, FnG.body F S len (bd f)⟩
end

section
variable {X : Cx} {k : Nat} {ps : List Str} {sp : Sp} {x : Str} {p pos : Pos} {e : Expr} {es : List Expr} {t : TA}
/-- f(e, ..), f a def of the text -/
theorem pe_has (h : Has X.prog X.w X.K X.mg X.base k x ps sp) (hg : X.A.guards = some []) (hr : Room k X.A) (gx : Gl X x) (ha : PA X (e :: es) t) (hdb : (x == ("__debug__" : Str)) = false := by decide)
    (he : starEach (e :: es) X.env = (false, eval e X.env) :: starEach es X.env := by rfl) (hpl : (backTo pos (starEach es X.env)).any (·.1) = false := by rfl) :
    PE X (.Call (.Name x p) (e :: es) [] pos) (tCall sp [] E0 t) := by
  obtain ⟨f, fd, m, kp, b, F⟩ := h
  constructor
  intro pins s σ H Q I hq
  refine wpAny_Call_Name_kw (ld_glob I gx m ?_ hdb)
  refine PySem.W.callWith_K (h₀ := X.base) I.ok.mod.kin kp (thn (ha.run pos pins s σ H _ I hq) ?_) he hpl
  rintro us s1 ⟨vs, H1, I1, r, q⟩
  refine ⟨I1.kIn, ?_⟩
  have q' : sp vs H1 Q E0 := by
    rw [List.append_nil] at q
    exact q
  have hl : us.length = ps.length := r.length.symm.trans (F.len _ _ _ _ q')
  have hb := b s1 us I1.kIn (by rw [List.append_nil]; exact hl)
  rw [List.append_nil] at hb
  refine wpAny_call (codeAny_mono (F.run X.A X.stack s1 H1 ⟨us, []⟩ us vs Q E0 hg hr I1.env0 hb r q') ?_)
  intro res s' z
  cases res with
  | error e => exact z.elim
  | ok fl =>
    cases fl with
    | ret u => exact I1.after z
    | _ => exact z.elim
end

/-! ### repr of data -/
section
variable {X : Cx}
def rRepr (K : PySem.W.Frag) : List V → Hp → VK → Prop := fun xs H Q => ∃ x d, xs = [x] ∧ Dp K H x d ∧ d.showable = true ∧ d.hasDict = false ∧ d.depth ≤ 60 ∧ d.shown.length ≤ sizeLine ∧ Q (.str d.shown) H
theorem call_reprD (hg : X.A.guards = some []) (hu : X.A.units + 64 < cLine) : CallR X (.builtin "repr") (rRepr X.K) := by
  intro pins s σ H xs us Q I r h
  obtain ⟨x, d, rfl, hd, hs, hn, hdp, hl, q⟩ := h
  obtain ⟨u, rfl, rx⟩ := vals1 r
  cases hd with
  | non =>
    cases rx
    exact PySem.P.repr_of_none ⟨.str _, H, I.tok _, ⟨_, rfl⟩, q⟩
  | bl b =>
    cases rx
    exact PySem.P.repr_of_bool ⟨.str _, H, I.tok _, ⟨_, rfl⟩, q⟩
  | int i =>
    obtain ⟨t, rfl⟩ := rx
    exact PySem.P.repr_of_int (by simpa [PyData.showable] using hs) ⟨.str _, H, I.tok _, ⟨_, rfl⟩, q⟩
  | str z =>
    obtain ⟨t, rfl⟩ := rx
    exact PySem.P.repr_of_str (hsz := hl) ⟨.str _, H, I.tok _, ⟨_, rfl⟩, q⟩
  | lst h1 h2 =>
    obtain ⟨as, rd⟩ := Dp.reads I _ _ _ (.lst h1 h2) rx
    cases rx
    exact repr_of_reads' rd hs (PyData.noDict_hsm hn) hg (by omega) (fun _ _ e => e) (fun h' u tk hk => ⟨.str _, H, I.kept (t' := tk) hk, ⟨_, rfl⟩, q⟩) hl
  | tup h1 h2 =>
    obtain ⟨as, rd⟩ := Dp.reads I _ _ _ (.tup h1 h2) rx
    cases rx
    exact repr_of_reads' rd hs (PyData.noDict_hsm hn) hg (by omega) (fun _ _ e => e) (fun h' u tk hk => ⟨.str _, H, I.kept (t' := tk) hk, ⟨_, rfl⟩, q⟩) hl
end
end Rk
namespace Rk
open PySem PySem.Spec PyProof.Rows L2

/-! ### the law's own call -/
/-- from a heap H that tracks the script at most -/
theorem enterG {P : Program} {w : World} {K : PySem.W.Frag} {mg mb : Str → Option Value} {k : Nat} {fa a : Addr} {nm x : Str} {sp : Sp} {s₁ : Shared} {vs : List Value} {H : Hp}
    (KX : K.In s₁.heap) (hns : s₁.heap.Ns mainGlobals mg) (hb : s₁.heap.Ns builtinsNs mb) (hbb : ∀ x : Str, x ≠ "__name__" → mb x = bootBuiltins x) (hlim : s₁.heap.NoLimit) (hg : s₁.gens = #[])
    (ha : s₁.heap.get? a = some { cls := .type "list", data := .seq vs.toArray }) (hr : Room k callerA)
    (F : ∀ base : Heap, K.In base → base.Ns mainGlobals mg → Has P w K mg base k nm [x] sp) (hfa : mg nm = some (.ref fa))
    (hO : Only H) (ok : HOk P w H s₁.heap) (hA : ∀ b, H b ≠ none → b = a) (hK : H a ≠ none → K.lookup a = none) (hsp : sp [.ref a] H (fun v _ => v = .bl true) E0) :
    codeAny (model P w) callerA (.call (.ref fa) ⟨[.ref a], []⟩) (fun r s' => r = .ok (.ret (.bool true)) ∧ OldK s₁.heap s'.heap ∧ s'.os = s₁.os ∧ AllBare s'.gens) s₁ := by
  have dictFree : ∀ {b : Addr} {o : Obj} {es : Array DictEntry} {ep : Nat}, s₁.heap.get? b = some o → o.data = .dict es ep → H b = none := by
    intro b o es ep e d
    cases q : H b with
    | none => rfl
    | some u =>
      have z := hA b (by rw [q]; simp)
      subst z
      rw [ha] at e
      cases e
      exact absurd (show Data.seq vs.toArray _ = Data.dict es ep from d) (fun z => by cases z)
  have nsH : ∀ {b : Addr} {m : Str → Option Value}, s₁.heap.Ns b m → (hidT s₁.heap H).Ns b m := by
    rintro b m ⟨o, es, ep, e, d, r⟩
    exact ⟨o, es, ep, hidT_get e (dictFree e d), d, r⟩
  have kinH : K.In (hidT s₁.heap H) := by
    intro b o e
    refine hidT_get (KX b o e) ?_
    cases q : H b with
    | none => rfl
    | some u =>
      have z := hA b (by rw [q]; simp)
      subst z
      have n := hK (by rw [q]; simp)
      rw [n] at e
      cases e
  obtain ⟨mc, l1, l2⟩ := hlim
  have e0 : Env0 P w K mg (hidT s₁.heap H) callerA [] s₁ H := by
    refine ⟨rfl, ⟨kinH, nsH hns, ⟨mb, nsH hb, hbb⟩, mc, nsH l1, l2⟩, fun b o e => of_hidT e, Nat.le_of_eq (hidT_size _ _), trivial, ?_, ok, .of_eq hg⟩
    intro b z
    exact absurd (show b ∈ ([] : List Addr) from z) (by simp)
  obtain ⟨f, fd, m, kp, bd, F1⟩ := F _ kinH (nsH hns)
  have ef := Option.some.inj (m.symm.trans hfa)
  cases ef
  have run := F1.run callerA [] s₁ H ⟨[.ref a], []⟩ [.ref a] [.ref a] _ _ rfl hr e0 (bd s₁ [.ref a] KX rfl) (.cons rfl .nil) hsp
  refine codeAny_mono run ?_
  intro r s' h
  cases r with
  | error e => exact h.elim
  | ok fl =>
    cases fl with
    | ret u =>
      obtain ⟨v, H', os, bare, un, hok', r', q⟩ := h
      have q' : v = .bl true := q
      subst q'
      obtain rfl : u = Value.bool true := r'
      refine ⟨rfl, OldK.of_keep ?_, os, bare⟩
      intro b o e
      rcases hO b with z | ⟨ob, xs, z⟩
      · exact un.keep b o e z (fun y => absurd (show b ∈ ([] : List Addr) from y) (by simp)) (by simp)
      · have z2 := un.frzs b ob _ z
        have e1 := (ok b _ z).1
        have e2 := (hok' b _ z2).1
        rw [e] at e1
        cases e1
        exact e2
    | _ => exact h.elim

theorem law_callG {P : Program} {w : World} {K : PySem.W.Frag} {mg mb : Str → Option Value} {k : Nat} {fa a : Addr} {nm x : Str} {sp : Sp} {s₁ : Shared} {vs : List Value} {ns : List Int}
    (KX : K.In s₁.heap) (hns : s₁.heap.Ns mainGlobals mg) (hb : s₁.heap.Ns builtinsNs mb) (hbb : ∀ x : Str, x ≠ "__name__" → mb x = bootBuiltins x) (hlim : s₁.heap.NoLimit) (hg : s₁.gens = #[])
    (ha : s₁.heap.get? a = some { cls := .type "list", data := .seq vs.toArray }) (hi : IntsAre vs ns) (hl : ns.length ≤ sizeLine) (hr : Room k callerA)
    (F : ∀ base : Heap, K.In base → base.Ns mainGlobals mg → Has P w K mg base k nm [x] sp) (hfa : mg nm = some (.ref fa))
    (hsp : ∀ H : Hp, Only H → SqL K H a (ns.map V.int) → sp [.ref a] H (fun v _ => v = .bl true) E0) :
    codeAny (model P w) callerA (.call (.ref fa) ⟨[.ref a], []⟩) (fun r s' => r = .ok (.ret (.bool true)) ∧ OldK s₁.heap s'.heap ∧ s'.os = s₁.os ∧ AllBare s'.gens) s₁ := by
  have rv : Vals (ns.map V.int) vs := vals_ints hi
  have lenV : vs.length = ns.length := hi.length
  cases hk : K.lookup a with
  | some o =>
    have e := KX a o hk
    rw [ha] at e
    cases e
    have O : Only (fun _ => none) := fun _ => Or.inl rfl
    refine enterG (H := fun _ => none) KX hns hb hbb hlim hg ha hr F hfa O ?_ (fun b z => absurd rfl z) (fun z => absurd rfl z) (hsp _ O (Or.inr ⟨_, vs.toArray, _, hk, rfl, rfl, rfl, ?_, ?_⟩))
    · intro b u z
      exact absurd (show (none : Option HO) = some u from z) (fun y => by cases y)
    · rw [List.size_toArray, lenV]
      exact hl
    · simpa using rv
  | none =>
    let H : Hp := fun b => if b = a then some (.frz { cls := .type "list", data := .seq vs.toArray } (.lst (ns.map V.int))) else none
    have Ha : H a = some (.frz { cls := .type "list", data := .seq vs.toArray } (.lst (ns.map V.int))) := if_pos rfl
    have Hn : ∀ b, b ≠ a → H b = none := fun b z => if_neg z
    have O : Only H := by
      intro b
      by_cases z : b = a
      · subst z
        exact Or.inr ⟨_, _, Ha⟩
      · exact Or.inl (Hn b z)
    refine enterG (H := H) KX hns hb hbb hlim hg ha hr F hfa O ?_ ?_ (fun _ => hk) (hsp _ O (Or.inl (Or.inr ⟨_, Ha⟩)))
    · intro b u z
      by_cases y : b = a
      · subst y
        rw [Ha] at z
        cases z
        exact ⟨ha, by rw [List.length_map]; exact hl, vs, _, rv, ha⟩
      · rw [Hn b y] at z
        cases z
    · intro b z
      by_cases y : b = a
      · exact y
      · exact absurd (Hn b y) z

theorem walkG {l : PySem.W.OpenLaw} {n k : Nat} {q : Program} {loose : List Str} {XP : (Str → Option Value) → Heap → Prop} {YP : World → Heap → Prop} {d : DefRec} {K : Params → PySem.W.Frag} {sp : PySem.W.Frag → Sp} {x : Str}
    (hn : l.most = some n) (hn2 : n ≤ sizeLine) (hdf : d.params.defaults = []) (hr : Room k callerA) (hY : ∀ (w : World) (h : Heap), YP w h → (K w.params).In h)
    (F : ∀ (w : World) (mg : Str → Option Value) (h : Heap), (K w.params).In h → h.Ns mainGlobals mg → ∀ base : Heap, (K w.params).In base → base.Ns mainGlobals mg → Has l.prog w (K w.params) mg base k d.name [x] (sp (K w.params)))
    (hsp : ∀ (K : PySem.W.Frag) (H : Hp) (a : Addr) (ns : List Int), ns.length ≤ n → Only H → SqL K H a (ns.map V.int) → sp K [.ref a] H (fun v _ => v = .bl true) E0) :
    PySem.W.WalkO q loose XP YP l.row.toRowW d [] (fun f vs => PySem.call f vs) := by
  refine Att.attach_call hn hdf ?_
  intro w s₀ s₁ mg mb fa o pm cd doc a vs ns G Y ho hd hcd hmg hobj hints hlen hg
  exact law_callG (hY w _ Y) G.T.g G.T.b G.T.builtins G.T.nolimit hg hobj hints (Nat.le_trans hlen hn2) hr (F w mg _ (hY w _ Y) G.T.g) hmg (fun H hO hS => hsp _ H a ns hlen hO hS)

/-- the facts of a def of the text, as the head tells them -/
theorem df_mk {K : PySem.W.Frag} {h : Heap} {mg : Str → Option Value} {x : Str} {st : Stmt} {ps : List Str} {f : Addr} {oc : Value} {od an : Option Addr} {osl : Array (Option Value)} {kV doc pm cdv ct : Value} (X : K.In h) (G : h.Ns mainGlobals mg)
    (a : PySem.W.nsIn K mainGlobals x = some (some (.ref f))) (l : K.lookup f = some ⟨oc, od, .func (PySem.W.fnOf x x (defArgs st) (defBody st) (defScope st) .none kV doc pm an cdv ct), osl⟩)
    (c : PySem.W.codeIn K cdv x = true) (k : PySem.W.keepIn K (.ref f) = true)
    (b : ∀ (kV doc pm : Value) (an : Option Addr) (cdv ct : Value) (us : List Value), us.length = ps.length → bindArgs (PySem.W.fnOf x x (defArgs st) (defBody st) (defScope st) .none kV doc pm an cdv ct) ⟨us, []⟩ = pure (ps.zip us)) : Df K mg x st ps :=
  ⟨f, _, fun_mk l c k, PySem.W.mg_of X G a, (fun_mk l c k).binds b⟩
end Rk
namespace Rk
open PySem PySem.Spec PyProof.Rows L2
theorem same_upd {H : Hp} {p : Addr} {o : HO} (hp : H p = none) : Same H (upd H p o) := fun b u e => by
  rw [upd_ne (ne_of_none e hp)]
  exact e
/-! ### zeros at the end -/
def tz (n : Nat) : Nat := if h : n = 0 then 0 else if n % 2 = 0 then tz (n / 2) + 1 else 0
termination_by n
decreasing_by omega
theorem tz_even {n : Nat} (h0 : 0 < n) (h : n % 2 = 0) : tz n = tz (n / 2) + 1 := by
  rw [tz, dif_neg (by omega), if_pos h]
theorem tz_odd {n : Nat} (h : n % 2 = 1) : tz n = 0 := by
  rw [tz, dif_neg (by omega), if_neg (by omega)]
theorem tz_le : ∀ n : Nat, 0 < n → 2 ^ tz n ≤ n := by
  intro n
  induction n using Nat.strongRecOn with
  | ind n ih =>
    intro h0
    by_cases h : n % 2 = 0
    · rw [tz_even h0 h, Nat.pow_succ]
      have := ih (n / 2) (by omega) (by omega)
      omega
    · rw [tz_odd (by omega)]
      omega
theorem tz_lt {n k : Nat} (h0 : 0 < n) (h : n < 2 ^ k) : tz n < k := by
  have h1 := tz_le n h0
  exact (Nat.pow_lt_pow_iff_right (by decide : 1 < 2)).mp (Nat.lt_of_le_of_lt h1 h)
theorem low_bit : ∀ n : Nat, 0 < n → n - (n &&& (n - 1)) = 2 ^ tz n := by
  intro n
  induction n using Nat.strongRecOn with
  | ind n ih =>
    intro h0
    have a1 : (n &&& (n - 1)) / 2 = (n / 2) &&& ((n - 1) / 2) := Nat.and_div_two
    have a3 : ¬ (n &&& (n - 1)) % 2 = 1 := by
      rw [Nat.and_mod_two_eq_one]
      omega
    by_cases h : n % 2 = 0
    · have i := ih (n / 2) (by omega) (by omega)
      rw [tz_even h0 h, Nat.pow_succ, ← i]
      have a2 : (n - 1) / 2 = n / 2 - 1 := by omega
      have le : (n / 2) &&& (n / 2 - 1) ≤ n / 2 := Nat.and_le_left
      rw [a2] at a1
      omega
    · rw [tz_odd (by omega)]
      have a2 : (n - 1) / 2 = n / 2 := by omega
      rw [a2, Nat.and_self] at a1
      omega
theorem low_int {p : Int} (h : 0 < p) : Builtin.bitAnd p (-p) = ((2 ^ tz p.toNat : Nat) : Int) := by
  have e1 : decide (0 ≤ p) = true := decide_eq_true (by omega)
  have e2 : decide (0 ≤ -p) = false := decide_eq_false (by omega)
  have e3 : (Builtin.bitNot (-p)).toNat = p.toNat - 1 := by
    unfold Builtin.bitNot
    omega
  have l := low_bit p.toNat (by omega)
  have le : p.toNat &&& (p.toNat - 1) ≤ p.toNat := Nat.and_le_left
  unfold Builtin.bitAnd
  rw [e1, e2]
  show p - ((p.toNat &&& (Builtin.bitNot (-p)).toNat : Nat) : Int) = _
  rw [e3, ← l]
  omega
theorem bits_pow (k : Nat) : Builtin.Int.intBits ((2 ^ k : Nat) : Int) = k + 1 := by
  have h0 : 0 < 2 ^ k := Nat.pow_pos (by decide)
  unfold Builtin.Int.intBits
  have hz : ¬ (((2 ^ k : Nat) : Int) == 0) = true := by
    intro z
    have := of_decide_eq_true z
    omega
  rw [if_neg hz, Int.natAbs_natCast, Nat.log2_two_pow]
theorem tz_60 {p : Int} (h : 0 < p) (h2 : p ≤ 10 ^ 18) : tz p.toNat < 60 := tz_lt (by omega) (by
  have : p.toNat ≤ 10 ^ 18 := by omega
  exact Nat.lt_of_le_of_lt this (by decide))
theorem SqT.same {K : PySem.W.Frag} {H H' : Hp} {a : Addr} {xs : List V} (e : Same H H') (h : SqT K H a xs) : SqT K H' a xs := by
  rcases h with (h | ⟨o, h⟩) | h
  · exact .inl (.inl (e _ _ h))
  · exact .inl (.inr ⟨o, e _ _ h⟩)
  · exact .inr h
theorem map_at {α : Type} {f : α → V} {xs : List α} {i : Nat} {x : V} (h : (xs.map f)[i]? = some x) : ∃ n, xs[i]? = some n ∧ x = f n := by
  rw [List.getElem?_map] at h
  cases e : xs[i]? with
  | none => rw [e] at h; cases h
  | some n =>
    rw [e] at h
    exact ⟨n, rfl, (Option.some.inj h).symm⟩
end Rk
namespace Rk
open PySem PySem.Spec PyProof.Rows L2

/-! ### static methods, read off the class -/
structure SMet (K : PySem.W.Frag) (C : Addr) (mc : Value) (m : Str) (p f : Addr) : Prop where
  at_ : PySem.W.findCls K (.ref C) mc m = some (.get (.builtin "staticmethod.__get__") (.ref p) .none (.ref C))
  rc : ∃ rest, PySem.W.recIn K p "staticmethod" = some (.ref f :: rest)
  hi : PySem.W.handedIn (.ref f) = true
  kp : PySem.W.keepIn K (.ref f) = true
def tStatic (C : Addr) (sp : Sp) (ta : TE) (t : TA) : TE := fun σ H Q => ta σ H fun x H1 => x = .ref C ∧ t σ H1 fun vs H2 => sp vs H2 Q E0
section
variable {X : Cx} {k : Nat} {C p f : Addr} {mc : Value} {fd : FuncData} {ps : List Str} {sp : Sp} {o e : Expr} {es : List Expr} {m : Str} {pos apos : Pos} {ta : TE} {t : TA} {pl : Sem Bool}
theorem pe_static (he : PE X o ta) (r : ClX.CRead X.K C mc) (c : SMet X.K C mc m p f) (F : FnOk X.prog X.w X.K X.mg X.base CX0 k f fd ps sp) (hb : Binds X.K fd ps []) (hr : Room k X.A) (ha : PA X (e :: es) t)
    (hst : starEach (e :: es) X.env = (false, eval e X.env) :: starEach es X.env := by rfl) (hpl : (backTo pos (starEach es X.env)).any (·.1) = false := by rfl)
    (ht : eval (.Call (.Attribute o m apos) (e :: es) [] pos) X.env = (do
      let ov ← eval o X.env; standAt apos.atName
      let (f, first) ← holding [ov] (getMethod ov m pl); callWith pos f first (backTo pos (starEach (e :: es) X.env)) (backToKw pos (keywordEach [] X.env))) := by rfl) :
    PE X (.Call (.Attribute o m apos) (e :: es) [] pos) (tStatic C sp ta t) := by
  constructor
  intro pins s σ H Q I h
  refine PySem.W.methodCall_KW (pl := pl) (thn (he.run pins s σ H _ I h) ?_) ht
  rintro u s1 ⟨x, H1, I1, rx, ex, q⟩
  subst ex
  obtain rfl : u = Value.ref C := rx
  obtain ⟨rest, hp⟩ := c.rc
  refine PySem.W.method_cls I1.kIn r.ga (PySem.W.cls_bind I1.kIn r.rd c.at_ (wpAny_call (PySem.W.sm_get (s := { s1 with toks := s1.toks + 1 }) I1.kIn hp (PySem.W.handed_on c.hi ?_))))
  have I2 : Inv X pins σ H1 { s1 with toks := s1.toks + 1 } := I1.tok _
  refine PySem.W.callWith_K (first := []) (h₀ := X.base) I2.ok.mod.kin c.kp (thn (ha.run pos pins _ σ H1 _ I2 q) ?_) hst hpl
  rintro us s3 ⟨vs, H2, I3, rv, q2⟩
  exact ⟨I3.kIn, run_fn F hr hb .nil pass0 I3 rv (by rw [List.append_nil]; exact q2)⟩
end

/-! ### C(*y) -/
section
variable {X : Cx} {k : Nat} {f C : Addr} {sp : Sp} {x : Str} {e : Expr} {te : TE} {p sp_ pos : Pos}
def tMakeS (K : PySem.W.Frag) (C : Addr) (sp : Sp) (te : TE) : TE := fun σ H Q => te σ H fun y H1 => ∃ a xs, y = V.ref a ∧ (SqT K H1 a xs ∨ SqL K H1 a xs) ∧ ∀ x dx, H1 x = Option.none → H1 dx = Option.none → dx ≠ x →
  sp (V.ref x :: xs) (upd (upd H1 dx (.own x)) x (.ins C dx [])) (fun v H2 => v = .non ∧ Q (.ref x) H2) E0
theorem pe_makeS (M : Mk X.K C f) (F : FnR X.prog X.w X.K X.mg X.base CX0 k f sp) (hr : Room (k + 1) X.A) (hg : Gl X x) (hm : X.mg x = some (.ref C)) (he : PE X e te) (hd : (x == ("__debug__" : Str)) = false := by decide)
    (hst : starEach [.Starred e sp_] X.env = [(true, eval e X.env)] := by rfl) : PE X (.Call (.Name x p) [.Starred e sp_] [] pos) (tMakeS X.K C sp te) := by
  constructor
  intro pins s σ H Q I h
  refine wpAny_Call_Name_kw (ld_glob I hg hm ?_ hd)
  refine PySem.W.callWith_S (h₀ := X.base) I.ok.mod.kin M.kp (thn (he.run pins s σ H _ I h) ?_) hst
  rintro v s1 ⟨y, H1, I1, ry, a, xs, ey, hxs, q⟩
  subst ey
  obtain rfl : v = Value.ref a := ry
  exact StX.star_any I1 hxs fun us s2 I2 rv => ⟨I2.kIn, StX.run_makeR M F hr pass0 I2 rv q⟩
end

/-! ### program defs, called from anywhere -/
def HasO (P : Program) (w : World) (K : PySem.W.Frag) (mg : Str → Option Value) (base : Heap) (k : Nat) (x : Str) (ps : List Str) (sp : Sp) : Prop :=
  ∃ (f : Addr) (fd : FuncData), mg x = some (.ref f) ∧ PySem.W.keepIn K (.ref f) = true ∧ Binds K fd ps [] ∧ FnOk P w K mg base CX0 k f fd ps sp
section
variable {P : Program} {w : World} {K : PySem.W.Frag} {mg : Str → Option Value} {base : Heap} {k : Nat} {x : Str} {ps N : List Str} {sp : Sp} {st : Stmt}
theorem Df.hasO (D : Df K mg x st ps) (S : FnScope N ps (defScope st)) (len : ∀ vs H Q E, sp vs H Q E → vs.length = ps.length)
    (bd : ∀ (f : Addr) (cdv : Value) (A : Around) (outer : List Env) (s : Shared) (H : Hp) (vs : List V) (Q : VK) (E : XK), Room k (A.deeper (envOfC x (defScope st) s.heap.objs.size f cdv)) → sp vs H Q E →
      ∃ t, PSs (cxOf CX0 P w K mg base N x (defScope st) f cdv A outer s H E).nox (defBody st) t ∧ t { nx := fun _ H' => Q .non H', rt := Q } (start N vs) H) :
    HasO P w K mg base (k + 1) x ps sp := by
  obtain ⟨f, fd, F, m, b⟩ := D.ex
  exact ⟨f, fd, m, F.kp, b, F.ok S len (bd f)⟩
end
section
variable {X : Cx} {k : Nat} {ps : List Str} {sp : Sp} {x : Str} {p pos : Pos} {e : Expr} {es : List Expr} {t : TA}
theorem pe_hasO (h : HasO X.prog X.w X.K X.mg X.base k x ps sp) (hr : Room k X.A) (gx : Gl X x) (ha : PA X (e :: es) t) (hdb : (x == ("__debug__" : Str)) = false := by decide)
    (he : starEach (e :: es) X.env = (false, eval e X.env) :: starEach es X.env := by rfl) (hpl : (backTo pos (starEach es X.env)).any (·.1) = false := by rfl) :
    PE X (.Call (.Name x p) (e :: es) [] pos) (tCall sp [] E0 t) := by
  obtain ⟨f, fd, m, kp, b, F⟩ := h
  exact pe_call F hr gx m kp b .nil pass0 ha hdb he hpl
end
end Rk
namespace Rk
open PySem PySem.Spec PyProof.Rows L2
def top (i : Nat) : Stmt := PySem.Challenge.pw_rulerkeep_k01_ranks_of_points.main.body.getD i (.Pass ⟨0, 0, 0, 0⟩)
/-! ### the law's draws: a pot, a number out of it, an item of a list -/
def PotAt (H : Hp) (a : Addr) (n : Nat) : Prop := ∃ g s c : Int, H a = some (.lst [.int g, .int s, .int c]) ∧ 0 ≤ s ∧ s < 2 ^ 62 ∧ 0 ≤ c ∧ c ≤ n
/-- all but what stands at a is as it was -/
def But (a : Addr) (H H' : Hp) : Prop := ∀ b o, H b = some o → b ≠ a → H' b = some o
theorem But.refl {a : Addr} {H : Hp} : But a H H := fun _ _ e _ => e
theorem But.trans {a : Addr} {H H1 H2 : Hp} (x : But a H H1) (y : But a H1 H2) : But a H H2 := fun b o e ne => y b o (x b o e ne) ne
theorem But.of {a : Addr} {H H1 : Hp} (x : Same H H1) : But a H H1 := fun b o e _ => x b o e
theorem But.seq {a b : Addr} {K : PySem.W.Frag} {H H' : Hp} {xs : List V} (x : But a H H') (ne : b ≠ a) (h : SqL K H b xs) : SqL K H' b xs := by
  rcases h with (h | ⟨o, h⟩) | h
  · exact .inl (.inl (x _ _ h ne))
  · exact .inl (.inr ⟨o, x _ _ h ne⟩)
  · exact .inr h
theorem But.tup {a b : Addr} {K : PySem.W.Frag} {H H' : Hp} {xs : List V} (x : But a H H') (ne : b ≠ a) (h : SqT K H b xs) : SqT K H' b xs := by
  rcases h with (h | ⟨o, h⟩) | h
  · exact .inl (.inl (x _ _ h ne))
  · exact .inl (.inr ⟨o, x _ _ h ne⟩)
  · exact .inr h
theorem PotAt.mono {H : Hp} {a : Addr} {n m : Nat} (p : PotAt H a n) (h : n ≤ m) : PotAt H a m := by
  obtain ⟨g, s, c, e, h1, h2, h3, h4⟩ := p
  exact ⟨g, s, c, e, h1, h2, h3, by omega⟩
theorem PotAt.same {H H' : Hp} {a : Addr} {n : Nat} (p : PotAt H a n) (h : Same H H') : PotAt H' a n := by
  obtain ⟨g, s, c, e, r⟩ := p
  exact ⟨g, s, c, h _ _ e, r⟩
theorem PotAt.but {H H' : Hp} {a b : Addr} {n : Nat} (p : PotAt H a n) (h : But b H H') (ne : a ≠ b) : PotAt H' a n := by
  obtain ⟨g, s, c, e, r⟩ := p
  exact ⟨g, s, c, h _ _ e ne, r⟩
theorem PotAt.ne {H : Hp} {a p : Addr} {n : Nat} (h : PotAt H a n) (hp : H p = none) : a ≠ p := by
  obtain ⟨g, s, c, e, _⟩ := h
  exact ne_of_none e hp
theorem PotAt.upd {H : Hp} {a b : Addr} {n : Nat} {o : HO} (p : PotAt H a n) (ne : a ≠ b) : PotAt (upd H b o) a n := by
  obtain ⟨g, s, c, e, r⟩ := p
  exact ⟨g, s, c, by rw [upd_ne ne]; exact e, r⟩
theorem But.new {a F : Addr} {H H' : Hp} {o : HO} (x : But a H H') (hF : H F = none) : But a H (L2.upd H' F o) := fun b u e ne => by
  rw [upd_ne (ne_of_none e hF)]
  exact x b u e ne
theorem But.free {a r : Addr} {n : Nat} {H H' : Hp} (x : But a H H') (p : PotAt H' a n) (h : H' r = none) : H r = none := by
  cases e : H r with
  | none => rfl
  | some o =>
    by_cases z : r = a
    · obtain ⟨g, s, c, e', _⟩ := p
      rw [z, e'] at h
      cases h
    · rw [x r o e z] at h
      cases h
def spTake : Sp := fun vs H Q _ => ∃ (a : Addr) (n : Nat) (z : Int), vs = [.ref a, .int z] ∧ PotAt H a n ∧ n < 1000000 ∧ 0 < z ∧ z.natAbs < 2 ^ 600 ∧
  ∀ (d : Int) (H' : Hp), 0 ≤ d → d < z → PotAt H' a (n + 1) → But a H H' → Q (.int d) H'
def spPick (K : PySem.W.Frag) : Sp := fun vs H Q _ => ∃ (a b : Addr) (n : Nat) (xs : List V), vs = [.ref a, .ref b] ∧ PotAt H a n ∧ n < 1000000 ∧ SqL K H b xs ∧ b ≠ a ∧ 0 < xs.length ∧ xs.length ≤ 1000 ∧
  ∀ (v : V) (H' : Hp), v ∈ xs → PotAt H' a (n + 1) → But a H H' → Q v H'
def spPot (K : PySem.W.Frag) : Sp := fun vs H Q _ => ∃ (a : Addr) (ns : List Int) (k : Nat), vs = [.ref a, .int k] ∧ SqL K H a (ns.map V.int) ∧ ns.length ≤ 63 ∧ k ≤ 100 ∧
  ∀ (p : Addr) (H' : Hp), H p = none → Same H H' → PotAt H' p 0 → Q (.ref p) H'
theorem primes_at {i : Int} (h0 : 0 ≤ i) (h1 : i < 5) : ∃ p : Int, atI [V.int 2147483647, V.int 2147483629, V.int 2147483587, V.int 2147483579, V.int 2147483563] i = some (.int p) ∧ 0 < p ∧ p < 2 ^ 31 := by
  have h : i = 0 ∨ i = 1 ∨ i = 2 ∨ i = 3 ∨ i = 4 := by omega
  rcases h with rfl | rfl | rfl | rfl | rfl
  · exact ⟨_, rfl, by decide, by decide⟩
  · exact ⟨_, rfl, by decide, by decide⟩
  · exact ⟨_, rfl, by decide, by decide⟩
  · exact ⟨_, rfl, by decide, by decide⟩
  · exact ⟨_, rfl, by decide, by decide⟩
theorem pow_room {s c : Int} (h1 : 0 ≤ s) (h2 : s < 2 ^ 62) (h3 : 0 ≤ c) (h4 : c ≤ 1000000) : (s + 40009 * c * c + 31).natAbs < 2 ^ 64 := by
  have e : 40009 * c * c ≤ 40009 * 1000000 * 1000000 := by
    have a1 : 40009 * c ≤ 40009 * 1000000 := by omega
    exact Int.mul_le_mul a1 h4 h3 (by decide)
  have e0 : 0 ≤ 40009 * c * c := Int.mul_nonneg (by omega) h3
  omega
theorem iteF' {A B : Prop} (h : B) : if false = true then A else B := iteF h
structure Bl (mg : Str → Option Value) : Prop where
  len : mg "len" = none
  abs : mg "abs" = none
  min : mg "min" = none
  max : mg "max" = none
  range : mg "range" = none
  all : mg "all" = none
  any : mg "any" = none
  repr : mg "repr" = none
  tuple : mg "tuple" = none
  list : mg "list" = none
  sorted : mg "sorted" = none
  enumerate : mg "enumerate" = none
  zip : mg "zip" = none
  isinstance : mg "isinstance" = none
  int : mg "int" = none
  bool : mg "bool" = none
  sum : mg "sum" = none
theorem cdiv89 : CDivW x 89 := wide_div (b := 7) (by decide) (by decide) (by decide) (by decide)
theorem log2_600 {z : Int} (h : 0 < z) (h2 : z.natAbs < 2 ^ 600) {x : Int} : CDivW x z := wide_div (b := 600) h h2 (by decide) (by decide)
theorem three_of (L : Nat) : ∃ n : Nat, (if (if (L : Int) < 3 then (L : Int) else 3) > 1 then (if (L : Int) < 3 then (L : Int) else 3) else 1) = (n : Int) ∧ 1 ≤ n ∧ n ≤ 3 := by
  by_cases h : (L : Int) < 3
  · rw [if_pos h]
    by_cases h1 : (L : Int) > 1
    · rw [if_pos h1]
      exact ⟨L, rfl, by omega, by omega⟩
    · rw [if_neg h1]
      exact ⟨1, rfl, by omega, by omega⟩
  · rw [if_neg h]
    exact ⟨3, rfl, by omega, by omega⟩
abbrev s_law_take : Stmt := (top 4)
abbrev N_law_take : List Str := ["_law_pot_here", "_law_size", "_law_digit", "_law_prime", "_law_mixed"]
theorem sc_law_take : FnScope N_law_take ["_law_pot_here", "_law_size"] (defScope s_law_take) :=
  ⟨rfl, rfl, rfl, by decide +kernel, rfl, by decide +kernel, by decide +kernel⟩
abbrev s_law_pick : Stmt := (top 5)
abbrev N_law_pick : List Str := ["_law_pot_here", "_law_some"]
theorem sc_law_pick : FnScope N_law_pick ["_law_pot_here", "_law_some"] (defScope s_law_pick) :=
  ⟨rfl, rfl, rfl, by decide +kernel, rfl, by decide +kernel, by decide +kernel⟩
abbrev s_law_pot : Stmt := (top 3)
abbrev N_law_pot : List Str := ["_law_script", "_law_k", "_law_cell", "_law_great"]
theorem sc_law_pot : FnScope N_law_pot ["_law_script", "_law_k"] (defScope s_law_pot) :=
  ⟨rfl, rfl, rfl, by decide +kernel, rfl, by decide +kernel, by decide +kernel⟩
section
variable {P : Program} {w : World} {K : PySem.W.Frag} {mg : Str → Option Value} {base : Heap}
theorem ok_take (D : Df K mg "_law_take" s_law_take ["_law_pot_here", "_law_size"]) (T : Bl mg) : Has P w K mg base 1 "_law_take" ["_law_pot_here", "_law_size"] spTake := by
  refine D.has sc_law_take (fun vs H Q E h => ?_) (fun f cdv A outer s H vs Q E gd hr h => ?_)
  · obtain ⟨a, n, z, rfl, _⟩ := h
    rfl
  · obtain ⟨a, n, z, rfl, ⟨g, sd, c, hp, hs0, hs1, hc0, hc1⟩, hn, hz, hz2, k⟩ := h
    refine ⟨_, (pss_cons (ps_if (pt_cmpR op_gt (pe_ix ix_list (pv 0) pe_int (fun _ _ => rfl)) pe_int (nomark _)) (pss_cons (ps_set (i := 2) sc_law_take.nd rfl (Or.inl rfl) (pe_op op_mod (pe_ix ix_list (pv 0) pe_int (fun _ _ => rfl)) (pv 1)))
      (pss_cons (ps_asg (pe_op op_fdivW (pe_ix ix_list (pv 0) pe_int (fun _ _ => rfl)) (pv 1)) (pg_sub (pv 0) pe_int set_list))
      (pss_one (ps_ret (pv 2))))) pss_nil)
      (pss_cons (ps_asg (pe_op op_add (pe_ix ix_list (pv 0) pe_int (fun _ _ => rfl)) pe_int) (pg_sub (pv 0) pe_int set_list))
      (pss_cons (ps_set (i := 3) sc_law_take.nd rfl (Or.inl rfl) (pe_ix ix_list (pe_lst (pa_cons pe_int (pa_cons pe_int (pa_cons pe_int (pa_cons pe_int (pa_cons pe_int pa_nil)))))) (pe_op op_mod (pe_ix ix_list (pv 0) pe_int (fun _ _ => rfl)) pe_int) (fun _ _ => rfl)))
      (pss_cons (ps_set (i := 4) sc_law_take.nd rfl (Or.inl rfl) (pe_op op_mod (pe_op op_pow (pe_op op_add (pe_op op_add (pe_ix ix_list (pv 0) pe_int (fun _ _ => rfl)) (pe_op op_mul (pe_op op_mul pe_int (pe_ix ix_list (pv 0) pe_int (fun _ _ => rfl))) (pe_ix ix_list (pv 0) pe_int (fun _ _ => rfl)))) pe_int) pe_int) (pv 3)))
      (pss_one (ps_ret (pe_op op_mod (pe_op op_fdivW (pe_op op_mod (pe_op op_mul (pv 4) (pe_op op_add (pe_op op_mod (pv 4) pe_int) (pe_op op_mul pe_int (pe_ix ix_list (pv 0) pe_int (fun _ _ => rfl))))) pe_int) pe_int) (pv 1)))))))), ?_⟩
    refine ⟨_, rfl, a, _, _, _, rfl, rfl, SqL.of hp, rfl, _, _, rfl, rfl, _, rfl, ?_⟩
    refine ite2 (fun _ => ?_) (fun _ => ?_)
    · refine ⟨_, rfl, a, _, _, _, rfl, rfl, SqL.of hp, rfl, _, rfl, _, _, rfl, rfl, hz, _, rfl, a, _, _, _, rfl, rfl, SqL.of hp, rfl, _, rfl, _, _, rfl, rfl, log2_600 hz hz2, _, rfl, a, _, _, 0, rfl, rfl, hp, rfl, _, rfl, ?_⟩
      exact k _ _ (Int.emod_nonneg _ (by omega)) (Int.emod_lt_of_pos _ hz) ⟨_, sd, c, upd_same, hs0, hs1, hc0, by omega⟩ (fun b o e ne => by rw [upd_ne ne]; exact e)
    · refine ⟨_, rfl, a, _, _, _, rfl, rfl, SqL.of hp, rfl, _, _, rfl, rfl, _, rfl, a, _, _, 2, rfl, rfl, hp, rfl, by decide, fun l hl => ?_⟩
      have nl : a ≠ l := ne_of_none upd_same hl
      have hp2 : ∀ o, upd (upd H a (.lst [.int g, .int sd, .int (c + 1)])) l o a = some (.lst [.int g, .int sd, .int (c + 1)]) := fun o => by
        rw [upd_ne nl]
        exact upd_same
      obtain ⟨p, hat, hp0, hp1⟩ := primes_at (i := (c + 1) % 5) (Int.emod_nonneg _ (by decide)) (Int.emod_lt_of_pos _ (by decide))
      refine ⟨_, rfl, a, _, _, _, rfl, rfl, SqL.of (hp2 _), rfl, _, _, rfl, rfl, (by show (0 : Int) < 5; decide), l, _, _, _, rfl, rfl, SqL.of upd_same, hat, ?_⟩
      refine ⟨_, rfl, a, _, _, _, rfl, rfl, SqL.of (hp2 _), rfl, _, rfl, a, _, _, _, rfl, rfl, SqL.of (hp2 _), rfl, _, _, rfl, rfl, .inl ⟨by decide, by decide⟩, _, rfl, a, _, _, _, rfl, rfl, SqL.of (hp2 _), rfl, _, _, rfl, rfl, .inl ⟨by omega, by omega⟩,
        _, _, rfl, rfl, _, _, rfl, rfl, _, _, rfl, rfl, ⟨by decide, by decide, pow_room hs0 hs1 (by omega) (by omega)⟩, _, rfl, _, _, rfl, rfl, hp0, ?_⟩
      generalize em : ((sd + 40009 * (c + 1) * (c + 1) + 31) ^ (Int.toNat 3) % p) = m
      have m0 : 0 ≤ m := by rw [← em]; exact Int.emod_nonneg _ (by omega)
      have m1 : m < 2 ^ 31 := by have := Int.emod_lt_of_pos ((sd + 40009 * (c + 1) * (c + 1) + 31) ^ (Int.toNat 3)) hp0; omega
      refine ⟨_, rfl, _, rfl, _, _, rfl, rfl, (by show (0 : Int) < 10009; decide), _, rfl, a, _, _, _, rfl, rfl, SqL.of (hp2 _), rfl, _, _, rfl, rfl, .inl ⟨by decide, by decide⟩, _, _, rfl, rfl, _, _, rfl, rfl, .inl ⟨by omega, by omega⟩,
        _, _, rfl, rfl, (by show (0 : Int) < 2305843009213693907; decide), _, _, rfl, rfl, cdiv89, _, rfl, _, _, rfl, rfl, hz, ?_⟩
      refine k _ _ (Int.emod_nonneg _ (by omega)) (Int.emod_lt_of_pos _ hz) ⟨g, sd, c + 1, hp2 _, hs0, hs1, by omega, by omega⟩ (fun b o e ne => ?_)
      have hl' : H l = none := by
        rw [upd_ne nl.symm] at hl
        exact hl
      rw [upd_ne (ne_of_none e hl'), upd_ne ne]
      exact e
theorem ok_pick (D : Df K mg "_law_pick" s_law_pick ["_law_pot_here", "_law_some"]) (T : Bl mg) (C_law_take : Has P w K mg base 1 "_law_take" ["_law_pot_here", "_law_size"] spTake) : Has P w K mg base 2 "_law_pick" ["_law_pot_here", "_law_some"] (spPick K) := by
  refine D.has sc_law_pick (fun vs H Q E h => ?_) (fun f cdv A outer s H vs Q E gd hr h => ?_)
  · obtain ⟨a, b, n, xs, rfl, _⟩ := h
    rfl
  · obtain ⟨a, b, n, xs, rfl, hp, hn, hx, ne, h0, h1, k⟩ := h
    refine ⟨_, (pss_one (ps_ret (pe_ix ix_list (pv 1) (pe_has C_law_take gd (hr.mono (by decide)) rfl (pa_cons (pv 0) (pa_cons (pe_callB call_len_seq (by rfl) T.len PySem.boot_len (pa_cons (pv 1) pa_nil)) pa_nil))) (fun _ _ => rfl)))), ?_⟩
    refine ⟨_, rfl, _, rfl, _, rfl, b, _, rfl, .inl hx, a, n, _, rfl, hp, hn, (by omega), ?_, fun d H' d0 d1 hp' bt => ?_⟩
    · exact Nat.lt_of_le_of_lt (show ((xs.length : Int)).natAbs ≤ 1000 by omega) (by decide)
    · have hi : d.toNat < xs.length := by omega
      refine ⟨b, _, _, xs[d.toNat], rfl, rfl, bt.seq ne hx, at_of (j := d.toNat) (by omega) (List.getElem?_eq_getElem hi), ?_⟩
      exact k _ H' (List.getElem_mem hi) hp' bt
theorem ok_pot (D : Df K mg "_law_pot" s_law_pot ["_law_script", "_law_k"]) (T : Bl mg) : Has P w K mg base 1 "_law_pot" ["_law_script", "_law_k"] (spPot K) := by
  refine D.has sc_law_pot (fun vs H Q E h => ?_) (fun f cdv A outer s H vs Q E gd hr h => ?_)
  · obtain ⟨a, ns, i, rfl, _⟩ := h
    rfl
  · obtain ⟨a, ns, i, rfl, hS, hl, hi, k⟩ := h
    refine ⟨_, (pss_cons (ps_set (i := 2) sc_law_pot.nd rfl (Or.inl rfl) (pe_ifExp (pt_cmpR op_lt (pv 1) (pe_callB call_len_seq (by rfl) T.len PySem.boot_len (pa_cons (pv 0) pa_nil)) (nomark _)) (pe_ix ix_list (pv 0) (pv 1) (fun _ _ => rfl)) (pe_op op_add (pe_op op_mul pe_int (pv 1)) pe_int)))
      (pss_cons (ps_set (i := 3) sc_law_pot.nd rfl (Or.inl rfl) (pe_ifExp (pt_cmpR op_ge (pe_callB call_abs (by rfl) T.abs (by decide +kernel) (pa_cons (pv 2) pa_nil)) (pe_op op_pow pe_int pe_int) (nomark _)) (pe_op op_mod (pe_callB call_abs (by rfl) T.abs (by decide +kernel) (pa_cons (pv 2) pa_nil)) (pe_op op_powB (pe_op op_pow pe_int pe_int) pe_int)) pe_int))
      (pss_one (ps_ret (pe_lst (pa_cons (pv 3) (pa_cons (pe_op op_mod (pe_op op_add (pe_op op_add (pe_op op_mul (pe_op op_mod (pv 2) pe_int) pe_int) (pe_op op_mul (pe_op op_mul pe_int (pv 1)) (pv 1))) pe_int) pe_int) (pa_cons pe_int pa_nil)))))))), ?_⟩
    have done : ∀ (cell great : Int) (H0 : Hp) (p : Addr), H p = none → Same H H0 → H0 p = none → Q (.ref p) (upd H0 p (.lst [.int great, .int ((cell % 2305843009213693951 * 69621 + 104729 * (i : Int) * (i : Int) + 71) % 2305843009213693921), .int 0])) := by
      intro cell great H0 p hp sm hp0
      refine k p _ hp (sm.trans (same_upd hp0)) ⟨_, _, _, upd_same, Int.emod_nonneg _ (by decide), ?_, Int.le_refl _, Int.le_refl _⟩
      exact Int.lt_trans (Int.emod_lt_of_pos _ (by decide)) (by decide)
    refine ⟨_, rfl, _, rfl, a, _, rfl, .inl hS, _, _, rfl, rfl, _, rfl, ?_⟩
    refine ite2 (fun hlt => ?_) (fun hge => ?_)
    · have hi2 : i < ns.length := by
        have := of_decide_eq_true hlt
        rw [List.length_map] at this
        omega
      refine ⟨_, rfl, _, rfl, a, _, _, _, rfl, rfl, hS, atI_nat (v := V.int ns[i]) (by rw [List.getElem?_map, List.getElem?_eq_getElem hi2]; rfl), ?_⟩
      refine ⟨_, rfl, _, rfl, _, _, rfl, rfl, ⟨by decide, by decide, by decide⟩, _, _, rfl, rfl, _, rfl, ?_⟩
      refine ite2 (fun _ => ?_) (fun _ => ?_)
      · refine ⟨_, rfl, _, rfl, _, _, rfl, rfl, ⟨by decide, by decide, by decide⟩, _, _, rfl, rfl, ⟨by decide, by decide +kernel⟩, _, _, rfl, rfl, Int.pow_pos (Int.pow_pos (by decide)), ?_⟩
        refine ⟨_, rfl, _, rfl, _, _, rfl, rfl, (by show (0 : Int) < 2305843009213693951; decide), _, _, rfl, rfl, .inr ⟨by decide, by decide⟩, _, rfl, _, _, rfl, rfl, .inl ⟨by decide, by decide⟩, _, rfl, _, _, rfl, rfl, .inl ⟨by omega, by omega⟩,
          _, _, rfl, rfl, _, _, rfl, rfl, _, _, rfl, rfl, (by show (0 : Int) < 2305843009213693921; decide), by show 3 ≤ sizeLine; decide, fun p hp => ?_⟩
        exact done _ _ _ p hp (Same.refl _) hp
      · refine ⟨_, rfl, _, rfl, _, _, rfl, rfl, (by show (0 : Int) < 2305843009213693951; decide), _, _, rfl, rfl, .inr ⟨by decide, by decide⟩, _, rfl, _, _, rfl, rfl, .inl ⟨by decide, by decide⟩, _, rfl, _, _, rfl, rfl, .inl ⟨by omega, by omega⟩,
          _, _, rfl, rfl, _, _, rfl, rfl, _, _, rfl, rfl, (by show (0 : Int) < 2305843009213693921; decide), by show 3 ≤ sizeLine; decide, fun p hp => ?_⟩
        exact done _ _ _ p hp (Same.refl _) hp
    · refine ⟨_, rfl, _, _, rfl, rfl, .inl ⟨by decide, by decide⟩, _, _, rfl, rfl, ?_⟩
      refine ⟨_, rfl, _, rfl, _, _, rfl, rfl, ⟨by decide, by decide, by decide⟩, _, _, rfl, rfl, _, rfl, ?_⟩
      refine ite2 (fun _ => ?_) (fun _ => ?_)
      · refine ⟨_, rfl, _, rfl, _, _, rfl, rfl, ⟨by decide, by decide, by decide⟩, _, _, rfl, rfl, ⟨by decide, by decide +kernel⟩, _, _, rfl, rfl, Int.pow_pos (Int.pow_pos (by decide)), ?_⟩
        refine ⟨_, rfl, _, rfl, _, _, rfl, rfl, (by show (0 : Int) < 2305843009213693951; decide), _, _, rfl, rfl, .inr ⟨by decide, by decide⟩, _, rfl, _, _, rfl, rfl, .inl ⟨by decide, by decide⟩, _, rfl, _, _, rfl, rfl, .inl ⟨by omega, by omega⟩,
          _, _, rfl, rfl, _, _, rfl, rfl, _, _, rfl, rfl, (by show (0 : Int) < 2305843009213693921; decide), by show 3 ≤ sizeLine; decide, fun p hp => ?_⟩
        exact done _ _ _ p hp (Same.refl _) hp
      · refine ⟨_, rfl, _, rfl, _, _, rfl, rfl, (by show (0 : Int) < 2305843009213693951; decide), _, _, rfl, rfl, .inr ⟨by decide, by decide⟩, _, rfl, _, _, rfl, rfl, .inl ⟨by decide, by decide⟩, _, rfl, _, _, rfl, rfl, .inl ⟨by omega, by omega⟩,
          _, _, rfl, rfl, _, _, rfl, rfl, _, _, rfl, rfl, (by show (0 : Int) < 2305843009213693921; decide), by show 3 ≤ sizeLine; decide, fun p hp => ?_⟩
        exact done _ _ _ p hp (Same.refl _) hp
end
abbrev s_rank : Stmt := (top 1)
abbrev N_rank : List Str := ["point"]
theorem sc_rank : FnScope N_rank ["point"] (defScope s_rank) :=
  ⟨rfl, rfl, rfl, by decide +kernel, rfl, by decide +kernel, by decide +kernel⟩
abbrev s_law_zeros : Stmt := (top 6)
abbrev N_law_zeros : List Str := ["_law_point", "_law_count"]
theorem sc_law_zeros : FnScope N_law_zeros ["_law_point"] (defScope s_law_zeros) :=
  ⟨rfl, rfl, rfl, by decide +kernel, rfl, by decide +kernel, by decide +kernel⟩
abbrev s_law_asked : Stmt := (top 7)
abbrev N_law_asked : List Str := ["_law_point", "_law_due"]
theorem sc_law_asked : FnScope N_law_asked ["_law_point"] (defScope s_law_asked) :=
  ⟨rfl, rfl, rfl, by decide +kernel, rfl, by decide +kernel, by decide +kernel⟩
abbrev s_law_right : Stmt := (top 8)
abbrev N_law_right : List Str := ["_law_pot_here", "_law_turn", "_law_zeros_here", "_law_odd", "_law_point"]
theorem sc_law_right : FnScope N_law_right ["_law_pot_here"] (defScope s_law_right) :=
  ⟨rfl, rfl, rfl, by decide +kernel, rfl, by decide +kernel, by decide +kernel⟩
abbrev s_law : Stmt := (top 9)
abbrev N_law : List Str := ["_law_script", "_law_point", "_law_k"]
theorem sc_law : FnScope N_law ["_law_script"] (defScope s_law) :=
  ⟨rfl, rfl, rfl, by decide +kernel, rfl, by decide +kernel, by decide +kernel⟩
def spRank : Sp := fun vs H Q _ => ∃ p : Int, vs = [.int p] ∧ 0 ≤ p ∧ Q (if p = 0 then .non else .int (tz p.toNat : Nat)) H
def spZeros : Sp := fun vs H Q _ => ∃ p : Int, vs = [.int p] ∧ 0 ≤ p ∧ Q (.int (if p = 0 then 1000 else (tz p.toNat : Nat))) H
def spAsked : Sp := fun vs H Q _ => ∃ p : Int, vs = [.int p] ∧ 0 ≤ p ∧ p ≤ 10 ^ 18 ∧ Q (.bl true) H
def spRight : Sp := fun vs H Q _ => ∃ (a : Addr), vs = [.ref a] ∧ PotAt H a 0 ∧ ∀ H', But a H H' → Q (.bl true) H'
def spLaw (K : PySem.W.Frag) : Sp := fun vs H Q _ => ∃ (a : Addr) (ns : List Int), vs = [.ref a] ∧ SqL K H a (ns.map V.int) ∧ ns.length ≤ 63 ∧ ∀ H', Q (.bl true) H'
theorem shownInt {i : Int} (h : i.natAbs.log2 < 1920) : (PyData.int i).shown.length ≤ sizeLine := int_text_fits h
section
variable {P : Program} {w : World} {K : PySem.W.Frag} {mg : Str → Option Value} {base : Heap}
theorem ok_rank (D : Df K mg "rank" s_rank ["point"]) : HasO P w K mg base 1 "rank" ["point"] spRank := by
  refine D.hasO sc_rank (fun vs H Q E h => ?_) (fun f cdv A outer s H vs Q E hr h => ?_)
  · obtain ⟨p, rfl, _⟩ := h
    rfl
  · obtain ⟨p, rfl, h0, k⟩ := h
    refine ⟨_, (pss_cons (ps_if (pt_cmpR op_eq (pv 0) pe_int (nomark _)) (pss_one (ps_ret pe_non)) pss_nil)
      (pss_one (ps_ret (pe_op op_sub (pe_bits (pe_op op_and (pv 0) (pe_un un_neg (pv 0)))) pe_int)))), ?_⟩
    refine ⟨_, rfl, rfl, _, rfl, ?_⟩
    refine ite2 (fun hz => ?_) (fun hz => ?_)
    · have e : p = 0 := by simpa using of_decide_eq_true hz
      rw [if_pos e] at k
      exact k
    · have e : ¬ p = 0 := fun z => hz (decide_eq_true (by rw [z]))
      rw [if_neg e] at k
      refine ⟨_, rfl, _, rfl, _, rfl, _, _, rfl, rfl, _, rfl, _, _, rfl, rfl, ?_⟩
      show Q (.int (((Builtin.Int.intBits (Builtin.bitAnd p (-p)) : Nat) : Int) - 1)) H
      rw [low_int (by omega), bits_pow]
      have e2 : (((tz p.toNat + 1 : Nat) : Int)) - 1 = ((tz p.toNat : Nat) : Int) := by omega
      rw [e2]
      exact k
theorem ok_zeros (D : Df K mg "_law_zeros" s_law_zeros ["_law_point"]) : Has P w K mg base 1 "_law_zeros" ["_law_point"] spZeros := by
  refine D.has sc_law_zeros (fun vs H Q E h => ?_) (fun f cdv A outer s H vs Q E gd hr h => ?_)
  · obtain ⟨p, rfl, _⟩ := h
    rfl
  · obtain ⟨p, rfl, h0, k⟩ := h
    refine ⟨_, (pss_cons (ps_set (i := 1) sc_law_zeros.nd rfl (Or.inl rfl) pe_int)
      (pss_cons (ps_while PassesOwn.never (PW.pt (pw_and (pt_cmpR op_gt (pv 0) pe_int (nomark _)) (pw_and1 (pt_cmpR op_eq (pe_op op_mod (pv 0) pe_int) pe_int (nomark _))))) (pss_one (ps_par (i := 0) (j := 1) rfl sc_law_zeros.nd rfl rfl (by decide) rfl rfl (pa_cons (pe_op op_fdivW (pv 0) pe_int) (pa_cons (pe_op op_add (pv 1) pe_int) pa_nil)) (by rfl))))
      (pss_one (ps_ret (pe_ifExp (pt_cmpR op_gt (pv 0) pe_int (nomark _)) (pv 1) pe_int))))), ?_⟩
    refine ⟨fun m σ H' => H' = H ∧ ∃ (q c : Int), σ = [some (.int q), some (.int c)] ∧ 0 ≤ q ∧ 0 ≤ c ∧ m = q.toNat ∧ (q = 0 ↔ p = 0) ∧ (0 < p → ((tz p.toNat : Nat) : Int) = ((tz q.toNat : Nat) : Int) + c), ⟨_, rfl, p, 0, rfl, h0, Int.le_refl _, rfl, Iff.rfl, fun _ => by omega⟩, ?_⟩
    rintro m σ H' ⟨rfl, q, c, rfl, hq, hc, rfl, hz, ht⟩
    refine ⟨_, rfl, _, _, rfl, rfl, _, rfl, ?_⟩
    refine ite2 (fun hp => ?_) (fun hp => ?_)
    · have hp' : 0 < q := of_decide_eq_true hp
      refine ⟨_, rfl, _, _, rfl, rfl, (by show (0 : Int) < 2; decide), rfl, _, rfl, ?_⟩
      refine ite2 (fun he => ?_) (fun he => ?_)
      · have he' : q % 2 = 0 := by simpa using of_decide_eq_true he
        refine ⟨fun σ' H'' => H'' = H' ∧ ∃ (r d : Int), σ' = [some (.int r), some (.int d)] ∧ 0 ≤ r ∧ 0 ≤ d ∧ r.toNat < q.toNat ∧ (r = 0 ↔ p = 0) ∧ (0 < p → ((tz p.toNat : Nat) : Int) = ((tz r.toNat : Nat) : Int) + d), ?_, ?_⟩
        · rintro σ' H'' ⟨rfl, r, d, rfl, a1, a2, a3, a4, a5⟩
          exact ⟨_, a3, rfl, r, d, rfl, a1, a2, rfl, a4, a5⟩
        · refine ⟨_, rfl, _, _, rfl, rfl, wide_div (b := 2) (by decide) (by decide) (by decide) (by decide), _, rfl, _, _, rfl, rfl, _, _, rfl, rfl, q / 2, c + 1, rfl, by omega, by omega, by omega, by omega, fun h => ?_⟩
          rw [ht h]
          have e : tz q.toNat = tz (q.toNat / 2) + 1 := tz_even (by omega) (by omega)
          have e2 : (q / 2).toNat = q.toNat / 2 := by omega
          rw [e2, e]
          omega
      · refine ⟨_, rfl, _, _, rfl, rfl, _, rfl, ?_⟩
        refine ite2 (fun _ => ?_) (fun z => absurd (decide_eq_true hp') z)
        refine ⟨_, rfl, ?_⟩
        have e : ¬ p = 0 := fun z => by have := hz.mpr z; omega
        rw [if_neg e] at k
        have ho : ¬ q % 2 = 0 := fun z => he (decide_eq_true (congrArg V.int z))
        have := ht (by omega)
        rw [tz_odd (n := q.toNat) (by omega)] at this
        have e3 : c = ((tz p.toNat : Nat) : Int) := by omega
        rw [e3]
        exact k
    · refine iteF' ?_
      have hq0 : q = 0 := by
        have : ¬ 0 < q := fun z => hp (decide_eq_true z)
        omega
      refine ⟨_, rfl, _, _, rfl, rfl, _, rfl, ?_⟩
      refine ite2 (fun z => absurd z hp) (fun _ => ?_)
      rw [if_pos (hz.mp hq0)] at k
      exact k
theorem ok_asked (D : Df K mg "_law_asked" s_law_asked ["_law_point"]) (T : Bl mg) (C_rank : HasO P w K mg base 1 "rank" ["point"] spRank) (C_law_zeros : Has P w K mg base 1 "_law_zeros" ["_law_point"] spZeros) : Has P w K mg base 2 "_law_asked" ["_law_point"] spAsked := by
  refine D.has sc_law_asked (fun vs H Q E h => ?_) (fun f cdv A outer s H vs Q E gd hr h => ?_)
  · obtain ⟨p, rfl, _⟩ := h
    rfl
  · obtain ⟨p, rfl, h0, h1, k⟩ := h
    refine ⟨_, (pss_cons (ps_set (i := 1) sc_law_asked.nd rfl (Or.inl rfl) (pe_ifExp (pt_cmpR op_eq (pv 0) pe_int (nomark _)) pe_non (pe_has C_law_zeros gd (hr.mono (by decide)) rfl (pa_cons (pv 0) pa_nil))))
      (pss_one (ps_ret (pe_cmpR op_eq (pe_callB (call_reprD gd hr.units) (by rfl) T.repr (by decide +kernel) (pa_cons (pe_hasO C_rank (hr.mono (by decide)) rfl (pa_cons (pv 0) pa_nil)) pa_nil)) (pe_callB (call_reprD gd hr.units) (by rfl) T.repr (by decide +kernel) (pa_cons (pv 1) pa_nil)) (nomark _))))), ?_⟩
    refine ⟨_, rfl, rfl, _, rfl, ?_⟩
    refine ite2 (fun hz => ?_) (fun hz => ?_)
    · have e : p = 0 := by simpa using of_decide_eq_true hz
      refine ⟨_, rfl, p, rfl, h0, ?_⟩
      rw [if_pos e]
      refine ⟨_, _, rfl, .non, rfl, rfl, by decide, by decide +kernel, _, rfl, _, _, rfl, .non, rfl, rfl, by decide, by decide +kernel, rfl, ?_⟩
      rw [decide_eq_true rfl]
      exact k
    · have e : ¬ p = 0 := fun z => hz (decide_eq_true (congrArg V.int z))
      have hl := tz_60 (p := p) (by omega) h1
      have hs : ((tz p.toNat : Nat) : Int).natAbs.log2 < 1920 := by
        rw [Int.natAbs_natCast]
        exact Nat.lt_of_le_of_lt (Nat.log2_le_self _) (by omega)
      refine ⟨_, rfl, p, rfl, h0, _, rfl, p, rfl, h0, ?_⟩
      rw [if_neg e, if_neg e]
      refine ⟨_, _, rfl, .int _, decide_eq_true hs, rfl, by simp [PyData.depth], shownInt hs, _, rfl, _, _, rfl, .int _, decide_eq_true hs, rfl, by simp [PyData.depth], shownInt hs, rfl, ?_⟩
      rw [decide_eq_true rfl]
      exact k
theorem ok_right (D : Df K mg "_law_right" s_law_right ["_law_pot_here"]) (T : Bl mg) (C_law_take : Has P w K mg base 1 "_law_take" ["_law_pot_here", "_law_size"] spTake) (C_law_pick : Has P w K mg base 2 "_law_pick" ["_law_pot_here", "_law_some"] (spPick K))
    (C_law_asked : Has P w K mg base 2 "_law_asked" ["_law_point"] spAsked) : Has P w K mg base 3 "_law_right" ["_law_pot_here"] spRight := by
  refine D.has sc_law_right (fun vs H Q E h => ?_) (fun f cdv A outer s H vs Q E gd hr h => ?_)
  · obtain ⟨a, rfl, _⟩ := h
    rfl
  · obtain ⟨a, rfl, hp, k⟩ := h
    refine ⟨_, (pss_cons (ps_for PassesOwn.never rfl (pi_range1 rfl T.range (pa_cons pe_int pa_nil)) (pg_name (i := 1) sc_law_right.nd rfl (Or.inl rfl)) (pss_cons (ps_set (i := 2) sc_law_right.nd rfl (Or.inl rfl) (pe_has C_law_take gd (hr.mono (by decide)) rfl (pa_cons (pv 0) (pa_cons pe_int pa_nil))))
      (pss_cons (ps_set (i := 3) sc_law_right.nd rfl (Or.inl rfl) (pe_op op_add (pe_op op_mul pe_int (pe_has C_law_take gd (hr.mono (by decide)) rfl (pa_cons (pv 0) (pa_cons (pe_has C_law_pick gd (hr.mono (by decide)) rfl (pa_cons (pv 0) (pa_cons (pe_lst (pa_cons pe_int (pa_cons pe_int (pa_cons pe_int (pa_cons (pe_op op_pow pe_int pe_int) (pa_cons (pe_op op_pow pe_int pe_int) pa_nil)))))) pa_nil))) pa_nil)))) pe_int))
      (pss_cons (ps_set (i := 4) sc_law_right.nd rfl (Or.inl rfl) (pe_op op_shlW (pv 3) (pv 2)))
      (pss_cons (ps_while PassesOwn.never (pt_cmpR op_gt (pv 4) (pe_op op_pow pe_int pe_int) (nomark _)) (pss_one (ps_set (i := 4) sc_law_right.nd rfl (Or.inl rfl) (pe_op op_fdivW (pv 4) pe_int))))
      (pss_one (ps_if (PW.pt (pw_or (pt_not (pt_val (pe_has C_law_asked gd (hr.mono (by decide)) rfl (pa_cons (pv 4) pa_nil)))) (pw_or1 (pt_not (pt_val (pe_has C_law_asked gd (hr.mono (by decide)) rfl (pa_cons (pe_op op_sub (pv 4) pe_int) pa_nil))))))) (pss_one (ps_ret pe_bl)) pss_nil)))))))
      (pss_one (ps_ret (pe_and (pe_has C_law_asked gd (hr.mono (by decide)) rfl (pa_cons (pe_op op_pow pe_int pe_int) pa_nil)) (pe_one (pe_has C_law_asked gd (hr.mono (by decide)) rfl (pa_cons (pe_op op_shlW pe_int pe_int) pa_nil))))))), ?_⟩
    refine ⟨30, rfl, by decide, by decide, for_range (n := 30) (fun i σ H' => ∃ x1 x2 x3 x4, σ = [some (.ref a), x1, x2, x3, x4] ∧ PotAt H' a (3 * i) ∧ But a H H') ⟨none, none, none, none, rfl, hp, But.refl⟩ ?_ ?_⟩
    · rintro i σ H0 hi ⟨x1, x2, x3, x4, rfl, p0, b0⟩
      refine ⟨_, rfl, a, _, 60, rfl, p0, by omega, by decide, by decide, fun d1 H1 u0 u1 p1 b1 => ?_⟩
      refine ⟨_, rfl, _, rfl, _, _, rfl, rfl, ⟨by decide, by decide, by decide⟩, _, _, rfl, rfl, ⟨by decide, by decide, by decide⟩, by show 5 ≤ sizeLine; decide, fun l hl => ?_⟩
      refine ⟨a, l, _, _, rfl, p1.same (same_upd hl), by omega, SqL.of upd_same, (p1.ne hl).symm, by show 0 < 5; decide, by show 5 ≤ 1000; decide, fun v H2 hv p2 b2 => ?_⟩
      obtain ⟨z, rfl, z0, z1⟩ : ∃ z : Int, v = .int z ∧ 0 < z ∧ z ≤ 10 ^ 17 := by
        have hv' : v ∈ ([V.int 1, V.int 3, V.int 100, V.int (10 ^ 9), V.int (10 ^ 17)] : List V) := hv
        rcases List.mem_cons.mp hv' with rfl | hv'
        · exact ⟨_, rfl, by decide, by decide⟩
        rcases List.mem_cons.mp hv' with rfl | hv'
        · exact ⟨_, rfl, by decide, by decide⟩
        rcases List.mem_cons.mp hv' with rfl | hv'
        · exact ⟨_, rfl, by decide, by decide⟩
        rcases List.mem_cons.mp hv' with rfl | hv'
        · exact ⟨_, rfl, by decide, by decide⟩
        rcases List.mem_cons.mp hv' with rfl | hv'
        · exact ⟨_, rfl, by decide, by decide⟩
        · exact nomatch hv'
      refine ⟨a, _, z, rfl, p2, by omega, z0, Nat.lt_of_le_of_lt (show z.natAbs ≤ 10 ^ 17 by omega) (by decide), fun d2 H3 v0 v1 p3 b3 => ?_⟩
      obtain ⟨dn, rfl⟩ := Int.eq_ofNat_of_zero_le u0
      refine ⟨_, _, rfl, rfl, .inl ⟨by decide, by decide⟩, _, _, rfl, rfl, ?_⟩
      refine ⟨_, rfl, _, rfl, _, _, rfl, rfl, shl_ok (n := 60) (show (2 * d2 + 1).natAbs < 2 ^ 60 by omega) (by omega), ?_⟩
      have bb : But a H H3 := ((b0.trans b1).trans (But.of (same_upd hl))).trans (b2.trans b3)
      have hq : 1 ≤ (2 * d2 + 1) * 2 ^ (Int.toNat (dn : Int)) := by
        have h2 : (0 : Int) < 2 ^ (Int.toNat (dn : Int)) := Int.pow_pos (by decide)
        have := Int.mul_pos (show (0 : Int) < 2 * d2 + 1 by omega) h2
        omega
      refine ⟨fun m σ H' => H' = H3 ∧ ∃ q : Int, σ = [some (.ref a), some (.int (0 + (i : Int))), some (.int (dn : Int)), some (.int (2 * d2 + 1)), some (.int q)] ∧ 1 ≤ q ∧ m = q.toNat, ⟨_, rfl, _, rfl, hq, rfl⟩, ?_⟩
      rintro m σ H' ⟨rfl, q, rfl, q1, rfl⟩
      refine ⟨_, rfl, _, _, rfl, rfl, ⟨by decide, by decide, by decide⟩, _, _, rfl, rfl, _, rfl, ?_⟩
      refine ite2 (fun hb => ?_) (fun hb => ?_)
      · have hb' : (10 : Int) ^ 18 < q := of_decide_eq_true hb
        refine ⟨fun σ' H'' => H'' = H' ∧ ∃ r : Int, σ' = [some (.ref a), some (.int (0 + (i : Int))), some (.int (dn : Int)), some (.int (2 * d2 + 1)), some (.int r)] ∧ 1 ≤ r ∧ r.toNat < q.toNat, ?_, ?_⟩
        · rintro σ' H'' ⟨rfl, r, rfl, r1, r2⟩
          exact ⟨_, r2, rfl, r, rfl, r1, rfl⟩
        · exact ⟨_, rfl, _, _, rfl, rfl, wide_div (b := 2) (by decide) (by decide) (by decide) (by decide), rfl, q / 2, rfl, by omega, by omega⟩
      · have hb' : q ≤ (10 : Int) ^ 18 := by
          have : ¬ (10 : Int) ^ 18 < q := fun z => hb (decide_eq_true z)
          omega
        refine ⟨_, rfl, q, rfl, by omega, hb', true, rfl, ?_⟩
        refine ite2 (fun z => absurd z (by decide)) (fun _ => ?_)
        refine ⟨_, rfl, _, _, rfl, rfl, q - 1, rfl, by omega, by omega, true, rfl, ?_⟩
        refine ite2 (fun z => absurd z (by decide)) (fun _ => ?_)
        exact ⟨_, _, _, _, rfl, p3.mono (by omega), bb⟩
    · rintro σ H0 ⟨x1, x2, x3, x4, rfl, p0, b0⟩
      refine ⟨_, _, rfl, rfl, ⟨by decide, by decide, by decide⟩, 10 ^ 18, rfl, by decide, by decide, true, rfl, ?_⟩
      refine iteT ?_
      refine ⟨1, 59, rfl, rfl, shl_ok (j := 59) (n := 1) (by decide) (by decide), 2 ^ 59, rfl, by decide, by decide, ?_⟩
      exact k _ b0
theorem ok_law (D : Df K mg "law" s_law ["_law_script"]) (T : Bl mg) (C_law_pot : Has P w K mg base 1 "_law_pot" ["_law_script", "_law_k"] (spPot K)) (C_law_asked : Has P w K mg base 2 "_law_asked" ["_law_point"] spAsked)
    (C_law_right : Has P w K mg base 3 "_law_right" ["_law_pot_here"] spRight) : Has P w K mg base 4 "law" ["_law_script"] (spLaw K) := by
  refine D.has sc_law (fun vs H Q E h => ?_) (fun f cdv A outer s H vs Q E gd hr h => ?_)
  · obtain ⟨a, ns, rfl, _⟩ := h
    rfl
  · obtain ⟨a, ns, rfl, hS, hl, k⟩ := h
    refine ⟨_, (pss_cons (ps_if (pt_not (pt_val (pe_callB (cr_all rfl) (by rfl) T.all (by decide +kernel) (pa_cons (pe_lc (own := [("_law_point", 1)]) (g := gName 1) (tt := tYes) rfl sc_law.nd (pi_range1 rfl T.range (pa_cons pe_int pa_nil)) (blkOk_by (N := N_law) (sc := defScope s_law) (by decide +kernel)) (fun _ _ _ _ _ => pg_name (i := 1) sc_law.nd rfl (Or.inl rfl)) (fun _ _ _ _ _ => pts_nil) (fun _ _ _ _ _ => (pe_has C_law_asked gd (hr.mono (by decide)) rfl (pa_cons (pv 1) pa_nil)))) pa_nil)))) (pss_one (ps_ret pe_bl)) pss_nil)
      (pss_one (ps_ret (pe_callB (cr_all rfl) (by rfl) T.all (by decide +kernel) (pa_cons (pe_lc (own := [("_law_k", 2)]) (g := gName 2) (tt := tYes) rfl sc_law.nd (pi_range1 rfl T.range (pa_cons (pe_callB (call_max2 rfl) (by rfl) T.max (by decide +kernel) (pa_cons pe_int (pa_cons (pe_callB (call_min2 rfl) (by rfl) T.min (by decide +kernel) (pa_cons pe_int (pa_cons (pe_callB call_len_seq (by rfl) T.len PySem.boot_len (pa_cons (pv 0) pa_nil)) pa_nil))) pa_nil))) pa_nil)) (blkOk_by (N := N_law) (sc := defScope s_law) (by decide +kernel)) (fun _ _ _ _ _ => pg_name (i := 2) sc_law.nd rfl (Or.inl rfl)) (fun _ _ _ _ _ => pts_nil) (fun _ _ _ _ _ => (pe_has C_law_right gd (hr.mono (by decide)) rfl (pa_cons (pe_has C_law_pot gd (hr.mono (by decide)) rfl (pa_cons (pv 0) (pa_cons (pv 2) pa_nil))) pa_nil)))) pa_nil))))), ?_⟩
    refine ⟨71, rfl, by decide, by decide, fun D hD => lc_range (lo := 0) (n := 71) (fun i H' => H' D = some (.lst (List.replicate i (.bl true))) ∧ Same H H') ⟨upd_same, same_upd hD⟩ ?_ ?_⟩
    · rintro i H' hi ⟨e, sm⟩
      refine ⟨rfl, _, rfl, _, rfl, by omega, by omega, _, e, ?_, ?_, ?_⟩
      · rw [List.length_replicate]
        exact Nat.lt_of_lt_of_le (show i < 71 from hi) (by decide)
      · rw [upd_same, List.replicate_succ']
      · intro b o z
        have nb : b ≠ D := ne_of_none z hD
        rw [upd_ne nb]
        exact sm b o z
    · rintro H' ⟨e, sm⟩
      refine ⟨D, List.replicate 71 true, rfl, SqL.of (by rw [e, List.map_replicate]), true, rfl, ?_⟩
      refine ite2 (fun z => absurd z (by decide)) (fun _ => ?_)
      -- the script's first three cells
      obtain ⟨n, en, hn⟩ := three_of (ns.map V.int).length
      refine ⟨_, rfl, _, _, rfl, .inl (sm.seq hS), _, _, rfl, _, _, rfl, (n : Int), congrArg (fun z => [V.int z]) en, by omega, by omega, fun D2 hD2 => lc_range (lo := 0) (n := (n : Int).toNat) (fun i H2 => H2 D2 = some (.lst (List.replicate i (.bl true))) ∧ Same H' H2) ⟨upd_same, same_upd hD2⟩ ?_ ?_⟩
      · rintro i H2 hi ⟨e2, sm2⟩
        refine ⟨rfl, _, rfl, _, rfl, a, ns, i, by rw [Int.zero_add]; rfl, sm2.seq (sm.seq hS), hl, by omega, fun p H3 np s3 p3 => ?_⟩
        refine ⟨p, rfl, p3, fun H4 b4 => ?_⟩
        have nD : D2 ≠ p := ne_of_none e2 np
        have e4 : H4 D2 = some (.lst (List.replicate i (.bl true))) := b4 _ _ (s3 _ _ e2) nD
        refine ⟨_, e4, ?_, ?_, ?_⟩
        · rw [List.length_replicate]
          exact Nat.lt_of_lt_of_le (show i < 4 by omega) (by decide)
        · rw [upd_same, List.replicate_succ']
        · intro b o z
          have z2 := sm2 b o z
          have nb : b ≠ D2 := ne_of_none z hD2
          rw [upd_ne nb]
          exact b4 b o (s3 b o z2) (ne_of_none z2 np)
      · rintro H2 ⟨e2, sm2⟩
        refine ⟨D2, List.replicate (n : Int).toNat true, rfl, SqL.of (by rw [e2, List.map_replicate]), ?_⟩
        have ea : (List.replicate (n : Int).toNat true).all _root_.id = true := by simp
        rw [ea]
        exact k _
end
theorem all_mk {l : PySem.W.OpenLaw} {w : World} {K : PySem.W.Frag} {mg : Str → Option Value} {base : Heap} (T : Bl mg) (D1 : Df K mg "rank" s_rank ["point"]) (D2 : Df K mg "_law_pot" s_law_pot ["_law_script", "_law_k"]) (D3 : Df K mg "_law_take" s_law_take ["_law_pot_here", "_law_size"])
    (D4 : Df K mg "_law_pick" s_law_pick ["_law_pot_here", "_law_some"]) (D5 : Df K mg "_law_zeros" s_law_zeros ["_law_point"]) (D6 : Df K mg "_law_asked" s_law_asked ["_law_point"]) (D7 : Df K mg "_law_right" s_law_right ["_law_pot_here"]) (D8 : Df K mg "law" s_law ["_law_script"]) :
    Has l.prog w K mg base 4 "law" ["_law_script"] (spLaw K) :=
  let take := ok_take D3 T
  let asked := ok_asked D6 T (ok_rank D1) (ok_zeros D5)
  ok_law D8 T (ok_pot D2 T) asked (ok_right D7 T take (ok_pick D4 T take) asked)
end Rk
theorem Rk.end_mk {l : PySem.W.OpenLaw} {w : PySem.World} {K : PySem.W.Frag} {mg : PySem.Str → Option PySem.Value} {h base : PySem.Heap} (X : K.In h) (G : h.Ns PySem.mainGlobals mg)
    {f1 : PySem.Addr} {oc1 kV1 doc1 pm1 cdv1 ct1 : PySem.Value} {od1 an1 : Option PySem.Addr} {osl1 : Array (Option PySem.Value)} (a1 : PySem.W.nsIn K PySem.mainGlobals "rank" = some (some (.ref f1))) (l1 : K.lookup f1 = some ⟨oc1, od1, .func (PySem.W.fnOf "rank" "rank" (L2.defArgs Rk.s_rank) (L2.defBody Rk.s_rank) (L2.defScope Rk.s_rank) .none kV1 doc1 pm1 an1 cdv1 ct1), osl1⟩) (c1 : PySem.W.codeIn K cdv1 "rank" = true) (k1 : PySem.W.keepIn K (.ref f1) = true)
    {f2 : PySem.Addr} {oc2 kV2 doc2 pm2 cdv2 ct2 : PySem.Value} {od2 an2 : Option PySem.Addr} {osl2 : Array (Option PySem.Value)} (a2 : PySem.W.nsIn K PySem.mainGlobals "_law_pot" = some (some (.ref f2))) (l2 : K.lookup f2 = some ⟨oc2, od2, .func (PySem.W.fnOf "_law_pot" "_law_pot" (L2.defArgs Rk.s_law_pot) (L2.defBody Rk.s_law_pot) (L2.defScope Rk.s_law_pot) .none kV2 doc2 pm2 an2 cdv2 ct2), osl2⟩) (c2 : PySem.W.codeIn K cdv2 "_law_pot" = true) (k2 : PySem.W.keepIn K (.ref f2) = true)
    {f3 : PySem.Addr} {oc3 kV3 doc3 pm3 cdv3 ct3 : PySem.Value} {od3 an3 : Option PySem.Addr} {osl3 : Array (Option PySem.Value)} (a3 : PySem.W.nsIn K PySem.mainGlobals "_law_take" = some (some (.ref f3))) (l3 : K.lookup f3 = some ⟨oc3, od3, .func (PySem.W.fnOf "_law_take" "_law_take" (L2.defArgs Rk.s_law_take) (L2.defBody Rk.s_law_take) (L2.defScope Rk.s_law_take) .none kV3 doc3 pm3 an3 cdv3 ct3), osl3⟩) (c3 : PySem.W.codeIn K cdv3 "_law_take" = true) (k3 : PySem.W.keepIn K (.ref f3) = true)
    {f4 : PySem.Addr} {oc4 kV4 doc4 pm4 cdv4 ct4 : PySem.Value} {od4 an4 : Option PySem.Addr} {osl4 : Array (Option PySem.Value)} (a4 : PySem.W.nsIn K PySem.mainGlobals "_law_pick" = some (some (.ref f4))) (l4 : K.lookup f4 = some ⟨oc4, od4, .func (PySem.W.fnOf "_law_pick" "_law_pick" (L2.defArgs Rk.s_law_pick) (L2.defBody Rk.s_law_pick) (L2.defScope Rk.s_law_pick) .none kV4 doc4 pm4 an4 cdv4 ct4), osl4⟩) (c4 : PySem.W.codeIn K cdv4 "_law_pick" = true) (k4 : PySem.W.keepIn K (.ref f4) = true)
    {f5 : PySem.Addr} {oc5 kV5 doc5 pm5 cdv5 ct5 : PySem.Value} {od5 an5 : Option PySem.Addr} {osl5 : Array (Option PySem.Value)} (a5 : PySem.W.nsIn K PySem.mainGlobals "_law_zeros" = some (some (.ref f5))) (l5 : K.lookup f5 = some ⟨oc5, od5, .func (PySem.W.fnOf "_law_zeros" "_law_zeros" (L2.defArgs Rk.s_law_zeros) (L2.defBody Rk.s_law_zeros) (L2.defScope Rk.s_law_zeros) .none kV5 doc5 pm5 an5 cdv5 ct5), osl5⟩) (c5 : PySem.W.codeIn K cdv5 "_law_zeros" = true) (k5 : PySem.W.keepIn K (.ref f5) = true)
    {f6 : PySem.Addr} {oc6 kV6 doc6 pm6 cdv6 ct6 : PySem.Value} {od6 an6 : Option PySem.Addr} {osl6 : Array (Option PySem.Value)} (a6 : PySem.W.nsIn K PySem.mainGlobals "_law_asked" = some (some (.ref f6))) (l6 : K.lookup f6 = some ⟨oc6, od6, .func (PySem.W.fnOf "_law_asked" "_law_asked" (L2.defArgs Rk.s_law_asked) (L2.defBody Rk.s_law_asked) (L2.defScope Rk.s_law_asked) .none kV6 doc6 pm6 an6 cdv6 ct6), osl6⟩) (c6 : PySem.W.codeIn K cdv6 "_law_asked" = true) (k6 : PySem.W.keepIn K (.ref f6) = true)
    {f7 : PySem.Addr} {oc7 kV7 doc7 pm7 cdv7 ct7 : PySem.Value} {od7 an7 : Option PySem.Addr} {osl7 : Array (Option PySem.Value)} (a7 : PySem.W.nsIn K PySem.mainGlobals "_law_right" = some (some (.ref f7))) (l7 : K.lookup f7 = some ⟨oc7, od7, .func (PySem.W.fnOf "_law_right" "_law_right" (L2.defArgs Rk.s_law_right) (L2.defBody Rk.s_law_right) (L2.defScope Rk.s_law_right) .none kV7 doc7 pm7 an7 cdv7 ct7), osl7⟩) (c7 : PySem.W.codeIn K cdv7 "_law_right" = true) (k7 : PySem.W.keepIn K (.ref f7) = true)
    {f8 : PySem.Addr} {oc8 kV8 doc8 pm8 cdv8 ct8 : PySem.Value} {od8 an8 : Option PySem.Addr} {osl8 : Array (Option PySem.Value)} (a8 : PySem.W.nsIn K PySem.mainGlobals "law" = some (some (.ref f8))) (l8 : K.lookup f8 = some ⟨oc8, od8, .func (PySem.W.fnOf "law" "law" (L2.defArgs Rk.s_law) (L2.defBody Rk.s_law) (L2.defScope Rk.s_law) .none kV8 doc8 pm8 an8 cdv8 ct8), osl8⟩) (c8 : PySem.W.codeIn K cdv8 "law" = true) (k8 : PySem.W.keepIn K (.ref f8) = true)
    (z0 : PySem.W.nsIn K PySem.mainGlobals "len" = some none) (z1 : PySem.W.nsIn K PySem.mainGlobals "abs" = some none) (z2 : PySem.W.nsIn K PySem.mainGlobals "min" = some none) (z3 : PySem.W.nsIn K PySem.mainGlobals "max" = some none) (z4 : PySem.W.nsIn K PySem.mainGlobals "range" = some none) (z5 : PySem.W.nsIn K PySem.mainGlobals "all" = some none) (z6 : PySem.W.nsIn K PySem.mainGlobals "any" = some none) (z7 : PySem.W.nsIn K PySem.mainGlobals "repr" = some none) (z8 : PySem.W.nsIn K PySem.mainGlobals "tuple" = some none) (z9 : PySem.W.nsIn K PySem.mainGlobals "list" = some none) (z10 : PySem.W.nsIn K PySem.mainGlobals "sorted" = some none) (z11 : PySem.W.nsIn K PySem.mainGlobals "enumerate" = some none) (z12 : PySem.W.nsIn K PySem.mainGlobals "zip" = some none) (z13 : PySem.W.nsIn K PySem.mainGlobals "isinstance" = some none) (z14 : PySem.W.nsIn K PySem.mainGlobals "int" = some none) (z15 : PySem.W.nsIn K PySem.mainGlobals "bool" = some none) (z16 : PySem.W.nsIn K PySem.mainGlobals "sum" = some none) :
    Rk.Has l.prog w K mg base 4 "law" ["_law_script"] (Rk.spLaw K) := by
  have T : Rk.Bl mg := ⟨PySem.W.mg_none_of X G z0, PySem.W.mg_none_of X G z1, PySem.W.mg_none_of X G z2, PySem.W.mg_none_of X G z3, PySem.W.mg_none_of X G z4, PySem.W.mg_none_of X G z5, PySem.W.mg_none_of X G z6, PySem.W.mg_none_of X G z7, PySem.W.mg_none_of X G z8, PySem.W.mg_none_of X G z9, PySem.W.mg_none_of X G z10, PySem.W.mg_none_of X G z11, PySem.W.mg_none_of X G z12, PySem.W.mg_none_of X G z13, PySem.W.mg_none_of X G z14, PySem.W.mg_none_of X G z15, PySem.W.mg_none_of X G z16⟩
  have D1 : Rk.Df K mg "rank" Rk.s_rank ["point"] := Rk.df_mk X G a1 l1 c1 k1 fun _ _ _ _ _ _ us hl => match us, hl with | [_], _ => rfl
  have D2 : Rk.Df K mg "_law_pot" Rk.s_law_pot ["_law_script", "_law_k"] := Rk.df_mk X G a2 l2 c2 k2 fun _ _ _ _ _ _ us hl => match us, hl with | [_, _], _ => rfl
  have D3 : Rk.Df K mg "_law_take" Rk.s_law_take ["_law_pot_here", "_law_size"] := Rk.df_mk X G a3 l3 c3 k3 fun _ _ _ _ _ _ us hl => match us, hl with | [_, _], _ => rfl
  have D4 : Rk.Df K mg "_law_pick" Rk.s_law_pick ["_law_pot_here", "_law_some"] := Rk.df_mk X G a4 l4 c4 k4 fun _ _ _ _ _ _ us hl => match us, hl with | [_, _], _ => rfl
  have D5 : Rk.Df K mg "_law_zeros" Rk.s_law_zeros ["_law_point"] := Rk.df_mk X G a5 l5 c5 k5 fun _ _ _ _ _ _ us hl => match us, hl with | [_], _ => rfl
  have D6 : Rk.Df K mg "_law_asked" Rk.s_law_asked ["_law_point"] := Rk.df_mk X G a6 l6 c6 k6 fun _ _ _ _ _ _ us hl => match us, hl with | [_], _ => rfl
  have D7 : Rk.Df K mg "_law_right" Rk.s_law_right ["_law_pot_here"] := Rk.df_mk X G a7 l7 c7 k7 fun _ _ _ _ _ _ us hl => match us, hl with | [_], _ => rfl
  have D8 : Rk.Df K mg "law" Rk.s_law ["_law_script"] := Rk.df_mk X G a8 l8 c8 k8 fun _ _ _ _ _ _ us hl => match us, hl with | [_], _ => rfl
  exact Rk.all_mk (l := l) (w := w) (base := base) T D1 D2 D3 D4 D5 D6 D7 D8
open PySem PySem.W PyProof.Rows in
set_option maxRecDepth 100000 in
set_option maxHeartbeats 0 in
theorem PySem.Challenge.cw_rulerkeep_k01_ranks_of_points_holds : PySem.Challenge.rw_rulerkeep_k01_ranks_of_points.Holds := by
  w_on; o_law; k_head; (case hw => w_witness2)
  k_fill
  refine Rk.walkG (l := PySem.Challenge.rw_rulerkeep_k01_ranks_of_points) (n := 63) (k := 4) (x := "_law_script") (sp := Rk.spLaw) rfl (by decide) rfl ⟨rfl, by decide, by decide⟩ (fun w h Y => PySem.W.kIn_of Y) ?F (fun _ _ a ns hl _ hS => ⟨a, ns, rfl, hS, hl, fun _ => rfl⟩)
  case F =>
    intro w mg h KX G base _ _
    refine' Rk.end_mk KX G ?a1 ?l1 ?c1 ?k1 ?a2 ?l2 ?c2 ?k2 ?a3 ?l3 ?c3 ?k3 ?a4 ?l4 ?c4 ?k4 ?a5 ?l5 ?c5 ?k5 ?a6 ?l6 ?c6 ?k6 ?a7 ?l7 ?c7 ?k7 ?a8 ?l8 ?c8 ?k8 ?z0 ?z1 ?z2 ?z3 ?z4 ?z5 ?z6 ?z7 ?z8 ?z9 ?z10 ?z11 ?z12 ?z13 ?z14 ?z15 ?z16
    (case a1 => k_is)
    (case l1 => k_is)
    (case c1 => k_is)
    (case k1 => k_is)
    (case a2 => k_is)
    (case l2 => k_is)
    (case c2 => k_is)
    (case k2 => k_is)
    (case a3 => k_is)
    (case l3 => k_is)
    (case c3 => k_is)
    (case k3 => k_is)
    (case a4 => k_is)
    (case l4 => k_is)
    (case c4 => k_is)
    (case k4 => k_is)
    (case a5 => k_is)
    (case l5 => k_is)
    (case c5 => k_is)
    (case k5 => k_is)
    (case a6 => k_is)
    (case l6 => k_is)
    (case c6 => k_is)
    (case k6 => k_is)
    (case a7 => k_is)
    (case l7 => k_is)
    (case c7 => k_is)
    (case k7 => k_is)
    (case a8 => k_is)
    (case l8 => k_is)
    (case c8 => k_is)
    (case k8 => k_is)
    (case z0 => k_is)
    (case z1 => k_is)
    (case z2 => k_is)
    (case z3 => k_is)
    (case z4 => k_is)
    (case z5 => k_is)
    (case z6 => k_is)
    (case z7 => k_is)
    (case z8 => k_is)
    (case z9 => k_is)
    (case z10 => k_is)
    (case z11 => k_is)
    (case z12 => k_is)
    (case z13 => k_is)
    (case z14 => k_is)
    (case z15 => k_is)
    (case z16 => k_is)
