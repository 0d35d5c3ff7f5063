import PyProof.Rows.All
import Wide.All
import OpenK.AllK
import Wide.FinOn
import HandS.ForMost
import HandS.TupMul
import HandS.TupAny
import HandS.SetFor
import HandS.Walk
import HandS.EndBits
import KE.GoesEnum
import PyProof.ReprRoads
import HandS.Zip
import HandS.NoneIn
import HandS.IsInst
import HandS.Strs
import HandS.Conv
import PyProof.ListNew
import PyProof.Rows.CountFlat
import HandS.More
import KE.DataMinMax
import PySem.Challenge.RW_pressrelease_k20_rounds_found
set_option Elab.async false
set_option linter.all false
set_option maxRecDepth 100000
set_option maxHeartbeats 4000000
/-! A layer for laws that ask repr: a def's promise that also knows that no repr is under way. -/
namespace Pr
open PySem PySem.Spec PyProof.Rows L2

/-! ### promises of defs that may ask repr -/
structure FnG (P : Program) (w : World) (K : PySem.W.Frag) (mg : Str → Option Value) (base : Heap) (k : Nat) (f : Addr) (fd : FuncData) (ps : List Str) (sp : Sp) : Prop where
  len : ∀ vs H Q E, sp vs H Q E → vs.length = ps.length
  go : ∀ (A : Around) (outer : List Env) (s : Shared) (H : Hp) (args : Args) (us : List Value) (vs : List V) (Q : VK) (E : XK), A.guards = some [] → Room k A →
    Env0 P w K mg base A outer s H → BindsTo s fd args (ps.zip us) → Vals vs us → sp vs H Q E →
    codeAny (model P w) A (.call (.ref f) args) (CR CX0 outer P w H s Q E) s

section
variable {P : Program} {w : World} {K : PySem.W.Frag} {mg : Str → Option Value} {base : Heap}
theorem FnG.of {k : Nat} {f : Addr} {fd : FuncData} {ps : List Str} {sp : Sp} (F : FnOk P w K mg base CX0 k f fd ps sp) : FnG P w K mg base k f fd ps sp :=
  ⟨F.len, fun A outer s H args us vs Q E _ hr => F.run A outer s H args us vs Q E hr⟩

/-- a def by its body, where no repr is under way -/
theorem okG {x qual : Str} {st : Stmt} {f : Addr} {fd : FuncData} {N ps : List Str} {k : Nat} {sp : Sp} (F : Fun K x qual st f fd) (S : FnScope N ps (defScope st))
    (len : ∀ vs H Q E, sp vs H Q E → vs.length = ps.length)
    (body : ∀ (cdv : Value) (A : Around) (outer : List Env) (s : Shared) (H : Hp) (vs : List V) (Q : VK) (E : XK), A.guards = some [] →
      Room k (A.deeper (envOfC qual (defScope st) s.heap.objs.size f cdv)) → sp vs H Q E →
      ∃ t, PSs (cxOf CX0 P w K mg base N qual (defScope st) f cdv A outer s H E).nox (defBody st) t ∧ t { nx := fun _ H' => Q .non H', rt := Q } (start N vs) H) :
    FnG P w K mg base (k + 1) f fd ps sp := by
  obtain ⟨oc, od, kV, doc, pm, an, cdv, ct, osl, rfl, lk, hcd⟩ := F.ex
  refine ⟨len, fun A outer s H args us vs Q E hg hr e0 hb r hsp => ?_⟩
  have hin : K.In s.heap := e0.mod.kin.keeps fun b o e => (e0.bs b o e).1
  have hlm : s.heap.NoLimit := e0.mod.nolimit.keeps fun b o e => (e0.bs b o e).1
  refine codeAny_call_function hr.depth (hin _ _ lk) rfl S.co S.gen rfl (PySem.W.codeRec_of hin hcd) (hb _ _ _ _ ?_)
  refine wpAny_newFunctionEnv_cells S.kind (fun ⟨n, v⟩ hy => ?_) fun env he s1 x => ?_
  · rcases S.par n (List.of_mem_zip hy).1 with q | q
    · exact .inl q
    · exact .inr ⟨q, PySem.W.cellsFrom_some _ _ _ (.inl q)⟩
  · subst he
    refine ⟨hlm.keeps x.toInCall.keep, codeAny_func ?_⟩
    obtain ⟨t, ht, hq⟩ := body cdv A outer s H vs Q E hg (hr.deeper _) hsp
    have I := inv_start (CX := CX0) (E := E) S hr.hd e0 (len _ _ _ _ hsp) r x
    refine wpAny_mono (ht.nox.run [] s1 (start N vs) H _ I hq) (fun fl s' hs => ?_) fun e s' hs => hs
    cases fl with
    | ret u => obtain ⟨v, σ', H', J, rv, q⟩ := hs; exact ⟨v, H', J.os, J.bare, J.base, J.hok, rv, q⟩
    | next => obtain ⟨σ', H', J, q⟩ := hs; exact ⟨V.non, H', J.os, J.bare, J.base, J.hok, rfl, q⟩
    | brk => obtain ⟨_, _, _, q⟩ := hs; exact q.elim
    | cont => obtain ⟨_, _, _, q⟩ := hs; exact q.elim
end

section
variable {X : Cx} {k : Nat} {f : Addr} {fd : FuncData} {ps : List Str} {sp : Sp} {x : Str} {p pos : Pos} {e : Expr} {es : List Expr} {t : TA}
/-- f(e, ..) of such a def -/
theorem pe_callG (F : FnG X.prog X.w X.K X.mg X.base k f fd ps sp) (gd : X.A.guards = some []) (hr : Room k X.A) (hg : Gl X x) (hm : X.mg x = some (.ref f)) (hk : PySem.W.keepIn X.K (.ref f) = true) (hb : Binds X.K fd ps [])
    (ha : PA X (e :: es) t) (hdb : (x == ("__debug__" : Str)) = false := by decide) (he : starEach (e :: es) X.env = (false, eval e X.env) :: starEach es X.env := by rfl)
    (hpl : (backTo pos (starEach es X.env)).any (·.1) = false := by rfl) : PE X (.Call (.Name x p) (e :: es) [] pos) (tCall sp [] E0 t) := by
  refine ⟨fun pins s σ H Q I h => wpAny_Call_Name_kw (ld_glob I hg hm ?_ hdb)⟩
  refine PySem.W.callWith_K (h₀ := X.base) I.ok.mod.kin hk (thn (ha.run pos pins s σ H _ I h) fun us s1 ⟨vs, H1, I1, r, q⟩ => ⟨I1.kIn, ?_⟩) he hpl
  have q1 : sp vs H1 Q E0 := by
    have q0 : sp (vs ++ []) H1 Q E0 := q
    rwa [List.append_nil] at q0
  have hl : us.length = ps.length := by rw [← r.length]; exact F.len _ _ _ _ q1
  have hb1 : BindsTo s1 fd ⟨us, []⟩ (ps.zip us) := by
    have := hb s1 us I1.kIn (by rw [List.append_nil]; exact hl)
    rwa [List.append_nil] at this
  refine wpAny_call (codeAny_mono (F.go X.A X.stack s1 H1 ⟨us, []⟩ us vs Q E0 gd hr I1.env0 hb1 r q1) fun r' s' hq => ?_)
  cases r' with
  | error e' => exact hq.elim
  | ok fl =>
    cases fl with
    | ret u => exact I1.after hq
    | next => exact hq.elim
    | brk => exact hq.elim
    | cont => exact hq.elim
end

/-! ### repr of data that holds no dict -/
def rRepr (K : PySem.W.Frag) : List V → Hp → VK → Prop := fun xs H Q => ∃ (a : Addr) (d : PyData), xs = [.ref a] ∧ Dp K H (.ref a) d ∧ d.showable = true ∧ d.hasDict = false ∧ d.depth ≤ 60 ∧ d.shown.length ≤ sizeLine ∧ Q (.str d.shown) H
theorem call_repr {X : Cx} {k : Nat} (gd : X.A.guards = some []) (hr : Room k X.A) : CallR X (.builtin "repr") (rRepr X.K) := by
  intro pins s σ H xs us Q I rv h
  obtain ⟨a, d, rfl, hd, hs, hn, hdep, hz, q⟩ := h
  obtain ⟨u, rfl, rx⟩ := vals1 rv
  cases rx
  obtain ⟨as, r⟩ := Dp.reads I d _ _ hd rfl
  exact repr_of_reads' r hs (PyData.noDict_hsm hn) gd (by have := hr.un; omega) (fun _ _ e => e) (fun h' t tk hk => ⟨.str d.shown, H, I.kept hk, ⟨t, rfl⟩, q⟩) hz

/-! ### the law's own call -/
theorem lawG {P : Program} {w : World} {K : PySem.W.Frag} {mg mb : Str → Option Value} {k : Nat} {fa a : Addr} {fd : FuncData} {x : Str} {sp : Sp} {s1 : Shared} {vs : List Value} {ns : List Int}
    (kin : K.In s1.heap) (nsg : s1.heap.Ns mainGlobals mg) (nsb : s1.heap.Ns builtinsNs mb) (bb : ∀ y : Str, y ≠ "__name__" → mb y = bootBuiltins y) (lim : s1.heap.NoLimit) (g0 : s1.gens = #[])
    (la : s1.heap.get? a = some { cls := .type "list", data := .seq vs.toArray }) (hints : IntsAre vs ns) (few : ns.length ≤ sizeLine) (rm : Room k callerA)
    (F : ∀ base : Heap, K.In base → base.Ns mainGlobals mg → FnG P w K mg base k fa fd [x] sp) (bd : ∀ (s : Shared) (u : Value), BindsTo s fd ⟨[u], []⟩ [(x, u)])
    (wish : ∀ H : Hp, Only H → SqL K H a (ns.map V.int) → sp [.ref a] H (fun v _ => v = .bl true) E0) :
    codeAny (model P w) callerA (.call (.ref fa) ⟨[.ref a], []⟩) (fun r s' => r = .ok (.ret (.bool true)) ∧ OldK s1.heap s'.heap ∧ s'.os = s1.os ∧ AllBare s'.gens) s1 := by
  have rv := vals_ints hints
  have lv := hints.length
  have main : ∀ H : Hp, Only H → SqL K H a (ns.map V.int) → HOk P w H s1.heap → (∀ b, H b ≠ none → b = a) → (H a ≠ none → K.lookup a = none) →
      codeAny (model P w) callerA (.call (.ref fa) ⟨[.ref a], []⟩) (fun r s' => r = .ok (.ret (.bool true)) ∧ OldK s1.heap s'.heap ∧ s'.os = s1.os ∧ AllBare s'.gens) s1 := by
    intro H hO hS hok hA hK
    have out : ∀ {b : Addr} {o : Obj} {es : Array DictEntry} {ep : Nat}, s1.heap.get? b = some o → o.data = .dict es ep → H b = none := fun {b o es ep} e d => by
      cases q : H b with
      | none => rfl
      | some u =>
        obtain rfl : b = a := hA b (by rw [q]; simp)
        rw [la] at e; cases e
        exact nomatch (show Data.seq vs.toArray _ = Data.dict es ep from d)
    have nsH : ∀ {b : Addr} {m : Str → Option Value}, s1.heap.Ns b m → (hidT s1.heap H).Ns b m := fun {b m} ⟨o, es, ep, e, d, r⟩ => ⟨o, es, ep, hidT_get e (out e d), d, r⟩
    have kinH : K.In (hidT s1.heap H) := fun b o e => hidT_get (kin b o e) (by
      cases q : H b with
      | none => rfl
      | some u =>
        obtain rfl : b = a := hA b (by rw [q]; simp)
        rw [hK (by rw [q]; simp)] at e; cases e)
    have md : Mod K mg (hidT s1.heap H) := ⟨kinH, nsH nsg, ⟨mb, nsH nsb, bb⟩, let ⟨mc, h1, h2⟩ := lim; ⟨mc, nsH h1, h2⟩⟩
    have e0 : Env0 P w K mg (hidT s1.heap H) callerA [] s1 H :=
      ⟨rfl, md, fun b o e => of_hidT e, Nat.le_of_eq (hidT_size _ _), trivial, fun b hb => absurd (show b ∈ ([] : List Addr) from hb) (by simp), hok, .of_eq g0⟩
    refine codeAny_mono ((F _ kinH (nsH nsg)).go callerA [] s1 H ⟨[.ref a], []⟩ [.ref a] [.ref a] _ _ rfl rm e0 (bd s1 (.ref a)) (.cons rfl .nil) (wish H hO hS)) fun r s' h => ?_
    cases r with
    | error e => exact h.elim
    | ok fl =>
      cases fl with
      | next => exact h.elim
      | brk => exact h.elim
      | cont => exact h.elim
      | ret u =>
        obtain ⟨v, H', os, bare, un, hok', r', q⟩ := h
        obtain rfl : v = .bl true := q
        obtain rfl : u = Value.bool true := r'
        refine ⟨rfl, OldK.of_keep fun b o e => ?_, os, bare⟩
        rcases hO b with z | ⟨ob, xs, z⟩
        · exact un.keep b o e z (fun y => absurd (show b ∈ ([] : List Addr) from y) (by simp)) (by simp)
        · have e1 := (hok b _ z).1
          rw [e] at e1; cases e1
          exact (hok' b _ (un.frzs b o _ z)).1
  cases hk : K.lookup a with
  | some o =>
    have e := kin a o hk
    rw [la] at e
    cases e
    exact main (fun _ => none) (fun _ => .inl rfl) (.inr ⟨_, vs.toArray, _, hk, rfl, rfl, rfl, by rw [List.size_toArray, lv]; exact few, by simpa using rv⟩)
      (fun b u z => nomatch (show (none : Option HO) = some u from z)) (fun b z => absurd rfl z) fun z => absurd rfl z
  | none =>
    refine main (upd (fun _ => none) a (.frz { cls := .type "list", data := .seq vs.toArray } (.lst (ns.map V.int)))) (fun b => ?_) (.inl (.inr ⟨_, upd_same⟩)) (fun b u z => ?_) (fun b z => ?_) fun _ => hk
    · by_cases hb : b = a
      · subst hb; exact .inr ⟨_, _, upd_same⟩
      · exact .inl (upd_ne hb)
    · by_cases hb : b = a
      · subst hb
        rw [upd_same] at z
        cases z
        exact ⟨la, by rw [List.length_map]; exact few, vs, _, rv, la⟩
      · rw [upd_ne hb] at z; cases z
    · by_cases hb : b = a
      · exact hb
      · exact absurd (upd_ne hb) z

/-- the goal that k_head leaves, from the law's promise -/
theorem walkG {l : PySem.W.OpenLaw} {n k : Nat} {q : Program} {loose : List Str} {XP : (Str → Option Value) → Heap → Prop} {YP : World → Heap → Prop} {d : DefRec} {K : Params → PySem.W.Frag} {sp : PySem.W.Frag → Sp} {x : Str}
    (hn : l.most = some n) (hn2 : n ≤ sizeLine) (hdf : d.params.defaults = []) (hr : Room k callerA) (hY : ∀ (w : World) (h : Heap), YP w h → (K w.params).In h)
    (F : ∀ (w : World) (mg : Str → Option Value) (fa : Addr) (h : Heap), (K w.params).In h → h.Ns mainGlobals mg → mg d.name = some (.ref fa) →
      ∃ fd : FuncData, (∀ (s : Shared) (u : Value), BindsTo s fd ⟨[u], []⟩ [(x, u)]) ∧ ∀ base : Heap, (K w.params).In base → base.Ns mainGlobals mg → FnG l.prog w (K w.params) mg base k fa fd [x] (sp (K w.params)))
    (hsp : ∀ (K : PySem.W.Frag) (H : Hp) (a : Addr) (ns : List Int), ns.length ≤ n → (∀ z ∈ ns, Builtin.Int.intBits z ≤ 1048576) → Only H → SqL K H a (ns.map V.int) → sp K [.ref a] H (fun v _ => v = .bl true) E0) :
    PySem.W.WalkO q loose XP YP l.row.toRowW d [] (fun f vs => PySem.call f vs) := by
  refine Att.attach_callB hn hdf fun w s0 s1 mg mb fa o pm cd doc a vs ns G Y ho hd hcd hmg hobj hints hlen hbits hg => ?_
  obtain ⟨fd, hb, hF⟩ := F w mg fa _ (hY w _ Y) G.T.g hmg
  exact lawG (hY w _ Y) G.T.g G.T.b G.T.builtins G.T.nolimit hg hobj hints (Nat.le_trans hlen hn2) hr hF hb fun H hO hS => hsp (K w.params) H a ns hlen hbits hO hS
end Pr
namespace Pr
open PySem PySem.Spec PyProof.Rows L2

/-- a tuple of which it is known that it has no attributes of its own -/
def FT (H : Hp) (a : Addr) (xs : List V) : Prop := ∃ o : Obj, H a = some (.frz o (.tup xs)) ∧ o.dict = none
theorem FT.sq {K : PySem.W.Frag} {H : Hp} {a : Addr} {xs : List V} (h : FT H a xs) : SqT K H a xs := let ⟨o, e, _⟩ := h; .inl (.inr ⟨o, e⟩)
theorem FT.same {H H' : Hp} {a : Addr} {xs : List V} (e : Same H H') (h : FT H a xs) : FT H' a xs := let ⟨o, q, z⟩ := h; ⟨o, e _ _ q, z⟩
theorem same_sqT {K : PySem.W.Frag} {H H' : Hp} {a : Addr} {xs : List V} (e : Same H H') (h : SqT K H a xs) : SqT K H' a xs := by
  rcases h with (h | ⟨o, h⟩) | h
  · exact .inl (.inl (e _ _ h))
  · exact .inl (.inr ⟨o, e _ _ h⟩)
  · exact .inr h

section
variable {X : Cx}
/-! ### tuple(list), the tuple known -/
def rTupF (K : PySem.W.Frag) : List V → Hp → VK → Prop := fun xs H Q => ∃ p ys, xs = [.ref p] ∧ SqL K H p ys ∧ ∀ l o, H l = none → o.dict = none → Q (.ref l) (upd H l (.frz o (.tup ys)))
theorem call_tupF : CallR X (.type "tuple") (rTupF X.K) := by
  intro pins s σ H xs us Q I r h
  obtain ⟨p, ys, rfl, hq, q⟩ := h
  obtain ⟨u, rfl, rx⟩ := vals1 r
  cases rx
  obtain ⟨its, r', pl, hz⟩ := I.list hq
  have hlen := r'.length
  refine call_tuple_list pl.isList (fun h' kp => ?_) (by simp only [List.size_toArray] <;> omega)
  have I1 : Inv X pins σ H { s with heap := h' } := I.kept (t' := s.toks) kp
  have I2 := I1.laid (t' := s.toks) (h' := h'.push { cls := .type "tuple", data := .seq its.toArray }) (a := h'.objs.size)
    (o := .frz { cls := .type "tuple", data := .seq its.toArray } (.tup ys)) (fun b o e => Heap.get?_push_of_some _ e) (Nat.le_refl _) ⟨Heap.get?_push_size _ rfl, hz, its, r', IsTup.new _ _⟩
  exact ⟨.ref h'.objs.size, _, I2, rfl, q _ _ (I1.hok.fresh (Nat.le_refl _)) rfl⟩

/-! ### t.count(k) -/
def rCntT (K : PySem.W.Frag) : V → List V → Hp → VK → Prop := fun x xs H Q => ∃ (p : Addr) (ns : List Int) (k : Int), x = .ref p ∧ xs = [.int k] ∧ SqT K H p (ns.map V.int) ∧ Q (.int (ns.count k : Nat)) H
theorem mt_tcount : MtR X "tuple.count" (rCntT X.K) := by
  intro pins s σ H x xs v us Q I rx rxs h
  obtain ⟨p, ns, k, rfl, rfl, hs, q⟩ := h
  cases rx
  obtain ⟨u, rfl, t, rfl⟩ := rxs.one
  obtain ⟨its, rv, ⟨⟨cls, dd, data, sl⟩, ho, hc, n, hd⟩, hlen⟩ := I.tuple hs
  simp only at hc hd
  subst hc hd
  have hi := ints_of_vals rv
  refine call_meets PySem.F.slot_tuple_count ⟨_, ho, rfl⟩ PySem.F.entry_tuple_count (PySem.F.args_tuple_count_2 _ _)
    (SeqAt.tuple_countAt p its.toArray n dd sl (.int k t) (eqk k)) ⟨ho, fun y hy => (eqk_gives hi y (by simpa using hy)).at _ _, ?_⟩
  have ec : its.toArray.toList.countP (eqk k) = ns.count k := eqk_count hi
  rw [ec]
  exact ⟨.int (ns.count k : Nat), H, I.tok _, ⟨s.toks, rfl⟩, q⟩

/-- o.m(e, ..), o a tuple that is known -/
def tTM (r : V → List V → Hp → VK → Prop) (to : TE) (t : TA) : TE := fun σ H Q => to σ H fun x H1 => (∃ p xs, x = .ref p ∧ FT H1 p xs) ∧ t σ H1 fun vs H2 => r x vs H2 Q
theorem pe_tm {name : Str} {id : String} {r : V → List V → Hp → VK → Prop} {o e : Expr} {es : List Expr} {apos cpos : Pos} {to : TE} {t : TA} (slot : Slot "tuple" name id) (hty : typeOf (.builtin id) = pure (.type "method_descriptor")) (hm : MtR X id r) (ho : PE X o to) (ha : PA X (e :: es) t)
    (hbase : attributeBase o name X.env (eval o X.env) = eval o X.env := by rfl)
    (hfew : ((backTo cpos (starEach (e :: es) X.env)).all (fun x => !x.1) && (backToKw cpos (keywordEach [] X.env)).all (fun x => x.1.isSome) && decide ((e :: es).length + ([] : List Keyword).length + (if ([] : List Keyword).isEmpty then 0 else 1) < 30)) = true := by rfl)
    (hline : (apos.endLine == cpos.line) = true := by rfl) (hs : starEach (e :: es) X.env = (false, eval e X.env) :: starEach es X.env := by rfl)
    (hplain : (backTo cpos (starEach es X.env)).any (·.1) = false := by rfl) : PE X (.Call (.Attribute o name apos) (e :: es) [] cpos) (tTM r to t) := by
  refine ⟨fun pins s σ H Q I h => wpAny_Call_method_late hbase hfew hline rfl (thn (ho.run pins s σ H _ I h) fun v s1 ⟨x, H1, I1, r1, ⟨p, xs, ex, ob, hp, hdn⟩, q1⟩ => ?_)⟩
  subst ex
  cases r1
  obtain ⟨g1, _, its, _, ⟨o2, g2, hc, _⟩⟩ := I1.hok p _ hp
  rw [g1] at g2
  cases g2
  refine ⟨"tuple", id, PySem.F.plainAttrs_tuple, slot, hty, ⟨ob, g1, hc⟩, fun a e => by cases e; exact ⟨ob, g1, hdn⟩, ?_⟩
  have hA := ha.run cpos pins s1 σ H1 _ I1 q1
  rw [hs] at hA ⊢
  refine Calls.callWith_builtin (by show (false || (backTo cpos (starEach es X.env)).any (·.1)) = false; rw [hplain] <;> rfl) (Calls.evalArgs_plain ?_)
  exact thn hA fun us s2 ⟨vs, H2, I2, r2, q2⟩ => hm pins s2 σ H2 (.ref p) vs (.ref p) us Q I2 rfl r2 q2
end

/-! ### (x,) * 0 and (x,) * 1 -/
theorem tup_mul0 (l : Addr) (y : Value) (n : Nat) (dd : Option Addr) (sl : Array (Option Value)) (u : Tok) :
    Meets (Builtin.«tuple.__mul__» ⟨[.ref l, .int 0 u], []⟩) (fun _ R s => s.heap.get? l = some { cls := .type "tuple", dict := dd, data := .seq #[y] n, slots := sl } ∧
      R (.ok (.ret (Value.ref s.heap.objs.size))) { s with heap := s.heap.push { cls := Value.type "tuple", data := Data.seq #[] }, toks := s.toks }) :=
  .of_wp fun prog w A R s h => by
    obtain ⟨hp, g, d, tk, os⟩ := s
    obtain ⟨hl, h⟩ := h
    have f1 := AutoSeq1.idx_int
    wp_walk using AutoSeq1.wpAny_loadPart' hl
    exact ⟨_, rfl, h⟩
theorem tup_mul1 (l : Addr) (y : Value) (n : Nat) (dd : Option Addr) (sl : Array (Option Value)) (u : Tok) :
    Meets (Builtin.«tuple.__mul__» ⟨[.ref l, .int 1 u], []⟩) (fun _ R s => s.heap.get? l = some { cls := .type "tuple", dict := dd, data := .seq #[y] n, slots := sl } ∧ R (.ok (.ret (.ref l))) s) :=
  .of_wp fun prog w A R s h => by
    obtain ⟨hp, g, d, tk, os⟩ := s
    obtain ⟨hl, h⟩ := h
    have f1 := AutoSeq1.idx_int
    wp_walk using AutoSeq1.wpAny_loadPart' hl
    exact ⟨_, rfl, h⟩
section
variable {X : Cx}
def rRep1 (K : PySem.W.Frag) : R2 := fun x y H Q => ∃ l v, x = .ref l ∧ SqT K H l [v] ∧ ((y = .int 1 ∧ Q (.ref l) H) ∨ (y = .int 0 ∧ ∀ p, H p = none → Q (.ref p) (upd H p (.tup []))))
theorem op_rep1 : OpR X (binaryOp .Mult) (rRep1 X.K) := by
  intro pins s σ H x y v u Q I rx ry h
  obtain ⟨l, z, rfl, hT, h⟩ := h
  cases rx
  obtain ⟨its, r, ⟨⟨cls, dd, data, sl⟩, ho, hc, n, hd⟩, hs⟩ := I.tuple hT
  simp only at hc hd
  subst hc hd
  obtain ⟨a, rfl, ra⟩ := vals1 r
  rcases h with ⟨rfl, q⟩ | ⟨rfl, q⟩
  · obtain ⟨t, rfl⟩ := ry
    refine wpAny_binaryOp_repeat_ref (T := "tuple") (U := "int") (by decide) ⟨_, ho, rfl⟩ (fun s' => typeIs_int s' 1 t) noFill_tuple_mul F.fills_int_mul F.slot_int_rmul repeat_tuple F.slot_int_index.lookup
      (call_meets F.slot_int_rmul (typeIs_int s 1 t) F.entry_int_rmul (F.args_int_rmul_2 _ _) (int_rmul_tuple 1 t l #[a] n dd sl)
        ⟨ho, rfl, ⟨_, ho, rfl⟩, call_meets F.slot_tuple_mul ⟨_, ho, rfl⟩ F.entry_tuple_mul (F.args_tuple_mul_2 _ _) (tup_mul1 l a n dd sl t) ⟨ho, ?_⟩⟩)
    exact ⟨.ref l, H, I, rfl, q⟩
  · obtain ⟨t, rfl⟩ := ry
    refine wpAny_binaryOp_repeat_ref (T := "tuple") (U := "int") (by decide) ⟨_, ho, rfl⟩ (fun s' => typeIs_int s' 0 t) noFill_tuple_mul F.fills_int_mul F.slot_int_rmul repeat_tuple F.slot_int_index.lookup
      (call_meets F.slot_int_rmul (typeIs_int s 0 t) F.entry_int_rmul (F.args_int_rmul_2 _ _) (int_rmul_tuple 0 t l #[a] n dd sl)
        ⟨ho, rfl, ⟨_, ho, rfl⟩, call_meets F.slot_tuple_mul ⟨_, ho, rfl⟩ F.entry_tuple_mul (F.args_tuple_mul_2 _ _) (tup_mul0 l a n dd sl t) ⟨ho, ?_⟩⟩)
    refine ⟨.ref s.heap.objs.size, _, I.laid (t' := s.toks) (o := .tup []) (fun b ob q => Heap.get?_push_of_some _ q) (Nat.le_refl _) ?_, rfl, q _ (I.hok.fresh (Nat.le_refl _))⟩
    exact ⟨Nat.zero_le _, [], .nil, IsTup.new _ _⟩
end

/-! ### enumerate(tuple) -/
theorem enum_newT (l : Addr) (items : Array Value) (n : Nat) (dct : Option Addr) (sl : Array (Option Value)) :
    Meets (Builtin.«enumerate.__new__» ⟨[.type "enumerate", .ref l], []⟩) (fun _ R s => s.heap.get? l = some { cls := .type "tuple", dict := dct, data := .seq items n, slots := sl } ∧
      R (.ok (.ret (.ref (s.heap.push { cls := .type "tuple_iterator", data := .fields #[.ref l, .int 0 0] }).objs.size)))
        { s with heap := (s.heap.push { cls := .type "tuple_iterator", data := .fields #[.ref l, .int 0 0] }).push { cls := .type "enumerate", data := .fields #[.none, .bool false, .ref s.heap.objs.size, rawInt 0, .none, .none] } }) :=
  .of_wp fun prog w A R s h => by
    obtain ⟨hp, g, d, tk, os⟩ := s; obtain ⟨hl, h⟩ := h
    have hsub := sub_enumerate
    have hL : Heap.IsTuple (Shared.heap ⟨hp, g, d, tk, os⟩) l items := ⟨_, hl, rfl, n, rfl⟩
    wp_walk using AutoSeq1.wpAny_loadPart' hl
    refine wpAny_stack_any fun st => wpAny_pure ?_
    split
    · rename_i c _ _ _ _ _
      cases (c == Value.type "enumerate") <;> (wp_walk using AutoSeq1.wpAny_loadPart' hl, wpAny_pyIter_tuple hL; exact ⟨_, rfl, h⟩)
    · wp_walk using AutoSeq1.wpAny_loadPart' hl, wpAny_pyIter_tuple hL
      exact ⟨_, rfl, h⟩
theorem call_enumT {prog : Program} {w : World} {A : Around} {E : Value → Shared → Prop} {s : Shared} {l : Addr} {items : Array Value} {Q : Value → Shared → Prop} (hL : s.heap.IsTuple l items)
    (h : ∀ h', IsEnum h' (s.heap.objs.size + 1) s.heap.objs.size 0 .none → h'.IsTupleIter s.heap.objs.size l 0 → h'.objs.size = s.heap.objs.size + 2 →
      (∀ b o, s.heap.get? b = some o → h'.get? b = some o) → Q (.ref (s.heap.objs.size + 1)) { s with heap := h' }) :
    wpAny (model prog w) A (call (.type "enumerate") [.ref l]) Q E s := by
  obtain ⟨⟨c, dct, dt, sl⟩, hl, hc, n, hd⟩ := hL
  simp only at hc hd
  subst hc hd
  refine callType_new F.called_enumerate (by decide) (F.typeCall_enumerate_1 _) (F.newCall_enumerate_1 _) (fun obj => F.args_object_init_2 obj _) F.entry_enumerate_new (enum_newT l items n dct sl) ⟨hl, ?_⟩
  generalize ho : ({ cls := .type "tuple_iterator", data := .fields #[.ref l, .int 0 0] } : Obj) = o1
  have f1 : o1.isFreed = false := by rw [← ho]; rfl
  generalize hp : ({ cls := .type "enumerate", data := .fields #[.none, .bool false, .ref s.heap.objs.size, rawInt 0, .none, .none] } : Obj) = o2
  have f2 : o2.isFreed = false := by rw [← hp]; rfl
  have hz : (s.heap.push o1).objs.size = s.heap.objs.size + 1 := Heap.size_push ..
  have hg := Heap.get?_push_size (s.heap.push o1) (o := o2) f2
  show _ ∧ _
  rw [hz] at hg ⊢
  have he : IsEnum ((s.heap.push o1).push o2) (s.heap.objs.size + 1) s.heap.objs.size 0 .none := by rw [hp.symm] at hg ⊢; exact hg
  refine ⟨⟨_, he, rfl⟩, h _ he ⟨_, Heap.get?_push_of_some _ (Heap.get?_push_size _ f1), by rw [← ho], by rw [← ho]; rfl⟩ (by rw [Heap.size_push, hz]) fun b o x => Heap.get?_push_of_some _ (Heap.get?_push_of_some _ x)⟩
/-- the tuple at a, each item in a new pair -/
def Itet (K : PySem.W.Frag) (a : Addr) : It :=
  ⟨fun i H => ∃ (xs : List V) (x : V), SqT K H a xs ∧ xs[i]? = some x, fun i H v H' => ∃ T x, v = .ref T ∧ H T = none ∧ H' = upd H T (.tup [.int (i : Nat), x]) ∧ ∀ xs, SqT K H a xs → xs[i]? = some x,
    fun i H => ∃ xs : List V, SqT K H a xs ∧ xs.length ≤ i⟩
theorem turn_enumT {P : Program} {w : World} {K : PySem.W.Frag} {elts : List Expr} {kk : Nat} {tpos : Pos} (a e it : Addr) :
    Turn P w K (.Tuple elts kk tpos) (Itet K a) [e, it] e (fun i h => (∃ old, IsEnum h e it ((i : Nat) : Int) old) ∧ h.IsTupleIter it a i ∧ e ≠ it) where
  mem := by simp
  obj := fun i h st b hb => by
    obtain ⟨⟨old, he⟩, ⟨o, ho, hc, hd⟩, _⟩ := st
    rcases (show b = e ∨ b = it by simpa using hb) with rfl | rfl
    · exact ⟨_, he, fun v q => nomatch q⟩
    · exact ⟨o, ho, fun v q => by rw [hd] at q; cases q⟩
  keep := fun i h h' st k => let ⟨⟨old, he⟩, hi, hne⟩ := st; ⟨⟨old, k e (by simp) _ he⟩, hi.at fun o q => k it (by simp) o q, hne⟩
  item := by
    intro X hP hw hK hc i pins s σ H E I hf st hg
    subst hP hw hK
    obtain ⟨⟨old, he⟩, hit, hne⟩ := st
    obtain ⟨xs, x, hq, hx⟩ := hg
    obtain ⟨its, rv, pt, hz⟩ := I.tuple hq
    have hT : s.heap.IsTuple a its.toArray := pt
    obtain ⟨u, hu, ru⟩ := rv.get hx
    have hel : e < s.heap.objs.size := Heap.lt_size he
    have hil : it < s.heap.objs.size := by obtain ⟨_, q, _⟩ := hit; exact Heap.lt_size q
    have nai : a ≠ it := fun z => by
      subst z
      obtain ⟨o1, q1, c1, _⟩ := hit
      obtain ⟨o2, q2, c2, _⟩ := hT
      rw [q1] at q2; cases q2
      rw [c1] at c2; exact absurd c2 (by decide)
    have nea : e ≠ a := fun z => by
      subst z
      obtain ⟨o2, q2, c2, _⟩ := hT
      have he' : s.heap.get? e = _ := he
      rw [he'] at q2; cases q2
      exact absurd (show Value.type "enumerate" = Value.type "tuple" from c2) (by decide)
    have hi : i < its.toArray.size := by
      have := (List.getElem?_eq_some_iff.mp hu).1
      simpa using this
    refine wpAny_pyNext_enum_itemD (Draws.tuple (A := X.A.in1) (I.ok.hd hc) it a nai its.toArray) he ⟨hit, hT⟩ hi hne (by simp [hne, nea]) fun y h' tk hy ho hit' hT' hsz hk => ?_
    obtain rfl : y = u := by
      have hy' : its.toArray[i]? = some y := hy
      rw [List.getElem?_toArray, hu] at hy'
      exact (Option.some.inj hy').symm
    refine ⟨_, rfl, wpAny_letOwnedTupleGo_enum (s := { s with heap := h', toks := tk + 1 }) ho fun h'' he' sb => ?_⟩
    have hT2 : h''.get? s.heap.objs.size = some { cls := .type "tuple", data := .seq #[.int i tk, y] } := (sb.2 _ (Nat.ne_of_gt hel)).trans hT'
    have new : ObjOk X.prog X.w (upd H s.heap.objs.size (.tup [.int (i : Nat), x])) h'' s.heap.objs.size (.tup [.int (i : Nat), x]) :=
      ⟨by show 2 ≤ sizeLine; decide, [.int i tk, y], .cons ⟨_, rfl⟩ (.cons ru .nil), ⟨_, hT2, rfl, _, rfl⟩⟩
    have I1 := I.turnedNew (t' := tk + 1) (ch := [e, it]) (fun b ob hb q => (sb.2 b (fun z => hb (by simp [z]))).trans (hk b ob (fun z => hb (by simp [z])) (fun z => hb (by simp [z])) q)) hf (Nat.le_refl _) new
    refine ⟨.ref s.heap.objs.size, _, I1, rfl, ⟨_, x, rfl, I.hok.fresh (Nat.le_refl _), rfl, fun ys hys => by rw [I.tuple_inj hys hq]; exact hx⟩, ⟨⟨y, ?_⟩, hit'.1.at fun o q => (sb.2 it (Ne.symm hne)).trans q, hne⟩, fun b hb => ?_⟩
    · rw [show ((i + 1 : Nat) : Int) = (i : Int) + 1 by omega]; exact he'
    · have hb' : b < s.heap.objs.size := by
        rcases (show b = e ∨ b = it by simpa using hb) with rfl | rfl
        · exact hel
        · exact hil
      rw [upd_ne (Nat.ne_of_lt hb')]
      exact (hf b hb).1
  done := by
    intro X hP hw hK hc i pins s σ H E I hf st hg
    subst hP hw hK
    obtain ⟨⟨old, he⟩, hit, hne⟩ := st
    obtain ⟨xs, hq, hx⟩ := hg
    obtain ⟨its, rv, pt, hz⟩ := I.tuple hq
    have hT : s.heap.IsTuple a its.toArray := pt
    obtain ⟨f0, f1, f2, f3, f4, f5⟩ := hf it (by simp)
    have hl := rv.length
    have hT : s.TypeIs (.ref e) "enumerate" := ⟨_, he, rfl⟩
    unfold pyNext
    refine wpAny_bind (wpAny_attempt (wpAny_callSpecial?_slot (name := Str.ofString "__next__") hT F.slot_enumerate_next (wpAny_call_entry F.slot_enumerate_next hT F.entry_enumerate_next ?_ (F.args_enumerate_next_1 _))))
    show wpAny _ _ (field (.ref e) 2 >>= _) _ _ _
    refine wpAny_bind (wpAny_field he rfl (x := .ref it) rfl ?_)
    refine wpAny_bind (wpAny_nextOf_tuple_end (I.ok.hd hc) hit pt (by simp; omega) fun h' x eb hx' => ?_)
    obtain ⟨o, ho, hcx⟩ := hx'
    refine wpAny_bind (wpAny_isInstance (T := "StopIteration") (b := true) ⟨o, ho, hcx⟩ isSubtype_stop ?_)
    exact wpAny_pure ⟨rfl, I.turned (t' := s.toks) (fun b o hb q => eb b o hb q) f0 f1 f3 f4 f5⟩
  self := fun A i s Q E st h => let ⟨⟨_, he⟩, _⟩ := st; wpAny_pyIter_enum he h
def iEnumT (K : PySem.W.Frag) (ta : TA) : TI := fun σ H R => ta σ H fun vs H1 => ∃ a xs, vs = [.ref a] ∧ SqT K H1 a xs ∧ R (Itet K a) H1
theorem pi_enumT {X : Cx} {e : Expr} {ta : TA} {p pos tpos : Pos} {elts : List Expr} {kk : Nat} (hg : Gl X "enumerate") (hm : X.mg "enumerate" = none) (ha : PA X [e] ta)
    (hs : starEach [e] X.env = [(false, eval e X.env)] := by rfl) : PI X (.Tuple elts kk tpos) (.Call (.Name "enumerate" p) [e] [] pos) (iEnumT X.K ta) := by
  refine ⟨fun pins s σ H R I h => Call_ (ld_blt I hg hm boot_enumerate (PyProof.Rows.callWith_type1 (thn (ha.run pos pins s σ H _ I h) fun us s1 ⟨vs, H1, I1, r1, a, xs, ex, hq, q⟩ => ?_) hs rfl))⟩
  subst ex
  obtain ⟨u, rfl, rx⟩ := vals1 r1
  cases rx
  obtain ⟨its, rv, pt, hz⟩ := I1.tuple hq
  refine call_enumT pt fun h' he hit hsz hk => wpAny_pyIter_enum he ?_
  refine ⟨s1.heap.objs.size + 1, [s1.heap.objs.size + 1, s1.heap.objs.size], _, _, H1, rfl, I1.kept (t' := s1.toks) hk, turn_enumT a (s1.heap.objs.size + 1) s1.heap.objs.size, ⟨⟨.none, he⟩, hit, Nat.succ_ne_self _⟩, fun b hb => ?_, q⟩
  have hle : s1.heap.objs.size ≤ b := by
    rcases (show b = s1.heap.objs.size + 1 ∨ b = s1.heap.objs.size by simpa using hb) with rfl | rfl
    · exact Nat.le_add_right _ _
    · exact Nat.le_refl _
  exact I1.fpOk hle (I1.hok.fresh hle)
theorem walk_enumT {K : PySem.W.Frag} {a : Addr} {xs : List V} : Walk (Itet K a) xs.length (fun H => SqT K H a xs) (YPair (fun i => some (.int (i : Nat))) (fun i => xs[i]?)) := by
  refine ⟨fun i _ hi q => ⟨xs, xs[i], q, by simp [hi]⟩, fun _ q => ⟨xs, q, Nat.le_refl _⟩, fun i H v H' _ q y => ?_⟩
  obtain ⟨T, x, h1, h2, h3, h4⟩ := y
  exact ⟨T, .int (i : Nat), x, h1, h2, h3, rfl, h4 xs q⟩
end Pr
namespace Pr
open PySem PySem.Spec PyProof.Rows L2
/-! ### data that repr can show: how deep, how long -/
structure Shw (dep n : Nat) (d : PyData) : Prop where
  sh : d.showable = true
  nd : d.hasDict = false
  dp : d.depth ≤ dep
  ln : d.shown.length ≤ n
theorem Shw.mono {dep dep' n n' : Nat} {d : PyData} (h : Shw dep n d) (h1 : dep ≤ dep') (h2 : n ≤ n') : Shw dep' n' d := ⟨h.sh, h.nd, Nat.le_trans h.dp h1, Nat.le_trans h.ln h2⟩
theorem Shw.int {i : Int} {k : Nat} (h0 : 0 ≤ i) (hk : 0 < k) (hk2 : k ≤ 100) (h : i < 10 ^ k) : Shw 0 k (.int i) := by
  refine ⟨?_, by simp only [PyData.hasDict], by simp [PyData.depth], ?_⟩
  · simp only [PyData.showable, decide_eq_true_eq]
    by_cases hz : i.natAbs = 0
    · rw [hz]; decide
    · refine (Nat.log2_lt hz).mpr ?_
      have h1 : (i.natAbs : Int) < ((10 ^ k : Nat) : Int) := by
        rw [Int.natCast_pow]
        have : ((i.natAbs : Nat) : Int) = i := Int.natAbs_of_nonneg h0
        rw [this]; exact h
      have h2 : i.natAbs < 10 ^ k := by exact_mod_cast h1
      have h3 : (10 : Nat) ^ k ≤ 10 ^ 100 := Nat.pow_le_pow_right (by decide) hk2
      have h4 : (10 : Nat) ^ 100 < 2 ^ 1920 := by decide +kernel
      omega
  · simp only [PyData.shown]
    exact toString_length_le h0 hk h
theorem shownAll_map : ∀ ds : List PyData, PyData.shownAll ds = ds.map PyData.shown
  | [] => rfl
  | d :: r => by simp only [PyData.shownAll, List.map_cons, shownAll_map r]
theorem piled_le {n : Nat} : ∀ {ds : List PyData}, (∀ d ∈ ds, d.shown.length ≤ n) → piled (ds.map PyData.shown) ≤ ds.length * (n + 2)
  | [], _ => by simp [piled_nil]
  | d :: r, h => by
    have h1 := piled_le (ds := r) fun x hx => h x (List.mem_cons_of_mem _ hx)
    have h2 := h d List.mem_cons_self
    rw [List.map_cons, piled_cons, List.length_cons, Nat.succ_mul]
    omega
theorem showAll_of {dep n : Nat} : ∀ {ds : List PyData}, (∀ d ∈ ds, Shw dep n d) → PyData.showableAll ds = true ∧ PyData.hasDictAll ds = false ∧ PyData.depthAll ds ≤ dep
  | [], _ => ⟨by simp only [PyData.showableAll], by simp only [PyData.hasDictAll], by simp [PyData.depthAll]⟩
  | d :: r, h => by
    obtain ⟨h1, h2, h3⟩ := showAll_of (ds := r) fun x hx => h x (List.mem_cons_of_mem _ hx)
    have g := h d List.mem_cons_self
    refine ⟨by simp only [PyData.showableAll, g.sh, h1, Bool.and_self], by simp only [PyData.hasDictAll, g.nd, h2, Bool.or_self], ?_⟩
    simp only [PyData.depthAll]
    exact Nat.max_le.mpr ⟨g.dp, h3⟩
theorem tupleText_len (ts : List Str) : (tupleText ts).length ≤ piled ts + 3 := by
  unfold tupleText
  rw [strLen_append, strLen_append]
  have e1 : (("(" : Str)).length = 1 := by decide +kernel
  have e2 : ((if ts.length == 1 then ",)" else ")" : String) : Str).length ≤ 2 := by
    cases ts.length == 1 <;> decide +kernel
  by_cases h : ts = []
  · subst h
    have : (Str.join ", " ([] : List Str)).length = 0 := by decide +kernel
    omega
  · have := join_length_add ts h
    omega
theorem textFrom_le : ∀ (ts : List Str) (k : Nat) (acc : Str), (textFrom k acc ts).length ≤ acc.length + piled ts
  | [], k, acc => by simp [textFrom, piled_nil]
  | t :: r, k, acc => by
    have h := textFrom_le r (k + 1) (acc ++ (if k > 0 then ", " else "" : String) ++ t)
    rw [piled_cons]
    show (textFrom (k + 1) _ r).length ≤ _
    have e : ((if k > 0 then ", " else "" : String) : Str).length ≤ 2 := by split <;> decide +kernel
    rw [strLen_append, strLen_append] at h
    omega
theorem listText_len (ts : List Str) : (listText ts).length ≤ piled ts + 2 := by
  unfold listText
  rw [strLen_append]
  have h := textFrom_le ts 0 "["
  have e1 : (("[" : Str)).length = 1 := by decide +kernel
  have e2 : (("]" : Str)).length = 1 := by decide +kernel
  omega
theorem Shw.tuple {dep n m : Nat} {ds : List PyData} (h : ∀ d ∈ ds, Shw dep n d) (hm : ds.length ≤ m) : Shw (dep + 1) (m * (n + 2) + 3) (.tuple ds) := by
  obtain ⟨h1, h2, h3⟩ := showAll_of h
  refine ⟨by simp only [PyData.showable, h1], by simp only [PyData.hasDict, h2], by simp only [PyData.depth]; omega, ?_⟩
  simp only [PyData.shown]
  rw [shownAll_map]
  have a1 := tupleText_len (ds.map PyData.shown)
  have a2 := piled_le fun d hd => (h d hd).ln
  have a3 : ds.length * (n + 2) ≤ m * (n + 2) := Nat.mul_le_mul_right _ hm
  omega
theorem Shw.list {dep n m : Nat} {ds : List PyData} (h : ∀ d ∈ ds, Shw dep n d) (hm : ds.length ≤ m) : Shw (dep + 1) (m * (n + 2) + 3) (.list ds) := by
  obtain ⟨h1, h2, h3⟩ := showAll_of h
  refine ⟨by simp only [PyData.showable, h1], by simp only [PyData.hasDict, h2], by simp only [PyData.depth]; omega, ?_⟩
  simp only [PyData.shown]
  rw [shownAll_map]
  have a1 := listText_len (ds.map PyData.shown)
  have a2 := piled_le fun d hd => (h d hd).ln
  have a3 : ds.length * (n + 2) ≤ m * (n + 2) := Nat.mul_le_mul_right _ hm
  omega

/-! ### the deck, panels -/
/-- only what stands at a and c may have changed -/
def But (a c : Addr) (H H' : Hp) : Prop := ∀ b o, b ≠ a → b ≠ c → H b = some o → H' b = some o
theorem But.refl (a c : Addr) (H : Hp) : But a c H H := fun _ _ _ _ h => h
theorem But.trans {a c : Addr} {H H1 H2 : Hp} (x : But a c H H1) (y : But a c H1 H2) : But a c H H2 := fun b o h1 h2 h => y b o h1 h2 (x b o h1 h2 h)
theorem But.of {a c : Addr} {H H' : Hp} (x : Same H H') : But a c H H' := fun b o _ _ h => x b o h
theorem same_new {H : Hp} {p : Addr} {o : HO} (h : H p = none) : Same H (upd H p o) := fun b x e => by
  rw [upd_ne (ne_of_none e h)]; exact e
/-- the deck at a, its cells at c, m draws may still be made -/
def Deck (H : Hp) (a c : Addr) (m : Nat) : Prop :=
  ∃ (cells : List Int) (n : Nat), H a = some (.lst [.ref c, .int (n : Int)]) ∧ H c = some (.lst (cells.map V.int)) ∧ a ≠ c ∧ cells.length ≤ 63 ∧ n + m ≤ 1000000
theorem Deck.same {H H' : Hp} {a c : Addr} {m : Nat} (e : Same H H') (h : Deck H a c m) : Deck H' a c m :=
  let ⟨cs, n, h1, h2, h3⟩ := h; ⟨cs, n, e _ _ h1, e _ _ h2, h3⟩
theorem Deck.less {H : Hp} {a c : Addr} {m m' : Nat} (h : Deck H a c m) (z : m' ≤ m) : Deck H a c m' :=
  let ⟨cs, n, h1, h2, h3, h4, h5⟩ := h; ⟨cs, n, h1, h2, h3, h4, by omega⟩
theorem Deck.apart {H : Hp} {a c : Addr} {m : Nat} (h : Deck H a c m) {b : Addr} {o : HO} (e : H b = some o) (ho : ∀ xs, o ≠ .lst xs) : b ≠ a ∧ b ≠ c := by
  obtain ⟨cs, n, h1, h2, _⟩ := h
  exact ⟨ne_of e h1 (ho _), ne_of e h2 (ho _)⟩
theorem Deck.fresh {H : Hp} {a c : Addr} {m : Nat} (h : Deck H a c m) {b : Addr} (e : H b = none) : b ≠ a ∧ b ≠ c := by
  obtain ⟨cs, n, h1, h2, _⟩ := h
  exact ⟨Ne.symm (ne_of_none h1 e), Ne.symm (ne_of_none h2 e)⟩
theorem FT.but {H H' : Hp} {a c p : Addr} {m : Nat} {xs : List V} (d : Deck H a c m) (b : But a c H H') (h : FT H p xs) : FT H' p xs := by
  obtain ⟨o, e, z⟩ := h
  have q := d.apart e (fun _ => by intro z; cases z)
  exact ⟨o, b _ _ q.1 q.2 e, z⟩
theorem tup_but {H H' : Hp} {a c p : Addr} {m : Nat} {xs : List V} (d : Deck H a c m) (b : But a c H H') (h : H p = some (.tup xs)) : H' p = some (.tup xs) := by
  have q := d.apart h (fun _ => by intro z; cases z)
  exact b _ _ q.1 q.2 h
/-- a panel at p -/
def PanAt (H : Hp) (p : Addr) (pan : List (List Int)) : Prop := ∃ qs : List Addr, FT H p (qs.map V.ref) ∧ Paired (fun q l => FT H q (l.map V.int)) qs pan
theorem PanAt.same {H H' : Hp} {p : Addr} {pan : List (List Int)} (e : Same H H') (h : PanAt H p pan) : PanAt H' p pan :=
  let ⟨qs, h1, h2⟩ := h; ⟨qs, h1.same e, h2.mono fun _ _ x => x.same e⟩
theorem PanAt.but {H H' : Hp} {a c p : Addr} {m : Nat} {pan : List (List Int)} (d : Deck H a c m) (b : But a c H H') (h : PanAt H p pan) : PanAt H' p pan :=
  let ⟨qs, h1, h2⟩ := h; ⟨qs, h1.but d b, h2.mono fun _ _ x => x.but d b⟩
theorem paired_get {α β : Type} {F : α → β → Prop} : ∀ {l1 : List α} {l2 : List β}, Paired F l1 l2 → ∀ (i : Nat) (y : β), l2[i]? = some y → ∃ x, l1[i]? = some x ∧ F x y
  | _, _, .nil, i, y, h => by simp at h
  | _, _, .cons r t, 0, y, h => by simp at h; subst h; exact ⟨_, rfl, r⟩
  | _, _, .cons r t, i + 1, y, h => by
    obtain ⟨x, h1, h2⟩ := paired_get t i y (by simpa using h)
    exact ⟨x, by simpa using h1, h2⟩
/-- what the document calls a panel of at most ten buttons -/
structure Good (pan : List (List Int)) : Prop where
  pos : 1 ≤ pan.length
  few : pan.length ≤ 10
  up : ∀ l ∈ pan, l.Pairwise (· < ·)
  rng : ∀ l ∈ pan, ∀ x ∈ l, 0 ≤ x ∧ x < (pan.length : Int)
  own : ∀ (i : Nat) (l : List Int), pan[i]? = some l → (i : Int) ∉ l
def dInts (l : List Int) : PyData := .tuple (l.map PyData.int)
def dPan (pan : List (List Int)) : PyData := .tuple (pan.map dInts)
section
variable {K : PySem.W.Frag} {H : Hp}
theorem dpAll_ints : ∀ l : List Int, DpAll K H (l.map V.int) (l.map PyData.int)
  | [] => .nil
  | x :: r => .cons (.int x) (dpAll_ints r)
theorem dp_ints {q : Addr} {l : List Int} (h : SqT K H q (l.map V.int)) : Dp K H (.ref q) (dInts l) := .tup h (dpAll_ints l)
theorem dpAll_pan : ∀ {qs : List Addr} {pan : List (List Int)}, Paired (fun q l => FT H q (l.map V.int)) qs pan → DpAll K H (qs.map V.ref) (pan.map dInts)
  | _, _, .nil => .nil
  | _, _, .cons r t => .cons (dp_ints r.sq) (dpAll_pan t)
theorem PanAt.dp {p : Addr} {pan : List (List Int)} (h : PanAt H p pan) : Dp K H (.ref p) (dPan pan) := by
  obtain ⟨qs, h1, h2⟩ := h
  exact .tup h1.sq (dpAll_pan h2)
end
theorem pw_length {n : Nat} : ∀ {l : List Int} {lo : Int}, l.Pairwise (· < ·) → (∀ x ∈ l, lo ≤ x ∧ x < lo + n) → l.length ≤ n := by
  induction n with
  | zero =>
    intro l lo _ h
    cases l with
    | nil => exact Nat.le_refl _
    | cons x r => have := h x List.mem_cons_self; omega
  | succ n ih =>
    intro l lo hp h
    cases l with
    | nil => exact Nat.zero_le _
    | cons x r =>
      have hx := h x List.mem_cons_self
      rw [List.pairwise_cons] at hp
      have := ih (l := r) (lo := lo + 1) hp.2 fun y hy => by
        have h1 := hp.1 y hy
        have h2 := h y (List.mem_cons_of_mem _ hy)
        omega
      rw [List.length_cons]; omega
theorem shw_ints {l : List Int} {m : Nat} (hl : l.length ≤ m) (h : ∀ x ∈ l, 0 ≤ x ∧ x < 10) : Shw 1 (m * 3 + 3) (dInts l) := by
  refine Shw.tuple (fun d hd => ?_) (by rw [List.length_map]; exact hl)
  obtain ⟨x, hx, rfl⟩ := List.mem_map.mp hd
  exact Shw.int (h x hx).1 (by decide) (by decide) (h x hx).2
theorem Good.shw {pan : List (List Int)} (g : Good pan) : Shw 2 353 (dPan pan) := by
  have := Shw.tuple (dep := 1) (n := 33) (m := 10) (ds := pan.map dInts) (fun d hd => ?_) (by rw [List.length_map]; exact g.few)
  · exact this
  · obtain ⟨l, hl, rfl⟩ := List.mem_map.mp hd
    have hf := g.few
    refine shw_ints (m := 10) (pw_length (n := 10) (lo := 0) (g.up l hl) fun x hx => ?_) fun x hx => ?_
    · have := g.rng l hl x hx; omega
    · have := g.rng l hl x hx; omega
end Pr
/-! Presses, as plain functions. -/
namespace Pr
open PySem PySem.Spec PyProof.Rows L2
def intL (n : Nat) : List Int := (List.range n).map fun i : Nat => (i : Int)
theorem mem_intL {n : Nat} {x : Int} : x ∈ intL n ↔ 0 ≤ x ∧ x < (n : Int) := by
  unfold intL
  rw [List.mem_map]
  constructor
  · rintro ⟨i, hi, rfl⟩
    have := List.mem_range.mp hi
    omega
  · rintro ⟨h0, h1⟩
    exact ⟨x.toNat, List.mem_range.mpr (by omega), Int.toNat_of_nonneg h0⟩
theorem intL_up (n : Nat) : (intL n).Pairwise (· < ·) := by
  unfold intL
  rw [List.pairwise_map]
  exact List.pairwise_lt_range.imp fun {a b} (h : a < b) => by omega
theorem intL_len (n : Nat) : (intL n).length = n := by unfold intL; rw [List.length_map, List.length_range]
theorem intL_succ (n : Nat) : intL (n + 1) = intL n ++ [(n : Int)] := by unfold intL; rw [List.range_succ, List.map_append]; rfl
/-- a state of n buttons -/
structure Asc (n : Nat) (st : List Int) : Prop where
  up : st.Pairwise (· < ·)
  rng : ∀ x ∈ st, 0 ≤ x ∧ x < (n : Int)
theorem Asc.nil (n : Nat) : Asc n [] := ⟨List.Pairwise.nil, fun _ h => by cases h⟩
theorem Asc.full (n : Nat) : Asc n (intL n) := ⟨intL_up n, fun _ h => mem_intL.mp h⟩
theorem Asc.filter (n : Nat) (f : Int → Bool) : Asc n ((intL n).filter f) := ⟨(intL_up n).filter f, fun _ h => mem_intL.mp (List.mem_filter.mp h).1⟩
theorem Asc.len {n : Nat} {st : List Int} (h : Asc n st) : st.length ≤ n := pw_length (lo := 0) h.up fun x hx => by have := h.rng x hx; omega
theorem asc_ext : ∀ {l1 l2 : List Int}, l1.Pairwise (· < ·) → l2.Pairwise (· < ·) → (∀ x, x ∈ l1 ↔ x ∈ l2) → l1 = l2
  | [], [], _, _, _ => rfl
  | [], y :: r, _, _, h => absurd ((h y).mpr List.mem_cons_self) (by simp)
  | x :: r, [], _, _, h => absurd ((h x).mp List.mem_cons_self) (by simp)
  | x :: r, y :: t, h1, h2, h => by
    rw [List.pairwise_cons] at h1 h2
    have exy : x = y := by
      rcases List.mem_cons.mp ((h x).mp List.mem_cons_self) with e | e
      · exact e
      · rcases List.mem_cons.mp ((h y).mpr List.mem_cons_self) with e' | e'
        · exact e'.symm
        · have a1 := h2.1 x e
          have a2 := h1.1 y e'
          omega
    subst exy
    have : r = t := asc_ext h1.2 h2.2 fun z => by
      constructor
      · intro hz
        rcases List.mem_cons.mp ((h z).mp (List.mem_cons_of_mem _ hz)) with e | e
        · have := h1.1 z hz; omega
        · exact e
      · intro hz
        rcases List.mem_cons.mp ((h z).mpr (List.mem_cons_of_mem _ hz)) with e | e
        · have := h2.1 z hz; omega
        · exact e
    rw [this]
theorem Asc.eq {n : Nat} {st : List Int} (h : Asc n st) : (intL n).filter (fun x => decide (x ∈ st)) = st :=
  asc_ext ((intL_up n).filter _) h.up fun x => by
    rw [List.mem_filter, decide_eq_true_eq, mem_intL]
    exact ⟨fun q => q.2, fun q => ⟨h.rng x q, q⟩⟩
def pressM (pan : List (List Int)) (st : List Int) (b : Int) : List Int := (intL pan.length).filter fun x => decide (x = b ∨ (x ∈ st ∧ x ∉ pan.getD b.toNat []))
def runM (pan : List (List Int)) (st : List Int) (row : List Int) : List Int := row.foldl (pressM pan) st
theorem pressM_asc (pan : List (List Int)) (st : List Int) (b : Int) : Asc pan.length (pressM pan st b) := Asc.filter _ _
theorem runM_asc {pan : List (List Int)} : ∀ {row st : List Int}, Asc pan.length st → Asc pan.length (runM pan st row)
  | [], _, h => h
  | b :: r, st, _ => runM_asc (row := r) (pressM_asc pan st b)
theorem mem_pressM {pan : List (List Int)} {st : List Int} {b x : Int} : x ∈ pressM pan st b ↔ (0 ≤ x ∧ x < (pan.length : Int)) ∧ (x = b ∨ (x ∈ st ∧ x ∉ pan.getD b.toNat [])) := by
  unfold pressM
  rw [List.mem_filter, decide_eq_true_eq, mem_intL]
theorem runM_take {pan : List (List Int)} {st row : List Int} {k : Nat} {b : Int} (h : row[k]? = some b) : runM pan st (row.take (k + 1)) = pressM pan (runM pan st (row.take k)) b := by
  unfold runM
  rw [List.take_add_one, h, List.foldl_append]; rfl
/-- what press_button makes: the kept ones and the button, sorted -/
theorem press_sorted {pan : List (List Int)} {st : List Int} {b : Int} {ns : List Int} (hs : Asc pan.length st) (h0 : 0 ≤ b) (h1 : b < (pan.length : Int))
    (hp : ns.Perm (st.filter (fun x => decide (x ≠ b ∧ x ∉ pan.getD b.toNat [])) ++ [b])) (hle : ns.Pairwise (· ≤ ·)) : ns = pressM pan st b := by
  have nd0 : (st.filter (fun x => decide (x ≠ b ∧ x ∉ pan.getD b.toNat [])) ++ [b]).Nodup := by
    refine List.nodup_append.mpr ⟨(hs.up.imp fun {x y} (q : x < y) => by omega : st.Nodup).filter _, by simp, fun x hx y hy e => ?_⟩
    rw [List.mem_singleton] at hy
    have := (List.mem_filter.mp hx).2
    rw [decide_eq_true_eq] at this
    exact this.1 (e.trans hy)
  have nd : ns.Nodup := hp.nodup_iff.mpr nd0
  have up : ns.Pairwise (· < ·) := (hle.and nd).imp fun {x y} (q : x ≤ y ∧ x ≠ y) => by omega
  refine asc_ext up (pressM_asc pan st b).up fun x => ?_
  rw [hp.mem_iff, mem_pressM, List.mem_append, List.mem_filter, decide_eq_true_eq, List.mem_singleton]
  constructor
  · rintro (⟨a1, a2⟩ | a)
    · exact ⟨hs.rng x a1, .inr ⟨a1, a2.2⟩⟩
    · subst a; exact ⟨⟨h0, h1⟩, .inl rfl⟩
  · rintro ⟨_, a | a⟩
    · exact .inr a
    · by_cases e : x = b
      · exact .inr e
      · exact .inl ⟨a.1, e, a.2⟩
/-- marks -/
def marks (n : Nat) (st : List Int) : List Bool := (List.range n).map fun i : Nat => decide ((i : Int) ∈ st)
theorem marks_len (n : Nat) (st : List Int) : (marks n st).length = n := by unfold marks; rw [List.length_map, List.length_range]
theorem marks_get {n : Nat} {st : List Int} {i : Nat} (h : i < n) : (marks n st)[i]? = some (decide ((i : Int) ∈ st)) := by
  unfold marks
  rw [List.getElem?_map, List.getElem?_range h]; rfl
theorem marks_set {pan : List (List Int)} {st : List Int} {b : Nat} (hb : b < pan.length) :
    ((List.range pan.length).map fun i : Nat => (decide ((i : Int) ∈ st) && !decide ((i : Int) ∈ pan.getD b []))).set b true = marks pan.length (pressM pan st (b : Int)) := by
  refine List.ext_getElem? fun i => ?_
  by_cases hi : i < pan.length
  · rw [marks_get hi, List.getElem?_set]
    by_cases e : b = i
    · subst e
      rw [if_pos rfl, if_pos (by rw [List.length_map, List.length_range]; exact hi)]
      congr 1
      exact (decide_eq_true (mem_pressM.mpr ⟨⟨by omega, by omega⟩, .inl rfl⟩)).symm
    · rw [if_neg e, List.getElem?_map, List.getElem?_range hi]
      show some _ = some _
      congr 1
      rw [Bool.eq_iff_iff, Bool.and_eq_true, decide_eq_true_eq, Bool.not_eq_true', decide_eq_false_iff_not, decide_eq_true_eq, mem_pressM, Int.toNat_natCast]
      constructor
      · rintro ⟨a, a'⟩
        exact ⟨⟨by omega, by omega⟩, .inr ⟨a, a'⟩⟩
      · rintro ⟨_, a | a⟩
        · omega
        · exact a
  · rw [List.getElem?_eq_none (by rw [List.length_set, List.length_map, List.length_range]; omega), List.getElem?_eq_none (by rw [marks_len]; omega)]
end Pr
/-! Effects, as plain functions; a tuple repeated; zip of two tuples. -/
namespace Pr
open PySem PySem.Spec PyProof.Rows L2
abbrev wSame : Str := "same"
abbrev wOn : Str := "on"
abbrev wOff : Str := "off"
/-- a press of b behind, where c had the word w -/
def wordM (pan : List (List Int)) (c : Int) (w : Str) (b : Int) : Str := if b = c then wOn else if c ∈ pan.getD b.toNat [] then wOff else w
def wordsM (pan : List (List Int)) (row : List Int) (c : Int) : Str := row.foldl (wordM pan c) wSame
def effM (pan : List (List Int)) (row : List Int) : List Str := (List.range pan.length).map fun c : Nat => wordsM pan row (c : Int)
def onM (l : List Int) (b : Int) (c : Nat) : Str := if (c : Int) ∈ l then wOff else if (c : Int) = b then wOn else wSame
def pressW (pan : List (List Int)) (b : Int) : List Str := (List.range pan.length).map (onM (pan.getD b.toNat []) b)
def joinM (xs ys : List Str) : List Str := List.zipWith (fun e l => if l = wSame then e else l) xs ys
theorem effM_len (pan : List (List Int)) (row : List Int) : (effM pan row).length = pan.length := by unfold effM; rw [List.length_map, List.length_range]
theorem pressW_len (pan : List (List Int)) (b : Int) : (pressW pan b).length = pan.length := by unfold pressW; rw [List.length_map, List.length_range]
theorem joinM_len {xs ys : List Str} (h : xs.length = ys.length) : (joinM xs ys).length = ys.length := by unfold joinM; rw [List.length_zipWith, h, Nat.min_self]
theorem effM_nil (pan : List (List Int)) : effM pan [] = List.replicate pan.length wSame := by
  unfold effM
  show (List.range pan.length).map (fun _ => wSame) = _
  rw [List.map_const', List.length_range]
theorem same_ne_on : wSame ≠ wOn := by decide +kernel
theorem same_ne_off : wSame ≠ wOff := by decide +kernel
theorem on_ne_off : wOn ≠ wOff := by decide +kernel
theorem Good.own' {pan : List (List Int)} (g : Good pan) {b : Int} (h0 : 0 ≤ b) (h1 : b < (pan.length : Int)) : b ∉ pan.getD b.toNat [] := by
  have hb : b.toNat < pan.length := by omega
  have := g.own b.toNat pan[b.toNat] (List.getElem?_eq_getElem hb)
  rw [List.getD_eq_getElem?_getD, List.getElem?_eq_getElem hb]
  rw [Int.toNat_of_nonneg h0] at this
  exact this
theorem wordM_join {pan : List (List Int)} (g : Good pan) {b : Int} (h0 : 0 ≤ b) (h1 : b < (pan.length : Int)) (c : Nat) (w : Str) :
    (if onM (pan.getD b.toNat []) b c = wSame then w else onM (pan.getD b.toNat []) b c) = wordM pan (c : Int) w b := by
  unfold onM wordM
  by_cases e : (c : Int) ∈ pan.getD b.toNat []
  · have hne : b ≠ (c : Int) := fun z => g.own' h0 h1 (z ▸ e)
    rw [if_pos e, if_neg hne, if_pos e, if_neg (Ne.symm same_ne_off)]
  · rw [if_neg e, if_neg e]
    by_cases e2 : (c : Int) = b
    · rw [if_pos e2, if_pos e2.symm, if_neg (Ne.symm same_ne_on)]
    · rw [if_neg e2, if_pos rfl, if_neg (Ne.symm e2)]
theorem eff_step {pan : List (List Int)} (g : Good pan) {b : Int} (h0 : 0 ≤ b) (h1 : b < (pan.length : Int)) (row : List Int) : joinM (effM pan row) (pressW pan b) = effM pan (row ++ [b]) := by
  unfold joinM effM pressW
  rw [List.zipWith_map, List.zipWith_self]
  refine List.map_congr_left fun c _ => ?_
  rw [wordM_join g h0 h1]
  unfold wordsM
  rw [List.foldl_append]; rfl
theorem eff_take {pan : List (List Int)} (g : Good pan) {row : List Int} {k : Nat} {b : Int} (hk : row[k]? = some b) (h0 : 0 ≤ b) (h1 : b < (pan.length : Int)) : joinM (effM pan (row.take k)) (pressW pan b) = effM pan (row.take (k + 1)) := by
  rw [eff_step g h0 h1, List.take_add_one, hk]; rfl
theorem word3 (pan : List (List Int)) (c : Int) : ∀ row : List Int, wordsM pan row c = wSame ∨ wordsM pan row c = wOn ∨ wordsM pan row c = wOff := by
  intro row
  unfold wordsM
  have : ∀ (l : List Int) (w : Str), (w = wSame ∨ w = wOn ∨ w = wOff) → (l.foldl (wordM pan c) w = wSame ∨ l.foldl (wordM pan c) w = wOn ∨ l.foldl (wordM pan c) w = wOff) := by
    intro l
    induction l with
    | nil => exact fun w h => h
    | cons b r ih =>
      intro w h
      rw [List.foldl_cons]
      refine ih _ ?_
      unfold wordM
      split
      · exact .inr (.inl rfl)
      · split
        · exact .inr (.inr rfl)
        · exact h
  exact this row _ (.inl rfl)
theorem eff3 {pan : List (List Int)} {row : List Int} {x : Str} (h : x ∈ effM pan row) : x = wSame ∨ x = wOn ∨ x = wOff := by
  unfold effM at h
  obtain ⟨c, _, rfl⟩ := List.mem_map.mp h
  exact word3 pan c row
theorem set_map_range {α : Type} (f : Nat → α) (n j : Nat) (v : α) : ((List.range n).map f).set j v = (List.range n).map fun c => if c = j then v else f c := by
  refine List.ext_getElem? fun i => ?_
  rw [List.getElem?_set, List.getElem?_map]
  by_cases h : i < n
  · rw [List.getElem?_map, List.getElem?_range h, List.length_map, List.length_range]
    by_cases e : j = i
    · subst e; rw [if_pos rfl, if_pos h]; simp
    · rw [if_neg e]; simp [Ne.symm e]
  · rw [List.getElem?_map, List.getElem?_eq_none (by rw [List.length_range]; omega), List.length_map, List.length_range]
    by_cases e : j = i
    · subst e; rw [if_pos rfl, if_neg h]; rfl
    · rw [if_neg e]; rfl
theorem replicate_map_range {α : Type} (n : Nat) (v : α) : List.replicate n v = (List.range n).map fun _ => v := by
  rw [List.map_const', List.length_range]
/-! ### data -/
def dStrs (l : List Str) : PyData := .tuple (l.map PyData.str)
theorem dpAll_strs {K : PySem.W.Frag} {H : Hp} : ∀ l : List Str, DpAll K H (l.map V.str) (l.map PyData.str)
  | [] => .nil
  | x :: r => .cons (.str x) (dpAll_strs r)
theorem dp_strs {K : PySem.W.Frag} {H : Hp} {q : Addr} {l : List Str} (h : SqT K H q (l.map V.str)) : Dp K H (.ref q) (dStrs l) := .tup h (dpAll_strs l)
theorem shw_word {x : Str} (h : x = wSame ∨ x = wOn ∨ x = wOff) : Shw 0 6 (.str x) := by
  refine ⟨by simp only [PyData.showable], by simp only [PyData.hasDict], by simp [PyData.depth], ?_⟩
  simp only [PyData.shown]
  rcases h with rfl | rfl | rfl <;> decide +kernel
theorem shw_words {l : List Str} {m : Nat} (hl : l.length ≤ m) (h : ∀ x ∈ l, x = wSame ∨ x = wOn ∨ x = wOff) : Shw 1 (m * 8 + 3) (dStrs l) := by
  refine Shw.tuple (fun d hd => ?_) (by rw [List.length_map]; exact hl)
  obtain ⟨x, hx, rfl⟩ := List.mem_map.mp hd
  exact shw_word (h x hx)
theorem shw_eff {pan : List (List Int)} (g : Good pan) (row : List Int) : Shw 1 83 (dStrs (effM pan row)) :=
  shw_words (m := 10) (by rw [effM_len]; exact g.few) fun _ h => eff3 h
/-! ### (x,) * n -/
section
variable {X : Cx}
def rRepS (K : PySem.W.Frag) : R2 := fun x y H Q => rRep1 K x y H Q ∨ rRepT K x y H Q
theorem op_repS : OpR X (binaryOp .Mult) (rRepS X.K) := by
  intro pins s σ H x y v u Q I rx ry h
  rcases h with h | h
  · exact op_rep1 pins s σ H x y v u Q I rx ry h
  · exact op_repT pins s σ H x y v u Q I rx ry h
end
theorem rep_flat {α : Type} (n : Nat) (v : α) : (List.replicate n [v]).flatten = List.replicate n v := by
  induction n with
  | zero => rfl
  | succ n ih => rw [List.replicate_succ, List.flatten_cons, ih]; rfl
/-! ### zip of tuples -/
theorem walk_zipT {K : PySem.W.Frag} {a b : Addr} {xs ys : List V} {n : Nat} (hn : n = min xs.length ys.length) : Walk (RZ.ItzT K a b) n (fun H => SqT K H a xs ∧ SqT K H b ys) (YPair (fun i => xs[i]?) (fun i => ys[i]?)) := by
  subst hn
  refine ⟨fun i _ hi q => ?_, fun _ q => ⟨xs, ys, q.1, q.2, by omega⟩, fun i H v H' _ q y => ?_⟩
  · have h1 : i < xs.length := by omega
    have h2 : i < ys.length := by omega
    exact ⟨xs, ys, xs[i], ys[i], q.1, q.2, by simp [h1], by simp [h2]⟩
  · obtain ⟨T, x, z, h1, h2, h3, h4, h5⟩ := y
    exact ⟨T, x, z, h1, h2, h3, h4 xs q.1, h5 ys q.2⟩
theorem str_get {os : List Str} {k : Nat} {x : V} (h : (os.map V.str)[k]? = some x) : ∃ z, os[k]? = some z ∧ x = .str z := by
  rw [List.getElem?_map] at h
  cases e : os[k]? with
  | none => rw [e] at h; cases h
  | some z => rw [e] at h; exact ⟨z, rfl, (Option.some.inj h).symm⟩
theorem int_get {os : List Int} {k : Nat} {x : V} (h : (os.map V.int)[k]? = some x) : ∃ z, os[k]? = some z ∧ x = .int z := by
  rw [List.getElem?_map] at h
  cases e : os[k]? with
  | none => rw [e] at h; cases h
  | some z => rw [e] at h; exact ⟨z, rfl, (Option.some.inj h).symm⟩
theorem joinM_get {xs ys : List Str} {i : Nat} {x y : Str} (hx : xs[i]? = some x) (hy : ys[i]? = some y) : (joinM xs ys)[i]? = some (if y = wSame then x else y) := by
  unfold joinM
  rw [List.getElem?_zipWith, hx, hy]
theorem ixN_nat {n j : Nat} (h : j < n) : ixN n (j : Int) = some j := by
  unfold ixN
  rw [if_pos (by omega), if_pos (by omega)]; rfl
theorem gen_heap {X : Hp} {R : Hp → Prop} (C : Hp → Prop) (hX : C X) (h : ∀ H', C H' → R H') : R X := h X hX
theorem gen_name {i : Nat} {v : V} {σ : L2.St} {X : Hp} {D : L2.St → Hp → Prop} (C : Hp → Prop) (hX : C X) (h : ∀ H', C H' → gName i v σ H' D) : gName i v σ X D := h X hX
theorem tyes {σ : L2.St} {H : Hp} {Q : Bool → Hp → Prop} (h : Q true H) : tYes σ H Q := h
theorem pan_at {H : Hp} {p : Addr} {pan : List (List Int)} (h : PanAt H p pan) {b : Int} (h0 : 0 ≤ b) (h1 : b < (pan.length : Int)) :
    ∃ (qs : List Addr) (q : Addr), FT H p (qs.map V.ref) ∧ atI (qs.map V.ref) b = some (.ref q) ∧ FT H q ((pan.getD b.toNat []).map V.int) ∧ qs.length = pan.length := by
  obtain ⟨qs, hq, hqs⟩ := h
  obtain ⟨n, rfl⟩ : ∃ n : Nat, b = (n : Int) := ⟨b.toNat, (Int.toNat_of_nonneg h0).symm⟩
  have hn : n < pan.length := by omega
  obtain ⟨q', g1, g2⟩ := paired_get hqs n pan[n] (List.getElem?_eq_getElem hn)
  refine ⟨qs, q', hq, atI_nat (by rw [List.getElem?_map, g1]; rfl), ?_, hqs.length⟩
  rw [Int.toNat_natCast, List.getD_eq_getElem?_getD, List.getElem?_eq_getElem hn]
  exact g2
theorem inV_ints {b : Int} (l : List Int) : inV (.int b) (l.map V.int) = decide (b ∈ l) := by
  unfold inV
  rw [List.any_map, Bool.eq_iff_iff, List.any_eq_true, decide_eq_true_eq]
  constructor
  · rintro ⟨x, hx, e⟩
    have e' : x = b := by simpa [eqV] using e
    rw [← e']; exact hx
  · intro h
    exact ⟨b, h, by simp [eqV]⟩
theorem flat_ints : ∀ l : List Int, (l.map V.int).all flatV = true
  | [] => rfl
  | x :: r => by rw [List.map_cons, List.all_cons, flat_ints r]; rfl
end Pr
/-! Data of any kind, with dicts; its lists stand apart from the deck (a, c). -/
namespace Pr
open PySem PySem.Spec PyProof.Rows L2
mutual
inductive Dq (K : PySem.W.Frag) (N : Addr → Prop) (H : Hp) : V → PyData → Prop
  | non : Dq K N H .non .none
  | bl (b : Bool) : Dq K N H (.bl b) (.bool b)
  | int (i : Int) : Dq K N H (.int i) (.int i)
  | str (x : Str) : Dq K N H (.str x) (.str x)
  | lst {l : Addr} {xs : List V} {ds : List PyData} : l ≠ sysModules → ¬ N l → H l = some (.lst xs) → DqAll K N H xs ds → Dq K N H (.ref l) (.list ds)
  | tup {l : Addr} {xs : List V} {ds : List PyData} : SqT K H l xs → DqAll K N H xs ds → Dq K N H (.ref l) (.tuple ds)
  | dct0 {l : Addr} : H l = some (.dK []) → Dq K N H (.ref l) (.dict [])
  | dct1 {l : Addr} {x : Str} {i : Int} : H l = some (.dK [(Sum.inr x, .int i)]) → Dq K N H (.ref l) (.dict [(.str x, .int i)])
inductive DqAll (K : PySem.W.Frag) (N : Addr → Prop) (H : Hp) : List V → List PyData → Prop
  | nil : DqAll K N H [] []
  | cons {v : V} {vs : List V} {d : PyData} {ds : List PyData} : Dq K N H v d → DqAll K N H vs ds → DqAll K N H (v :: vs) (d :: ds)
end
section
variable {K : PySem.W.Frag} {N : Addr → Prop} {a c : Addr} {H H' : Hp}
theorem DqAll.length : ∀ {vs : List V} {ds : List PyData}, DqAll K N H vs ds → vs.length = ds.length
  | _, _, .nil => rfl
  | _, _, .cons _ t => by rw [List.length_cons, List.length_cons, t.length]
theorem DqAll.append : ∀ {vs us : List V} {ds es : List PyData}, DqAll K N H vs ds → DqAll K N H us es → DqAll K N H (vs ++ us) (ds ++ es)
  | _, _, _, _, .nil, h => h
  | _, _, _, _, .cons r t, h => .cons r (t.append h)
theorem DqAll.get : ∀ {vs : List V} {ds : List PyData}, DqAll K N H vs ds → ∀ (i : Nat) (v : V), vs[i]? = some v → ∃ d, ds[i]? = some d ∧ Dq K N H v d
  | _, _, .nil, i, v, h => by simp at h
  | _, _, .cons r t, 0, v, h => by simp at h; subst h; exact ⟨_, rfl, r⟩
  | _, _, .cons r t, i + 1, v, h => by
    obtain ⟨d, h1, h2⟩ := t.get i v (by simpa using h)
    exact ⟨d, by simpa using h1, h2⟩
theorem DqAll.take : ∀ (n : Nat) {vs : List V} {ds : List PyData}, DqAll K N H vs ds → DqAll K N H (vs.take n) (ds.take n)
  | 0, _, _, _ => by simpa using DqAll.nil
  | n + 1, _, _, .nil => .nil
  | n + 1, _, _, .cons r t => .cons r (t.take n)
theorem DqAll.drop : ∀ (n : Nat) {vs : List V} {ds : List PyData}, DqAll K N H vs ds → DqAll K N H (vs.drop n) (ds.drop n)
  | 0, _, _, h => h
  | n + 1, _, _, .nil => .nil
  | n + 1, _, _, .cons r t => t.drop n
theorem DqAll.reverse : ∀ {vs : List V} {ds : List PyData}, DqAll K N H vs ds → DqAll K N H vs.reverse ds.reverse
  | _, _, .nil => .nil
  | _, _, .cons r t => by rw [List.reverse_cons, List.reverse_cons]; exact t.reverse.append (.cons r .nil)
theorem DqAll.rep (n : Nat) {vs : List V} {ds : List PyData} (h : DqAll K N H vs ds) : DqAll K N H (List.replicate n vs).flatten (List.replicate n ds).flatten := by
  induction n with
  | zero => exact .nil
  | succ n ih => rw [List.replicate_succ, List.replicate_succ, List.flatten_cons, List.flatten_cons]; exact h.append ih
theorem dqAll_ints : ∀ l : List Int, DqAll K N H (l.map V.int) (l.map PyData.int)
  | [] => .nil
  | x :: r => .cons (.int x) (dqAll_ints r)
theorem dq_ints {q : Addr} {l : List Int} (h : SqT K H q (l.map V.int)) : Dq K N H (.ref q) (dInts l) := .tup h (dqAll_ints l)
theorem dqAll_pan : ∀ {qs : List Addr} {pan : List (List Int)}, Paired (fun q l => FT H q (l.map V.int)) qs pan → DqAll K N H (qs.map V.ref) (pan.map dInts)
  | _, _, .nil => .nil
  | _, _, .cons r t => .cons (dq_ints r.sq) (dqAll_pan t)
mutual
theorem Dq.keep (hs : ∀ l o, ¬ N l → H l = some o → H' l = some o) (ht : ∀ l xs, SqT K H l xs → SqT K H' l xs) (hk : ∀ l kvs, H l = some (.dK kvs) → H' l = some (.dK kvs)) : ∀ (d : PyData) (v : V), Dq K N H v d → Dq K N H' v d
  | .none, _, h => by cases h; exact .non
  | .bool b, _, h => by cases h; exact .bl b
  | .int i, _, h => by cases h; exact .int i
  | .str x, _, h => by cases h; exact .str x
  | .list ds, _, h => by
    cases h with
    | lst h1 h2 e q => exact .lst h1 h2 (hs _ _ h2 e) (Dq.keepAll hs ht hk ds _ q)
  | .tuple ds, _, h => by
    cases h with
    | tup e q => exact .tup (ht _ _ e) (Dq.keepAll hs ht hk ds _ q)
  | .dict kvs, _, h => by
    cases h with
    | dct0 e => exact .dct0 (hk _ _ e)
    | dct1 e => exact .dct1 (hk _ _ e)
theorem Dq.keepAll (hs : ∀ l o, ¬ N l → H l = some o → H' l = some o) (ht : ∀ l xs, SqT K H l xs → SqT K H' l xs) (hk : ∀ l kvs, H l = some (.dK kvs) → H' l = some (.dK kvs)) : ∀ (ds : List PyData) (vs : List V), DqAll K N H vs ds → DqAll K N H' vs ds
  | [], _, h => by cases h; exact .nil
  | d :: ds, _, h => by
    cases h with
    | cons r t => exact .cons (Dq.keep hs ht hk d _ r) (Dq.keepAll hs ht hk ds _ t)
end
theorem Deck.sqT {m : Nat} (D : Deck H a c m) (b : But a c H H') {l : Addr} {xs : List V} (h : SqT K H l xs) : SqT K H' l xs := by
  rcases h with (h | ⟨o, h⟩) | h
  · exact .inl (.inl (b _ _ (D.apart h (fun _ => by intro z; cases z)).1 (D.apart h (fun _ => by intro z; cases z)).2 h))
  · exact .inl (.inr ⟨o, b _ _ (D.apart h (fun _ => by intro z; cases z)).1 (D.apart h (fun _ => by intro z; cases z)).2 h⟩)
  · exact .inr h
theorem Deck.dk {m : Nat} (D : Deck H a c m) (l : Addr) (kvs : List (Key × V)) (h : H l = some (.dK kvs)) : l ≠ a ∧ l ≠ c := D.apart h (fun _ => by intro z; cases z)
theorem apart_N (na : N a) (nc : N c) {l : Addr} (h : ¬ N l) : l ≠ a ∧ l ≠ c := ⟨fun e => h (by rw [e]; exact na), fun e => h (by rw [e]; exact nc)⟩
theorem Dq.but {m : Nat} (na : N a) (nc : N c) (D : Deck H a c m) (b : But a c H H') {v : V} {d : PyData} (h : Dq K N H v d) : Dq K N H' v d :=
  Dq.keep (fun l o h1 e => b l o (apart_N na nc h1).1 (apart_N na nc h1).2 e) (fun _ _ e => D.sqT b e) (fun l kvs e => b _ _ (D.dk l kvs e).1 (D.dk l kvs e).2 e) d v h
theorem DqAll.but {m : Nat} (na : N a) (nc : N c) (D : Deck H a c m) (b : But a c H H') {v : List V} {d : List PyData} (h : DqAll K N H v d) : DqAll K N H' v d :=
  Dq.keepAll (fun l o h1 e => b l o (apart_N na nc h1).1 (apart_N na nc h1).2 e) (fun _ _ e => D.sqT b e) (fun l kvs e => b _ _ (D.dk l kvs e).1 (D.dk l kvs e).2 e) d v h
mutual
theorem Dq.same (e : Same H H') : ∀ (d : PyData) (v : V), Dq K N H v d → Dq K N H' v d
  | .none, _, h => by cases h; exact .non
  | .bool b, _, h => by cases h; exact .bl b
  | .int i, _, h => by cases h; exact .int i
  | .str x, _, h => by cases h; exact .str x
  | .list ds, _, h => by
    cases h with
    | lst h1 h2 q r => exact .lst h1 h2 (e _ _ q) (Dq.sameAll e ds _ r)
  | .tuple ds, _, h => by
    cases h with
    | tup q r => exact .tup (same_sqT e q) (Dq.sameAll e ds _ r)
  | .dict kvs, _, h => by
    cases h with
    | dct0 q => exact .dct0 (e _ _ q)
    | dct1 q => exact .dct1 (e _ _ q)
theorem Dq.sameAll (e : Same H H') : ∀ (ds : List PyData) (vs : List V), DqAll K N H vs ds → DqAll K N H' vs ds
  | [], _, h => by cases h; exact .nil
  | d :: ds, _, h => by
    cases h with
    | cons r t => exact .cons (Dq.same e d _ r) (Dq.sameAll e ds _ t)
end
/-- its built-in type -/
def tyD : PyData → String
  | .none => "NoneType"
  | .bool _ => "bool"
  | .int _ => "int"
  | .str _ => "str"
  | .list _ => "list"
  | .tuple _ => "tuple"
  | .dict _ => "dict"
theorem tyT {l : Addr} {xs : List V} (h : SqT K H l xs) : TyX K H (.ref l) (.type "tuple") := by
  rcases h with (h | ⟨o, h⟩) | ⟨o, its, n, h, hc, _⟩
  · exact .base (.tup h)
  · exact .fTuple h
  · exact .kTuple h hc
theorem Dq.ty {v : V} {d : PyData} (h : Dq K N H v d) : TyX K H v (.type (tyD d)) := by
  cases h with
  | non => exact .base .non
  | bl b => exact .base (.bl b)
  | int i => exact .base (.int i)
  | str x => exact .base (.str x)
  | lst _ _ e _ => exact .base (.lst e)
  | tup e _ => exact tyT e
  | dct0 e => exact .base (.dK e)
  | dct1 e => exact .base (.dK e)
end
section
variable {X : Cx} {pins : List (Addr × Obj)} {σ : L2.St} {H : Hp} {s : Shared} {N : Addr → Prop}
mutual
theorem Dq.reads (I : Inv X pins σ H s) : ∀ (d : PyData) (v : V) (u : Value), Dq X.K N H v d → RelV v u → ∃ as, Reads s.heap u d as ∧ sysModules ∉ as
  | .none, _, _, h, r => by
    cases h; cases r; exact ⟨_, Reads.none, by simp⟩
  | .bool b, _, _, h, r => by
    cases h; cases r; exact ⟨_, Reads.bool b, by simp⟩
  | .int i, _, _, h, r => by
    cases h; obtain ⟨t, rfl⟩ := r; exact ⟨_, Reads.int i t, by simp⟩
  | .str x, _, _, h, r => by
    cases h; obtain ⟨t, rfl⟩ := r; exact ⟨_, Reads.str x t, by simp⟩
  | .list ds, _, _, h, r => by
    cases h with
    | lst h1 _ hs ha =>
      cases r
      obtain ⟨_, its, n, rv, ho⟩ := I.hok _ _ hs
      obtain ⟨as, hr, hn⟩ := Dq.readsAll I ds _ its ha rv
      exact ⟨_, Reads.list ho rfl rfl hr, by simp [hn, Ne.symm h1]⟩
  | .tuple ds, _, _, h, r => by
    cases h with
    | tup hs ha =>
      cases r
      obtain ⟨its, rv, ⟨o, ho, hc, n, hd⟩, _⟩ := I.tuple hs
      obtain ⟨as, hr, hn⟩ := Dq.readsAll I ds _ its ha rv
      exact ⟨_, Reads.tuple ho hc hd hr, hn⟩
  | .dict _, _, _, h, r => by
    cases h with
    | dct0 e =>
      cases r
      obtain ⟨_, ns, vs, kv, o, es, ep, ho, hc, hd, _, hp, _⟩ := I.hok _ _ e
      cases kv
      have he : es.toList = [] := by cases hes : es.toList with
        | nil => rfl
        | cons x y => rw [hes] at hp; cases hp
      have ns' := of_decide_eq_false (show decide (_ = sysModules) = false by simpa using ns)
      refine ⟨_, Reads.dict (kvs := []) ho hc.1 hd (by rw [he]; exact .nil) (by rw [he]; exact .nil), ?_⟩
      simp [Ne.symm ns']
    | @dct1 l x i e =>
      cases r
      obtain ⟨_, ns, vs, kv, o, es, ep, ho, hc, hd, _, hp, _⟩ := I.hok _ _ e
      cases kv with
      | @cons p q l1 l2 kq kr =>
        cases kr
        obtain ⟨h1, t, h2⟩ := kq
        obtain ⟨en, he, hk, hv⟩ : ∃ en, es.toList = [en] ∧ keyIs q.1 en.key = true ∧ en.val = q.2 := by
          cases hes : es.toList with
          | nil => rw [hes] at hp; cases hp
          | cons x y =>
            rw [hes] at hp
            cases hp with
            | cons p1 p2 p3 => cases p3; exact ⟨x, rfl, p1, p2⟩
        have h1' : (Sum.inr x : Key) = q.1 := h1
        rw [← h1'] at hk
        obtain ⟨t', hk'⟩ := Value.isStrOf_shape (show Value.isStrOf x en.key = true from hk)
        have ns' := of_decide_eq_false (show decide (_ = sysModules) = false by simpa using ns)
        refine ⟨_, Reads.dict (kvs := [(.str x, .int i)]) ho hc.1 hd (as := [] ++ []) (bs := [] ++ []) ?_ ?_, ?_⟩
        · rw [he]; show ReadsAll _ [en.key] _ _; rw [hk']; exact .cons (.str x t') .nil
        · rw [he]; show ReadsAll _ [en.val] _ _; rw [hv, h2]; exact .cons (.int i t) .nil
        · simp [Ne.symm ns']
theorem Dq.readsAll (I : Inv X pins σ H s) : ∀ (ds : List PyData) (vs : List V) (us : List Value), DqAll X.K N H vs ds → Vals vs us → ∃ as, ReadsAll s.heap us ds as ∧ sysModules ∉ as
  | [], _, _, h, r => by
    cases h; cases r; exact ⟨_, ReadsAll.nil, by simp⟩
  | d :: ds, _, _, h, r => by
    cases h with
    | cons h1 h2 =>
      cases r with
      | cons r1 r2 =>
        obtain ⟨as, q1, n1⟩ := Dq.reads I d _ _ h1 r1
        obtain ⟨bs, q2, n2⟩ := Dq.readsAll I ds _ _ h2 r2
        exact ⟨_, ReadsAll.cons q1 q2, by simp [n1, n2]⟩
end
end
/-! ### how deep, how long -/
structure Shq (dep n : Nat) (d : PyData) : Prop where
  sh : d.showable = true
  dp : d.depth ≤ dep
  ln : d.shown.length ≤ n
theorem Shq.mono {dep dep' n n' : Nat} {d : PyData} (h : Shq dep n d) (h1 : dep ≤ dep') (h2 : n ≤ n') : Shq dep' n' d := ⟨h.sh, Nat.le_trans h.dp h1, Nat.le_trans h.ln h2⟩
theorem Shw.q {dep n : Nat} {d : PyData} (h : Shw dep n d) : Shq dep n d := ⟨h.sh, h.dp, h.ln⟩
theorem shqAll {dep n : Nat} : ∀ {ds : List PyData}, (∀ d ∈ ds, Shq dep n d) → PyData.showableAll ds = true ∧ PyData.depthAll ds ≤ dep
  | [], _ => ⟨by simp only [PyData.showableAll], by simp [PyData.depthAll]⟩
  | d :: r, h => by
    obtain ⟨h1, h3⟩ := shqAll (ds := r) fun x hx => h x (List.mem_cons_of_mem _ hx)
    have g := h d List.mem_cons_self
    refine ⟨by simp only [PyData.showableAll, g.sh, h1, Bool.and_self], ?_⟩
    simp only [PyData.depthAll]
    exact Nat.max_le.mpr ⟨g.dp, h3⟩
theorem Shq.tuple {dep n m : Nat} {ds : List PyData} (h : ∀ d ∈ ds, Shq dep n d) (hm : ds.length ≤ m) : Shq (dep + 1) (m * (n + 2) + 3) (.tuple ds) := by
  obtain ⟨h1, h3⟩ := shqAll h
  refine ⟨by simp only [PyData.showable, h1], by simp only [PyData.depth]; omega, ?_⟩
  simp only [PyData.shown]
  rw [shownAll_map]
  have a1 := tupleText_len (ds.map PyData.shown)
  have a2 := piled_le fun d hd => (h d hd).ln
  have a3 : ds.length * (n + 2) ≤ m * (n + 2) := Nat.mul_le_mul_right _ hm
  omega
theorem Shq.list {dep n m : Nat} {ds : List PyData} (h : ∀ d ∈ ds, Shq dep n d) (hm : ds.length ≤ m) : Shq (dep + 1) (m * (n + 2) + 3) (.list ds) := by
  obtain ⟨h1, h3⟩ := shqAll h
  refine ⟨by simp only [PyData.showable, h1], by simp only [PyData.depth]; omega, ?_⟩
  simp only [PyData.shown]
  rw [shownAll_map]
  have a1 := listText_len (ds.map PyData.shown)
  have a2 := piled_le fun d hd => (h d hd).ln
  have a3 : ds.length * (n + 2) ≤ m * (n + 2) := Nat.mul_le_mul_right _ hm
  omega
/-! ### repr of such data -/
def rReprQ (K : PySem.W.Frag) : List V → Hp → VK → Prop := fun xs H Q => ∃ (N : Addr → Prop) (v : V) (d : PyData), xs = [v] ∧ Dq K N H v d ∧ Shq 60 sizeLine d ∧ Q (.str d.shown) H
theorem call_reprQ {X : Cx} {k : Nat} (gd : X.A.guards = some []) (hr : Room k X.A) : CallR X (.builtin "repr") (rReprQ X.K) := by
  intro pins s σ H xs us Q I rv h
  obtain ⟨N, v, d, rfl, hd, hs, q⟩ := h
  obtain ⟨u, rfl, rx⟩ := vals1 rv
  have isref : ∀ (l : Addr), v = .ref l → wpAny (model X.prog X.w) X.A (call (.builtin "repr") [u]) (EP X pins σ Q) X.xe s := fun l e => by
    subst e
    obtain ⟨as, r, hn⟩ := Dq.reads I d _ _ hd rx
    obtain rfl : u = .ref l := rx
    exact repr_of_reads' r hs.sh (fun _ => hn) gd (by have := hr.un; have := hs.dp; omega) (fun _ _ e => e) (fun h' t tk hk => ⟨.str d.shown, H, I.kept hk, ⟨t, rfl⟩, q⟩) hs.ln
  cases hd with
  | non => obtain rfl : u = .none := rx; exact PySem.P.repr_of_none ⟨.str "None", H, I.tok _, ⟨_, rfl⟩, by simpa only [PyData.shown] using q⟩
  | bl b => obtain rfl : u = .bool b := rx; exact PySem.P.repr_of_bool ⟨.str _, H, I.tok _, ⟨_, rfl⟩, by simpa only [PyData.shown] using q⟩
  | int i =>
    obtain ⟨t, rfl⟩ := rx
    have h1 : i.natAbs.log2 < 1920 := by simpa only [PyData.showable, decide_eq_true_eq] using hs.sh
    exact PySem.P.repr_of_int h1 ⟨.str _, H, I.tok _, ⟨_, rfl⟩, by simpa only [PyData.shown] using q⟩
  | str x =>
    obtain ⟨t, rfl⟩ := rx
    have h1 : (reprText x).length ≤ sizeLine := by simpa only [PyData.shown] using hs.ln
    exact PySem.P.repr_of_str ⟨.str _, H, I.tok _, ⟨_, rfl⟩, by simpa only [PyData.shown] using q⟩ h1
  | lst _ _ _ _ => exact isref _ rfl
  | tup _ _ => exact isref _ rfl
  | dct0 _ => exact isref _ rfl
  | dct1 _ => exact isref _ rfl
end Pr
/-! set(list of ints), and how many there are in it. -/
namespace Pr
open PySem PySem.Spec PyProof.Rows L2
section
variable {P : Program} {w : World} {A : Around} {E : Value → Shared → Prop} {s : Shared}
/-- a set just made -/
def set0 (w : World) : Obj := { cls := .type "set", dict := none, data := .set #[] 0 (.fresh 0 0 (!w.params.followText "set-order")) }
/-- a type's call by the codes of its two steps -/
theorem type_by {T nw ini : String} {xs : List Value} {Q Q1 : Value → Shared → Prop} (tc : TypeCalled T nw ini) (ok : checkTypeCall T ⟨xs, []⟩ = pure ())
    (first : codeAny (model P w) A.in1 (.call (.builtin nw) ⟨.type T :: xs, []⟩) (wants Q1 E) s)
    (second : ∀ v t, Q1 v t → t.TypeIs v T ∧ codeAny (model P w) A.in1 (.call (.builtin ini) ⟨v :: xs, []⟩) (wants (fun u t' => u = .none ∧ Q v t') E) t) :
    wpAny (model P w) A (call (.type T) xs) Q E s := by
  have f1 := tc.made; have f2 := tc.sub; have f3 := tc.notType; have f4 := tc.canCreate
  obtain ⟨c0, cs, f5⟩ := tc.mro
  apply wpAny_call; apply codeAny_of_tree
  change wpAny _ _ (callAny (Value.type T) _) _ _ _
  apply wpAny_pure; refine ⟨Code.quiet_builtin _ (by decide +kernel), ?_⟩
  apply codeAny_builtin F.entry_type_call; rw [Around.under_plain (weight_type_call_type T xs []) rfl]
  repeat (any_goals (first | assumption | wp_step))
  apply codeAny_mono first; intro r t hr
  match r, hr with
  | .error e, hr => exact hr
  | .ok .next, hr => exact hr.elim
  | .ok .brk, hr => exact hr.elim
  | .ok .cont, hr => exact hr.elim
  | .ok (.ret v), hr =>
    obtain ⟨hT, hc⟩ := second v t hr
    have f6 := tc.init.lookup; have f7 := tc.init.bind v
    repeat (any_goals (first | assumption | wp_step))
    apply codeAny_mono hc; intro r2 t2 hr2
    match r2, hr2 with
    | .error e, hr2 => exact hr2
    | .ok .next, hr2 => exact hr2.elim
    | .ok .brk, hr2 => exact hr2.elim
    | .ok .cont, hr2 => exact hr2.elim
    | .ok (.ret u), hr2 =>
      obtain ⟨rfl, hq⟩ := hr2
      repeat (any_goals (first | assumption | wp_step))
theorem call_setL {l : Addr} {its : Array Value} (ns : List Int) {Q : Value → Shared → Prop} (hh : A.handled = none) (hl : s.heap.IsList l its) (hi : IntsAre its.toList ns) (hb : ns.length + 1 < scanBound)
    (h : ∀ (h' : Heap) (tk c : Nat), SetR w h' s.heap.objs.size (fun j => decide (j ∈ ns)) c → (∀ b o, s.heap.get? b = some o → h'.get? b = some o) → Q (.ref s.heap.objs.size) { s with heap := h', toks := tk }) :
    wpAny (model P w) A (call (.type "set") [.ref l]) Q E s := by
  have hn : its.size = ns.length := by simpa using hi.length
  refine type_by F.called_set (F.typeCall_set_1 (.ref l)) (Q1 := fun v t => v = .ref s.heap.objs.size ∧ t = { s with heap := s.heap.push (set0 w) }) (code_set_led1 (.ref l) ⟨rfl, rfl⟩) ?_
  rintro obj t ⟨rfl, rfl⟩
  have hS : (s.heap.push (set0 w)).get? s.heap.objs.size = some (set0 w) := Heap.get?_push_size _ rfl
  refine ⟨⟨_, hS, rfl⟩, codeAny_call_builtin F.called_set.init.plain F.entry_set_init (check_set_init_1 ⟨_, hS, rfl⟩ ?_)⟩
  obtain ⟨⟨oc, od, odt, osl⟩, hol, hc, n, hd⟩ := id hl
  simp only at hc hd
  subst hc hd
  have lS : l < s.heap.objs.size := Heap.lt_size hol
  have hL : (s.heap.push (set0 w)).get? l = some { cls := .type "list", dict := od, data := .seq its n, slots := osl } := Heap.get?_push_of_some _ hol
  have hLl : (s.heap.push (set0 w)).IsList l its := ⟨_, hL, rfl, n, rfl⟩
  have k1 := F.sub_list_set
  have k2 := F.sub_list_frozenset
  have k3 : (Value.type "list" == Value.type "dict") = false := by decide
  have hz : (s.heap.push (set0 w)).objs.size = s.heap.objs.size + 1 := Heap.size_push ..
  have hP : s.heap.push (set0 w) = s.heap.push { cls := .type "set", dict := none, data := .set #[] 0 (.fresh 0 0 (!w.params.followText "set-order")) } := rfl
  generalize hG : s.heap.push (set0 w) = G at hS hL hLl hz ⊢
  unfold Builtin.«set.__init__» noKeywords Builtin.Frozenset.updateFrom
  generalize hI : pyIter = PI
  wp_walk
  subst hI
  refine wpAny_pyIter_list hLl (wpAny_bind (wpAny_runValue ?_))
  have at0 : (G.push { cls := .type "list_iterator", data := .fields #[.ref l, .int 0 0] }).get? s.heap.objs.size = some (set0 w) := Heap.get?_push_of_some _ hS
  have out1 : l ≠ G.objs.size := by rw [hz]; exact Nat.ne_of_lt (Nat.lt_succ_of_lt lS)
  have out2 : s.heap.objs.size ∉ [G.objs.size, l] := by
    rw [hz]
    intro q
    rcases List.mem_cons.mp q with e | e
    · exact Nat.ne_of_lt (Nat.lt_succ_self _) e
    · exact Nat.ne_of_lt lS (List.mem_singleton.mp e).symm
  have vals : ∀ (i : Nat) (v : Value), its[i]? = some v → ∃ k t, ns[i]? = some k ∧ v = .int k t := by
    intro i v hv
    have li : i < ns.length := hn ▸ (Array.getElem?_eq_some_iff.mp hv).1
    obtain ⟨t, e⟩ := hi.int_at i v (by rw [Array.getElem?_toList]; exact hv)
    rw [List.getD_eq_getElem?_getD, List.getElem?_eq_getElem li] at e
    exact ⟨ns[i], t, List.getElem?_eq_getElem li, e⟩
  have hh' : A.in1.in1.in1.handled = none := by simp [hh]
  refine set_update_ints (Walks.list hh' G.objs.size l out1 its).toS s.heap.objs.size out2 ns hn hb vals its.size 0 _ (Nat.sub_zero _) (Nat.zero_le _) ⟨⟨_, Heap.get?_push_size _ rfl, rfl, rfl⟩, hLl.push _⟩ ⟨0, Nat.le_refl _, setR_new_at at0⟩ ?_
  intro t' c mv _ R
  obtain ⟨h2, g2, d2, tk2, os2⟩ := t'
  obtain rfl : g2 = s.gens := mv.gens
  obtain rfl : d2 = s.drawn := mv.drawn
  obtain rfl : os2 = s.os := mv.os
  refine wpAny_pure (wpAny_pure ⟨rfl, h h2 tk2 c R fun b o e => ?_⟩)
  have lb : b < s.heap.objs.size := Heap.lt_size e
  refine mv.heap b o (fun q => ?_) (Heap.get?_push_of_some _ (by rw [← hG]; exact Heap.get?_push_of_some _ e))
  rcases List.mem_cons.mp q with e | e
  · exact Nat.ne_of_lt lb e
  · exact Nat.ne_of_lt (Nat.lt_succ_of_lt lb) ((List.mem_singleton.mp e).trans hz)
end
theorem nodup_few : ∀ (m : Nat) (l : List Int), l.Nodup → (∀ x ∈ l, 0 ≤ x ∧ x < (m : Int)) → l.length ≤ m
  | 0, l, _, h => by
    cases l with
    | nil => exact Nat.le_refl _
    | cons x r => have := h x List.mem_cons_self; omega
  | m + 1, l, hn, h => by
    have ih := nodup_few m (l.erase (m : Int)) (hn.erase _) fun x hx => by
      have h1 := (hn.mem_erase_iff.mp hx)
      have h2 := h x h1.2
      have h3 := h1.1
      omega
    have hl := List.length_erase (a := (m : Int)) (l := l)
    split at hl <;> omega
section
variable {X : Cx}
/-- set(list of ints) -/
def rSetL' (K : PySem.W.Frag) (w : World) : List V → Hp → VK → Prop := fun vs H Q => ∃ (a : Addr) (ns : List Int), vs = [V.ref a] ∧ SqL K H a (ns.map V.int) ∧ ns.length ≤ 1000 ∧
  ∀ (l : Addr) (n : Nat) (ks : List Int), H l = none → ks.Nodup → (∀ k, k ∈ ks ↔ k ∈ ns) → ks.length = n → Q (.ref l) (upd H l (SetO w l (fun j => decide (j ∈ ns)) n))
theorem cr_setL (hc : X.calm = true) : CallR X (.type "set") (rSetL' X.K X.w) := by
  intro pins s σ H vs us Q I r h
  obtain ⟨a, ns, rfl, hs, hn, q⟩ := h
  obtain ⟨its, rv, pl, hz⟩ := I.list hs
  rw [Vals.ref1 r]
  have hi := rv.ints
  refine call_setL ns (I.ok.hd hc) pl.isList (by simpa using hi) (Nat.lt_of_le_of_lt (Nat.add_le_add_right hn 1) (by decide)) fun h' tk n R kp => ?_
  obtain ⟨o, es, ep, t, h1, h2, h3, h4, h5, h6, h7, h8, h9, h10⟩ := id R
  refine ⟨.ref s.heap.objs.size, _, I.laid (t' := tk) kp (Nat.le_refl _) (setO_new R), rfl, q _ n (es.toList.map keyOf) (I.hok.fresh (Nat.le_refl _)) h5 (fun k => ?_) (by rw [List.length_map, Array.length_toList]; exact h9)⟩
  rw [← h6 k, decide_eq_true_eq]
/-- sorted(set(list of ints)), the ints from 0 to 62 -/
def rSortSet (K : PySem.W.Frag) : List V → Hp → VK → Prop := fun vs H Q => ∃ (a : Addr) (ns : List Int) (m : Nat), vs = [V.ref a] ∧ SqL K H a (ns.map V.int) ∧ ns.length ≤ 1000 ∧ m < 64 ∧ (∀ x ∈ ns, 0 ≤ x ∧ x < (m : Int)) ∧
  ∀ (ms : List Int) (p : Addr) (H' : Hp), Same H H' → H' p = some (.lst (ms.map V.int)) → ms.Pairwise (· < ·) → (∀ k, k ∈ ms ↔ k ∈ ns) → H p = none → Q (.ref p) H'
/-- what set asks, where sorted stands around it -/
theorem sortSet_of {w : World} {K : PySem.W.Frag} {vs : List V} {H : Hp} {Q : VK} (h : rSortSet K vs H Q) : rSetL' K w vs H (fun x H1 => rSortedSet w [x] H1 Q) := by
  obtain ⟨a, ns, m, rfl, hs, hn, hm, hr, q⟩ := h
  refine ⟨a, ns, rfl, hs, hn, fun l n ks nl nd mem len => ⟨l, _, n, rfl, upd_same, ?_, fun ms p up mm _ np => ?_⟩⟩
  · rw [← len]
    exact Nat.lt_of_le_of_lt (nodup_few m ks nd fun x hx => hr x ((mem x).mp hx)) hm
  · have sl : Same H (upd H l (SetO w l (fun j => decide (j ∈ ns)) n)) := same_new nl
    exact q ms p _ (sl.trans (same_new np)) upd_same up (fun k => by rw [mm k, decide_eq_true_eq]) (sl.free np)
end
end Pr
/-! A panel that is read, however its tuples stand. -/
namespace Pr
open PySem PySem.Spec PyProof.Rows L2
def PanT (K : PySem.W.Frag) (H : Hp) (p : Addr) (pan : List (List Int)) : Prop := ∃ qs : List Addr, SqT K H p (qs.map V.ref) ∧ Paired (fun q l => SqT K H q (l.map V.int)) qs pan
section
variable {K : PySem.W.Frag} {H H' : Hp} {p : Addr} {pan : List (List Int)}
theorem PanT.same (e : Same H H') (h : PanT K H p pan) : PanT K H' p pan :=
  let ⟨qs, h1, h2⟩ := h; ⟨qs, same_sqT e h1, h2.mono fun _ _ x => same_sqT e x⟩
theorem PanAt.t (h : PanAt H p pan) : PanT K H p pan :=
  let ⟨qs, h1, h2⟩ := h; ⟨qs, h1.sq, h2.mono fun _ _ x => x.sq⟩
theorem panT_at (h : PanT K H p pan) {b : Int} (h0 : 0 ≤ b) (h1 : b < (pan.length : Int)) :
    ∃ (qs : List Addr) (q : Addr), SqT K H p (qs.map V.ref) ∧ atI (qs.map V.ref) b = some (.ref q) ∧ SqT K H q ((pan.getD b.toNat []).map V.int) ∧ qs.length = pan.length := by
  obtain ⟨qs, hq, hqs⟩ := h
  obtain ⟨n, rfl⟩ : ∃ n : Nat, b = (n : Int) := ⟨b.toNat, (Int.toNat_of_nonneg h0).symm⟩
  have hn : n < pan.length := by omega
  obtain ⟨q', g1, g2⟩ := paired_get hqs n pan[n] (List.getElem?_eq_getElem hn)
  refine ⟨qs, q', hq, atI_nat (by rw [List.getElem?_map, g1]; rfl), ?_, hqs.length⟩
  rw [Int.toNat_natCast, List.getD_eq_getElem?_getD, List.getElem?_eq_getElem hn]
  exact g2
theorem PanT.len (h : PanT K H p pan) : ∃ xs : List V, SqT K H p xs ∧ xs.length = pan.length :=
  let ⟨qs, h1, h2⟩ := h; ⟨_, h1, by rw [List.length_map, h2.length]⟩
theorem dpAll_panT : ∀ {qs : List Addr} {pan : List (List Int)}, Paired (fun q l => SqT K H q (l.map V.int)) qs pan → DpAll K H (qs.map V.ref) (pan.map dInts)
  | _, _, .nil => .nil
  | _, _, .cons r t => .cons (dp_ints r) (dpAll_panT t)
theorem PanT.dp (h : PanT K H p pan) : Dp K H (.ref p) (dPan pan) := let ⟨_, h1, h2⟩ := h; .tup h1 (dpAll_panT h2)
end
theorem Good.rng' {pan : List (List Int)} (g : Good pan) {b x : Int} (hx : x ∈ pan.getD b.toNat []) : 0 ≤ x ∧ x < (pan.length : Int) := by
  by_cases h : b.toNat < pan.length
  · rw [List.getD_eq_getElem?_getD, List.getElem?_eq_getElem h] at hx
    exact g.rng _ (List.getElem_mem h) x hx
  · rw [List.getD_eq_getElem?_getD, List.getElem?_eq_none (by omega)] at hx
    cases hx
/-- one button -/
theorem good_one : Good [[]] := by
  refine ⟨by decide, by decide, fun l h => ?_, fun l h x hx => ?_, fun i l h hx => ?_⟩
  · rw [List.mem_singleton.mp h]; exact List.Pairwise.nil
  · rw [List.mem_singleton.mp h] at hx; cases hx
  · have : l = [] := by
      match i, h with
      | 0, h => exact (Option.some.inj h).symm
    rw [this] at hx; cases hx
/-! ### what a row meets -/
def metB (pan : List (List Int)) (row : List Int) (c : Int) : Prop := c ∈ row ∨ ∃ b ∈ row, c ∈ pan.getD b.toNat []
theorem words_same {pan : List (List Int)} {c : Int} : ∀ (row : List Int) (w : Str), row.foldl (wordM pan c) w = wSame ↔ w = wSame ∧ ¬ metB pan row c
  | [], w => by
    refine ⟨fun h => ⟨h, fun z => z.elim (fun q => by cases q) fun ⟨_, q, _⟩ => by cases q⟩, fun h => h.1⟩
  | b :: r, w => by
    rw [List.foldl_cons, words_same r]
    unfold wordM metB
    by_cases h1 : b = c
    · rw [if_pos h1]
      refine ⟨fun h => absurd h.1.symm same_ne_on, fun h => absurd ?_ h.2⟩
      exact .inl (by rw [h1]; exact List.mem_cons_self)
    · rw [if_neg h1]
      by_cases h2 : c ∈ pan.getD b.toNat []
      · rw [if_pos h2]
        refine ⟨fun h => absurd h.1.symm same_ne_off, fun h => absurd ?_ h.2⟩
        exact .inr ⟨b, List.mem_cons_self, h2⟩
      · rw [if_neg h2]
        refine and_congr_right fun _ => not_congr ⟨fun h => ?_, fun h => ?_⟩
        · rcases h with h | ⟨d, h3, h4⟩
          · exact .inl (List.mem_cons_of_mem _ h)
          · exact .inr ⟨d, List.mem_cons_of_mem _ h3, h4⟩
        · rcases h with h | ⟨d, h3, h4⟩
          · exact .inl ((List.mem_cons.mp h).resolve_left (Ne.symm h1))
          · rcases List.mem_cons.mp h3 with e | e
            · subst e; exact absurd h4 h2
            · exact .inr ⟨d, e, h4⟩
theorem same_mem_eff {pan : List (List Int)} {row : List Int} : wSame ∈ effM pan row ↔ ∃ c : Nat, c < pan.length ∧ ¬ metB pan row (c : Int) := by
  unfold effM
  rw [List.mem_map]
  constructor
  · rintro ⟨c, hc, e⟩
    exact ⟨c, List.mem_range.mp hc, ((words_same row wSame).mp e).2⟩
  · rintro ⟨c, hc, h⟩
    exact ⟨c, List.mem_range.mpr hc, (words_same row wSame).mpr ⟨rfl, h⟩⟩
theorem asc_full {n : Nat} {ms : List Int} (h : Asc n ms) : ms.length = n ↔ ∀ c : Nat, c < n → (c : Int) ∈ ms := by
  have e := h.eq
  constructor
  · intro hl c hc
    have h1 : ((intL n).filter (fun x => decide (x ∈ ms))).length = (intL n).length := by rw [e, hl, intL_len]
    have := List.length_filter_eq_length_iff.mp h1 (c : Int) (mem_intL.mpr ⟨by omega, by omega⟩)
    exact of_decide_eq_true this
  · intro hc
    rw [← e, List.length_filter_eq_length_iff.mpr, intL_len]
    intro x hx
    have := mem_intL.mp hx
    have h2 := hc x.toNat (by omega)
    rw [Int.toNat_of_nonneg this.1] at h2
    exact decide_eq_true h2
theorem inV_strs {b : Str} (l : List Str) : inV (.str b) (l.map V.str) = decide (b ∈ l) := by
  unfold inV
  rw [List.any_map, Bool.eq_iff_iff, List.any_eq_true, decide_eq_true_eq]
  constructor
  · rintro ⟨x, hx, e⟩
    have e' : x = b := by simpa [eqV] using e
    rw [← e']; exact hx
  · intro h
    exact ⟨b, h, by simp [eqV]⟩
end Pr
/-! Links within a state, ways along them, held buttons. -/
namespace Pr
open PySem PySem.Spec PyProof.Rows L2
def Rel (pan : List (List Int)) (st : List Int) (x y : Int) : Prop := x ∈ st ∧ y ∈ st ∧ y ∈ pan.getD x.toNat []
def Pth (pan : List (List Int)) (st : List Int) : Nat → Int → Int → Prop
  | 0, x, y => x = y
  | m + 1, x, y => ∃ z, Rel pan st x z ∧ Pth pan st m z y
section
variable {pan : List (List Int)} {st : List Int}
theorem Pth.join : ∀ {a b : Nat} {x y z : Int}, Pth pan st a x y → Pth pan st b y z → Pth pan st (a + b) x z
  | 0, b, x, y, z, h1, h2 => by rw [Nat.zero_add]; rw [show x = y from h1]; exact h2
  | a + 1, b, x, y, z, ⟨u, r, h1⟩, h2 => by
    rw [show a + 1 + b = (a + b) + 1 by omega]
    exact ⟨u, r, Pth.join h1 h2⟩
theorem Pth.split : ∀ {a b : Nat} {x z : Int}, Pth pan st (a + b) x z → ∃ y, Pth pan st a x y ∧ Pth pan st b y z
  | 0, b, x, z, h => ⟨x, rfl, by rw [Nat.zero_add] at h; exact h⟩
  | a + 1, b, x, z, h => by
    rw [show a + 1 + b = (a + b) + 1 by omega] at h
    obtain ⟨u, r, h⟩ := h
    obtain ⟨y, h1, h2⟩ := Pth.split h
    exact ⟨y, ⟨u, r, h1⟩, h2⟩
theorem Pth.one {x y : Int} (r : Rel pan st x y) : Pth pan st 1 x y := ⟨y, r, rfl⟩
theorem Pth.ends : ∀ {m : Nat} {x y : Int}, Pth pan st (m + 1) x y → x ∈ st ∧ y ∈ st
  | 0, x, y, ⟨z, r, h⟩ => ⟨r.1, by rw [← show z = y from h]; exact r.2.1⟩
  | m + 1, x, y, ⟨z, r, h⟩ => ⟨r.1, (Pth.ends h).2⟩
end
def Closed (pan : List (List Int)) (C : List Int) : Prop := ∀ b ∈ C, ∃ c ∈ pan.getD b.toNat [], c ∈ C
structure IsHeld (pan : List (List Int)) (st hs : List Int) : Prop where
  up : hs.Pairwise (· < ·)
  sub : ∀ x ∈ hs, x ∈ st
  closed : Closed pan hs
  most : ∀ C : List Int, Closed pan C → (∀ x ∈ C, x ∈ st) → ∀ x ∈ C, x ∈ hs
theorem nodup_sub : ∀ {l s : List Int}, l.Nodup → (∀ x ∈ l, x ∈ s) → l.length ≤ s.length
  | [], s, _, _ => Nat.zero_le _
  | x :: r, s, hn, h => by
    rw [List.nodup_cons] at hn
    have hx := h x List.mem_cons_self
    have ih := nodup_sub (l := r) (s := s.erase x) hn.2 fun y hy => (List.mem_erase_of_ne (fun e => hn.1 (by rw [← e]; exact hy))).mpr (h y (List.mem_cons_of_mem _ hy))
    rw [List.length_erase_of_mem hx] at ih
    have := List.length_pos_of_mem hx
    rw [List.length_cons]; omega
theorem not_nodup : ∀ {l : List Int}, ¬ l.Nodup → ∃ i j : Nat, ∃ x : Int, i < j ∧ l[i]? = some x ∧ l[j]? = some x
  | [], h => absurd List.nodup_nil h
  | y :: r, h => by
    by_cases hy : y ∈ r
    · obtain ⟨j, hj⟩ := List.getElem?_of_mem hy
      exact ⟨0, j + 1, y, Nat.succ_pos _, rfl, hj⟩
    · have : ¬ r.Nodup := fun hr => h (List.nodup_cons.mpr ⟨hy, hr⟩)
      obtain ⟨i, j, x, h1, h2, h3⟩ := not_nodup this
      exact ⟨i + 1, j + 1, x, by omega, h2, h3⟩
theorem walk_in {pan : List (List Int)} {st hs : List Int} (h : IsHeld pan st hs) : ∀ (m : Nat) (x : Int), x ∈ hs → ∃ l : List Int, l.length = m ∧ (∀ y ∈ l, y ∈ hs) ∧ (∀ (i : Nat) (y : Int), l[i]? = some y → Pth pan st (i + 1) x y) ∧
    ∀ (i j : Nat) (y z : Int), i < j → l[i]? = some y → l[j]? = some z → Pth pan st (j - i) y z
  | 0, x, _ => ⟨[], rfl, (fun y hy => by cases hy), (fun i y hy => by cases hy), (fun i j y z _ hy => by cases hy)⟩
  | m + 1, x, hx => by
    obtain ⟨c, hc1, hc2⟩ := h.closed x hx
    have r : Rel pan st x c := ⟨h.sub x hx, h.sub c hc2, hc1⟩
    obtain ⟨l, h1, h2, h3, h4⟩ := walk_in h m c hc2
    refine ⟨c :: l, by rw [List.length_cons, h1], fun y hy => (List.mem_cons.mp hy).elim (fun e => e ▸ hc2) (h2 y), fun i y hy => ?_, fun i j y z hij hy hz => ?_⟩
    · match i, hy with
      | 0, hy => cases hy; exact Pth.one r
      | i + 1, hy => exact ⟨c, r, h3 i y hy⟩
    · match i, j, hij, hy, hz with
      | 0, j + 1, _, hy, hz => cases hy; exact h3 j z hz
      | i + 1, j + 1, hij, hy, hz => rw [show j + 1 - (i + 1) = j - i by omega]; exact h4 i j y z (by omega) hy hz
theorem held_loop {pan : List (List Int)} {st hs : List Int} (h : IsHeld pan st hs) {b : Int} (hb : b ∈ hs) : ∃ (l : Int) (i j : Nat), 1 ≤ i ∧ i ≤ st.length ∧ 1 ≤ j ∧ j ≤ st.length ∧ Pth pan st i b l ∧ Pth pan st j l l := by
  obtain ⟨w, w1, w2, w3, w4⟩ := walk_in h (st.length + 1) b hb
  have nd : ¬ w.Nodup := fun hn => by
    have := nodup_sub hn fun x hx => h.sub x (w2 x hx)
    omega
  obtain ⟨i, j, x, hij, hi, hj⟩ := not_nodup nd
  have lj := (List.getElem?_eq_some_iff.mp hj).1
  exact ⟨x, i + 1, j - i, by omega, by omega, by omega, by omega, w3 i x hi, w4 i j x x hij hi hj⟩
theorem loop_held {pan : List (List Int)} {st hs : List Int} (h : IsHeld pan st hs) {b l : Int} {i j : Nat} (hi : 1 ≤ i) (hj : 1 ≤ j) (h1 : Pth pan st i b l) (h2 : Pth pan st j l l) : b ∈ hs := by
  classical
  have key : ∀ x, x ∈ st.filter (fun x => decide (∃ m, 1 ≤ m ∧ Pth pan st m x l)) → x ∈ hs := by
    refine fun x hx => h.most _ (fun y hy => ?_) (fun y hy => (List.mem_filter.mp hy).1) x hx
    obtain ⟨hy1, hy2⟩ := List.mem_filter.mp hy
    obtain ⟨m, hm, hp⟩ := of_decide_eq_true hy2
    obtain ⟨m, rfl⟩ : ∃ k, m = k + 1 := ⟨m - 1, by omega⟩
    obtain ⟨z, r, hp⟩ := hp
    refine ⟨z, r.2.2, List.mem_filter.mpr ⟨r.2.1, decide_eq_true ⟨m + j, by omega, Pth.join hp h2⟩⟩⟩
  refine key b (List.mem_filter.mpr ⟨?_, decide_eq_true ⟨i, hi, h1⟩⟩)
  obtain ⟨i, rfl⟩ : ∃ k, i = k + 1 := ⟨i - 1, by omega⟩
  exact (Pth.ends h1).1
theorem IsHeld.uniq {pan : List (List Int)} {st h1 h2 : List Int} (a : IsHeld pan st h1) (b : IsHeld pan st h2) : h1 = h2 :=
  asc_ext a.up b.up fun x => ⟨fun h => b.most h1 a.closed a.sub x h, fun h => a.most h2 b.closed b.sub x h⟩
def relB (pan : List (List Int)) (os : List Int) (b : Int) : Bool := (pan.getD b.toNat []).any fun c => decide (c ∈ os)
theorem relB_iff {pan : List (List Int)} {os : List Int} {b : Int} : relB pan os b = true ↔ ∃ c ∈ pan.getD b.toNat [], c ∈ os := by
  unfold relB
  rw [List.any_eq_true]
  exact ⟨fun ⟨c, h1, h2⟩ => ⟨c, h1, of_decide_eq_true h2⟩, fun ⟨c, h1, h2⟩ => ⟨c, h1, decide_eq_true h2⟩⟩
/-- on the way to the held buttons -/
structure Hold (pan : List (List Int)) (st hs : List Int) : Prop where
  up : hs.Pairwise (· < ·)
  sub : ∀ x ∈ hs, x ∈ st
  most : ∀ C : List Int, Closed pan C → (∀ x ∈ C, x ∈ st) → ∀ x ∈ C, x ∈ hs
theorem Hold.step {pan : List (List Int)} {st hs : List Int} (h : Hold pan st hs) : Hold pan st (hs.filter (relB pan hs)) := by
  refine ⟨h.up.filter _, fun x hx => h.sub x (List.mem_filter.mp hx).1, fun C hC hs' x hx => List.mem_filter.mpr ⟨h.most C hC hs' x hx, relB_iff.mpr ?_⟩⟩
  obtain ⟨c, h1, h2⟩ := hC x hx
  exact ⟨c, h1, h.most C hC hs' c h2⟩
theorem Hold.done {pan : List (List Int)} {st hs : List Int} (h : Hold pan st hs) (hl : ¬ (hs.filter (relB pan hs)).length < hs.length) : IsHeld pan st hs := by
  have e : (hs.filter (relB pan hs)).length = hs.length := Nat.le_antisymm (List.length_filter_le _ _) (by omega)
  exact ⟨h.up, h.sub, fun b hb => relB_iff.mp (List.length_filter_eq_length_iff.mp e b hb), h.most⟩
/-! ### reach, by doubling -/
/-- rows[x] holds the ends of ways of at most 2 ^ k links, and ends of ways only -/
structure Rch (pan : List (List Int)) (st : List Int) (k : Nat) (rows : List (List Int)) : Prop where
  len : rows.length = pan.length
  sound : ∀ (x : Nat) (l : List Int) (y : Int), rows[x]? = some l → y ∈ l → ∃ m, 1 ≤ m ∧ Pth pan st m (x : Int) y
  full : ∀ (x : Nat) (l : List Int) (y : Int) (m : Nat), rows[x]? = some l → 1 ≤ m → m ≤ 2 ^ k → Pth pan st m (x : Int) y → y ∈ l
theorem Rch.rng {pan : List (List Int)} {st : List Int} {k : Nat} {rows : List (List Int)} (h : Rch pan st k rows) (hs : ∀ x ∈ st, 0 ≤ x ∧ x < (pan.length : Int)) {x : Nat} {l : List Int} (hl : rows[x]? = some l) {y : Int} (hy : y ∈ l) : 0 ≤ y ∧ y < (pan.length : Int) := by
  obtain ⟨m, hm, p⟩ := h.sound x l y hl hy
  obtain ⟨m, rfl⟩ : ∃ k, m = k + 1 := ⟨m - 1, by omega⟩
  exact hs y (Pth.ends p).2
theorem Rch.next {pan : List (List Int)} {st : List Int} {k : Nat} {rows rows' : List (List Int)} (h : Rch pan st k rows) (hs : ∀ x ∈ st, 0 ≤ x ∧ x < (pan.length : Int)) (hl : rows'.length = rows.length)
    (hm : ∀ (x : Nat) (l l' : List Int), rows[x]? = some l → rows'[x]? = some l' → ∀ y, y ∈ l' ↔ (y ∈ l ∨ ∃ z ∈ l, y ∈ rows.getD z.toNat [])) : Rch pan st (k + 1) rows' := by
  have get : ∀ (x : Nat) (l' : List Int), rows'[x]? = some l' → ∃ l, rows[x]? = some l := fun x l' hx => by
    have := (List.getElem?_eq_some_iff.mp hx).1
    exact ⟨rows[x], List.getElem?_eq_getElem (by omega)⟩
  have nth : ∀ (z : Int), 0 ≤ z → z < (pan.length : Int) → rows[z.toNat]? = some (rows.getD z.toNat []) := fun z h0 h1 => by
    have : z.toNat < rows.length := by have := h.len; omega
    rw [List.getD_eq_getElem?_getD, List.getElem?_eq_getElem this]; rfl
  refine ⟨hl.trans h.len, fun x l' y hx hy => ?_, fun x l' y m hx h1 h2 hp => ?_⟩
  · obtain ⟨l, hl'⟩ := get x l' hx
    rcases (hm x l l' hl' hx y).mp hy with q | ⟨z, hz, q⟩
    · exact h.sound x l y hl' q
    · obtain ⟨a, ha, pa⟩ := h.sound x l z hl' hz
      have zr := h.rng hs hl' hz
      obtain ⟨b, hb, pb⟩ := h.sound z.toNat _ y (nth z zr.1 zr.2) q
      rw [Int.toNat_of_nonneg zr.1] at pb
      exact ⟨a + b, by omega, pa.join pb⟩
  · obtain ⟨l, hl'⟩ := get x l' hx
    refine (hm x l l' hl' hx y).mpr ?_
    by_cases hk : m ≤ 2 ^ k
    · exact .inl (h.full x l y m hl' h1 hk hp)
    · have e2 : 2 ^ (k + 1) = 2 ^ k + 2 ^ k := by rw [Nat.pow_succ]; omega
      have p2 : 1 ≤ 2 ^ k := Nat.one_le_two_pow
      rw [show m = 2 ^ k + (m - 2 ^ k) by omega] at hp
      obtain ⟨z, pa, pb⟩ := Pth.split hp
      have hz := h.full x l z (2 ^ k) hl' p2 (Nat.le_refl _) pa
      have zr := h.rng hs hl' hz
      refine .inr ⟨z, hz, h.full z.toNat _ y (m - 2 ^ k) (nth z zr.1 zr.2) (by omega) (by omega) ?_⟩
      rw [Int.toNat_of_nonneg zr.1]; exact pb
theorem Rch.first {pan : List (List Int)} {st : List Int} {rows : List (List Int)} (hl : rows.length = pan.length) (hm : ∀ (x : Nat) (l : List Int), rows[x]? = some l → ∀ y, y ∈ l ↔ Rel pan st (x : Int) y) : Rch pan st 0 rows := by
  refine ⟨hl, fun x l y hx hy => ⟨1, Nat.le_refl _, Pth.one ((hm x l hx y).mp hy)⟩, fun x l y m hx h1 h2 hp => ?_⟩
  obtain rfl : m = 1 := by
    have : (2 : Nat) ^ 0 = 1 := rfl
    omega
  obtain ⟨z, r, e⟩ := hp
  rw [show z = y from e] at r
  exact (hm x l hx y).mpr r
/-- what the law holds for held -/
theorem Rch.held {pan : List (List Int)} {st hs : List Int} {k : Nat} {rows : List (List Int)} (h : Rch pan st k rows) (hk : st.length ≤ 2 ^ k) (hs' : ∀ x ∈ st, 0 ≤ x ∧ x < (pan.length : Int)) (hh : IsHeld pan st hs) {b : Int} (hb : b ∈ st) :
    b ∈ hs ↔ ∃ l ∈ rows.getD b.toNat [], l ∈ st ∧ l ∈ rows.getD l.toNat [] := by
  have nth : ∀ (z : Int), z ∈ st → rows[z.toNat]? = some (rows.getD z.toNat []) := fun z hz => by
    have : z.toNat < rows.length := by have := h.len; have := hs' z hz; omega
    rw [List.getD_eq_getElem?_getD, List.getElem?_eq_getElem this]; rfl
  have cast : ∀ z, z ∈ st → ((z.toNat : Nat) : Int) = z := fun z hz => Int.toNat_of_nonneg (hs' z hz).1
  constructor
  · intro hx
    obtain ⟨l, i, j, i1, i2, j1, j2, p1, p2⟩ := held_loop hh hx
    obtain ⟨j', rfl⟩ : ∃ k, j = k + 1 := ⟨j - 1, by omega⟩
    have hl := (Pth.ends p2).1
    exact ⟨l, h.full b.toNat _ l i (nth b hb) i1 (by omega) (by rw [cast b hb]; exact p1), hl, h.full l.toNat _ l (j' + 1) (nth l hl) j1 (by omega) (by rw [cast l hl]; exact p2)⟩
  · rintro ⟨l, h1, hl, h2⟩
    obtain ⟨i, i1, p1⟩ := h.sound b.toNat _ l (nth b hb) h1
    obtain ⟨j, j1, p2⟩ := h.sound l.toNat _ l (nth l hl) h2
    rw [cast b hb] at p1
    rw [cast l hl] at p2
    exact loop_held hh i1 j1 p1 p2
theorem le_two_pow (n : Nat) : n ≤ 2 ^ n := Nat.le_of_lt Nat.lt_two_pow_self
end Pr
/-! xs != [] and xs == []. -/
namespace Pr
open PySem PySem.Spec PyProof.Rows L2
theorem list_neL1 (l : Addr) (items : Array Value) (n : Nat) (b : Addr) (items2 : Array Value) (n2 : Nat) (hc0 : (items.size != items2.size) = true) :
    Meets (Builtin.«list.__ne__» ⟨[.ref l, .ref b], []⟩) (fun _ R s => s.heap.get? l = some { cls := .type "list", dict := none, data := .seq items n, slots := #[] } ∧ s.heap.get? b = some { cls := .type "list", dict := none, data := .seq items2 n2, slots := #[] } ∧ R (.ok (.ret (Value.bool (CmpOp.NotEq == CmpOp.NotEq)))) { s with heap := s.heap, toks := s.toks }) :=
  .of_wp fun prog w A R s h => by
    obtain ⟨hp, g, d, tk, os⟩ := s; obtain ⟨hl, hb, h⟩ := h
    have f3 := AutoSeq1.sub_list_list
    wp_walk using AutoSeq1.wpAny_loadPart' hl, AutoSeq1.wpAny_loadPart' hb
    exact ⟨_, rfl, h⟩
theorem list_eqL1 (l : Addr) (items : Array Value) (n : Nat) (b : Addr) (items2 : Array Value) (n2 : Nat) (hc0 : (items.size != items2.size) = true) :
    Meets (Builtin.«list.__eq__» ⟨[.ref l, .ref b], []⟩) (fun _ R s => s.heap.get? l = some { cls := .type "list", dict := none, data := .seq items n, slots := #[] } ∧ s.heap.get? b = some { cls := .type "list", dict := none, data := .seq items2 n2, slots := #[] } ∧ R (.ok (.ret (Value.bool (CmpOp.Eq == CmpOp.NotEq)))) { s with heap := s.heap, toks := s.toks }) :=
  .of_wp fun prog w A R s h => by
    obtain ⟨hp, g, d, tk, os⟩ := s; obtain ⟨hl, hb, h⟩ := h
    have f3 := AutoSeq1.sub_list_list
    wp_walk using AutoSeq1.wpAny_loadPart' hl, AutoSeq1.wpAny_loadPart' hb
    exact ⟨_, rfl, h⟩
section
variable {X : Cx}
/-- xs != [], two lists that stand -/
def rNeE1 : R2 := fun x y H Q => ∃ l b xs, x = .ref l ∧ y = .ref b ∧ H l = some (.lst xs) ∧ H b = some (.lst []) ∧ Q (.bl (!xs.isEmpty)) H
theorem op_neE1 (hu : X.A.units + 64 < cLine) : OpR X (compareOp .NotEq) rNeE1 := by
  intro pins s σ H x y v u Q I rx ry h
  obtain ⟨l, b, xs, rfl, rfl, hl, hb, q⟩ := h
  by_cases e : xs = []
  · subst e
    exact op_neD hu pins s σ H _ _ v u Q I rx ry ⟨.list [], .list [], .lst (.inl (.inl hl)) .nil, .lst (.inl (.inl hb)) .nil, rfl, rfl, q⟩
  · cases rx
    cases ry
    obtain ⟨_, its, n, rv, ho⟩ := I.hok _ _ hl
    obtain ⟨_, its2, n2, rv2, ho2⟩ := I.hok _ _ hb
    cases rv2
    have hlen := rv.length
    have hne : its.toArray.size ≠ 0 := by
      rw [List.size_toArray, ← hlen]
      exact fun z => e (List.eq_nil_of_length_eq_zero z)
    have q' : Q (.bl true) H := by
      have : xs.isEmpty = false := by
        cases xs with
        | nil => exact absurd rfl e
        | cons _ _ => rfl
      rw [this] at q; exact q
    exact richCompare_meets_room (op := .NotEq) ⟨_, ho, rfl⟩ ⟨_, ho2, rfl⟩ PySem.F.slot_list_ne PySem.F.entry_list_ne (PySem.F.args_list_ne_2 _ _) (list_neL1 l its.toArray n b ([] : List Value).toArray n2 (by simpa using hne))
      ⟨ho, ho2, show Value.bool (CmpOp.NotEq == CmpOp.NotEq) ≠ Value.notImplemented ∧ _ from ⟨(fun z => nomatch z), .bl true, H, I, rfl, q'⟩⟩ (by omega)
/-- xs == [], two lists that stand -/
def rEqE1 : R2 := fun x y H Q => ∃ l b xs, x = .ref l ∧ y = .ref b ∧ H l = some (.lst xs) ∧ H b = some (.lst []) ∧ Q (.bl xs.isEmpty) H
theorem op_eqE1 (hu : X.A.units + 64 < cLine) : OpR X (compareOp .Eq) rEqE1 := by
  intro pins s σ H x y v u Q I rx ry h
  obtain ⟨l, b, xs, rfl, rfl, hl, hb, q⟩ := h
  by_cases e : xs = []
  · subst e
    exact op_eqD hu pins s σ H _ _ v u Q I rx ry ⟨.list [], .list [], .lst (.inl (.inl hl)) .nil, .lst (.inl (.inl hb)) .nil, rfl, rfl, q⟩
  · cases rx
    cases ry
    obtain ⟨_, its, n, rv, ho⟩ := I.hok _ _ hl
    obtain ⟨_, its2, n2, rv2, ho2⟩ := I.hok _ _ hb
    cases rv2
    have hlen := rv.length
    have hne : its.toArray.size ≠ 0 := by
      rw [List.size_toArray, ← hlen]
      exact fun z => e (List.eq_nil_of_length_eq_zero z)
    have q' : Q (.bl false) H := by
      have : xs.isEmpty = false := by
        cases xs with
        | nil => exact absurd rfl e
        | cons _ _ => rfl
      rw [this] at q; exact q
    exact richCompare_meets_room (op := .Eq) ⟨_, ho, rfl⟩ ⟨_, ho2, rfl⟩ PySem.F.slot_list_eq PySem.F.entry_list_eq (PySem.F.args_list_eq_2 _ _) (list_eqL1 l its.toArray n b ([] : List Value).toArray n2 (by simpa using hne))
      ⟨ho, ho2, show Value.bool (CmpOp.Eq == CmpOp.NotEq) ≠ Value.notImplemented ∧ _ from ⟨(fun z => nomatch z), .bl false, H, I, rfl, q'⟩⟩ (by omega)
end
end Pr
/-! Tuples that are known: a display, a repetition; how often a text is in one; sums and slices of tuples with one way on. -/
namespace Pr
open PySem PySem.Spec PyProof.Rows L2
section
variable {X : Cx}
def tTupF (t : TA) : TE := fun σ H Q => t σ H fun xs H1 => xs.length ≤ sizeLine ∧ ∀ p o, H1 p = none → o.dict = none → Q (.ref p) (upd H1 p (.frz o (.tup xs)))
theorem pe_tupF {es : List Expr} {t : TA} {x1 : Nat} {pos : Pos} (h : PA X es t) : PE X (.Tuple es x1 pos) (tTupF t) :=
  ⟨fun pins s σ H Q I hq => wpAny_Tuple_spliced (thn (h.run pos pins s σ H _ I hq) fun us s1 ⟨xs, H1, I1, r, z, q⟩ => ⟨r.length ▸ z,
    ⟨.ref s1.heap.objs.size, _, I1.laid (t' := s1.toks) (o := .frz { cls := .type "tuple", data := .seq us.toArray } (.tup xs)) (fun _ _ e => Heap.get?_push_of_some _ e) (Nat.le_refl _) ⟨Heap.get?_push_size _ rfl, z, us, r, IsTup.new _ _⟩, rfl,
      q _ _ (I1.hok.fresh (Nat.le_refl _)) rfl⟩⟩)⟩
/-- (v,) * k of a known tuple -/
def rRepF : R2 := fun x y H Q => ∃ (l : Addr) (v : V) (k : Nat), x = .ref l ∧ y = .int (k : Int) ∧ FT H l [v] ∧ 1 ≤ k ∧ k ≤ 1000 ∧ ∀ p H', Same H H' → FT H' p (List.replicate k v) → Q (.ref p) H'
theorem op_repF : OpR X (binaryOp .Mult) rRepF := by
  intro pins s σ H x y u1 u2 Q I rx ry h
  obtain ⟨l, v, k, rfl, rfl, hF, h1, h2, q⟩ := h
  by_cases e1 : k = 1
  · subst e1
    exact op_rep1 pins s σ H _ _ u1 u2 Q I rx ry ⟨l, v, rfl, hF.sq, .inl ⟨rfl, q l H (Same.refl _) hF⟩⟩
  · cases rx
    obtain ⟨tk, rfl⟩ := ry
    obtain ⟨its, r, ⟨⟨cls, dd, data, sl⟩, ho, hc, n, hd⟩, hs⟩ := I.tuple (hF.sq (K := X.K))
    simp only at hc hd
    subst hc hd
    obtain ⟨a, rfl, ra⟩ := vals1 r
    have big : (List.replicate k [a]).flatten.length ≤ sizeLine := by
      rw [rep_flat, List.length_replicate, sizeLine_eq]; omega
    have sz : (([a] : List Value).toArray.size : Int) * (k : Int) = (k : Int) := by
      show (1 : Int) * (k : Int) = _
      omega
    have big2 : (List.foldl (fun x1 x2 => x1 ++ x2) #[] (List.replicate ((k : Int)).toNat ([a] : List Value).toArray)).size ≤ sizeLine := by
      rw [size_rep, List.size_toArray, Int.toNat_natCast]; exact big
    refine wpAny_binaryOp_repeat_ref (T := "tuple") (U := "int") (by decide) ⟨_, ho, rfl⟩ (fun s' => typeIs_int s' (k : Int) tk) noFill_tuple_mul F.fills_int_mul F.slot_int_rmul repeat_tuple F.slot_int_index.lookup ?_
    refine call_meets F.slot_int_rmul (typeIs_int s (k : Int) tk) F.entry_int_rmul (F.args_int_rmul_2 _ _) (int_rmul_tuple (k : Int) tk l _ n dd sl) ⟨ho, rfl, ⟨_, ho, rfl⟩, ?_⟩
    refine call_meets F.slot_tuple_mul ⟨_, ho, rfl⟩ F.entry_tuple_mul (F.args_tuple_mul_2 _ _) (tuple_mulW l _ n dd sl (k : Int) tk ?_ ?_ ?_ ?_ ?_ big2) ⟨ho, ?_⟩
    · rw [decide_eq_false (by omega), decide_eq_false (by omega)]; rfl
    · show (false || ((k : Int) == 1)) = false
      rw [Bool.false_or]; exact beq_eq_false_iff_ne.mpr (by omega)
    · rw [decide_eq_false (by omega)]; rfl
    · rw [sz]; omega
    · unfold Builtin.Tuple.tupleTooMany
      rw [sz, sizeLine_eq]; exact decide_eq_false (by omega)
    · rw [size_rep, Int.toNat_natCast]
      have rr := r.rep k
      refine ⟨.ref s.heap.objs.size, _, I.laid (t' := s.toks) (o := .frz { cls := .type "tuple", data := .seq (List.replicate k [a]).flatten.toArray } (.tup (List.replicate k [v]).flatten)) (fun _ _ e => Heap.get?_push_of_some _ e) (Nat.le_refl _) ⟨Heap.get?_push_size _ rfl, ?_, _, rr, IsTup.new _ _⟩, rfl,
        q _ _ (same_new (I.hok.fresh (Nat.le_refl _))) ⟨_, by rw [upd_same, rep_flat (v := v)], rfl⟩⟩
      rw [rep_flat, List.length_replicate, sizeLine_eq]; omega
/-- t + u, one way on -/
def rCatS (K : PySem.W.Frag) : R2 := fun x y H Q => ∃ a b xs ys, x = .ref a ∧ y = .ref b ∧ SqT K H a xs ∧ SqT K H b ys ∧ xs.length + ys.length ≤ sizeLine ∧ ∀ p H', Same H H' → SqT K H' p (xs ++ ys) → Q (.ref p) H'
theorem op_catS : OpR X (binaryOp .Add) (rCatS X.K) := by
  intro pins s σ H x y u1 u2 Q I rx ry h
  obtain ⟨a, b, xs, ys, rfl, rfl, ha, hb, hz, q⟩ := h
  refine op_catA pins s σ H _ _ u1 u2 Q I rx ry ⟨a, b, xs, ys, rfl, rfl, ha, hb, hz, fun e => q b H (Same.refl _) ?_, fun _ e => q a H (Same.refl _) ?_, fun _ _ p np => q p _ (same_new np) (.inl (.inl upd_same))⟩
  · rw [e]; exact hb
  · rw [e, List.append_nil]; exact ha
/-- t[lo:hi], one way on -/
def rSlS (K : PySem.W.Frag) : V → Option Int → Option Int → Hp → VK → Prop := fun x lo hi H Q => ∃ a xs, x = .ref a ∧ SqT K H a xs ∧ ∀ p H', Same H H' → SqT K H' p (cutV xs lo hi) → Q (.ref p) H'
theorem sl_tupS : SlR X (rSlS X.K) := by
  intro pins s σ H x v vl vu lo hi sl Q I rx hs pl pu h
  obtain ⟨a, xs, rfl, ha, q⟩ := h
  refine sl_tupA pins s σ H _ v vl vu lo hi sl Q I rx hs pl pu ⟨a, xs, rfl, ha, fun e => q a H (Same.refl _) ?_, fun _ p np => q p _ (same_new np) (.inl (.inl upd_same))⟩
  have : cutV xs lo hi = xs := by
    unfold cutV
    rw [e.1, e.2, List.drop_zero, Nat.sub_zero, List.take_length]
  rw [this]; exact ha
theorem countP_str (k : Str) : ∀ {vs : List Value} {ys : List Str}, StrsAre vs ys → vs.countP (isStrOf k) = ys.count k
  | _, _, .nil => rfl
  | _, _, .cons n u h => by
    rw [List.countP_cons, List.count_cons, countP_str k h]
    rfl
/-- t.count(text) -/
def rCntS (K : PySem.W.Frag) : V → List V → Hp → VK → Prop := fun x xs H Q => ∃ (p : Addr) (ys : List Str) (k : Str), x = .ref p ∧ xs = [.str k] ∧ SqT K H p (ys.map V.str) ∧ Q (.int (ys.count k : Nat)) H
theorem mt_tcountS : MtR X "tuple.count" (rCntS X.K) := by
  intro pins s σ H x xs v us Q I rx rxs h
  obtain ⟨p, ys, k, rfl, rfl, hs, q⟩ := h
  cases rx
  obtain ⟨u, rfl, t, rfl⟩ := rxs.one
  obtain ⟨its, rv, ⟨⟨cls, dd, data, sl⟩, ho, hc, n, hd⟩, hlen⟩ := I.tuple hs
  simp only at hc hd
  subst hc hd
  have hi := strs_of_vals rv
  refine call_meets PySem.F.slot_tuple_count ⟨_, ho, rfl⟩ PySem.F.entry_tuple_count (PySem.F.args_tuple_count_2 _ _)
    (SeqAt.tuple_countAt p its.toArray n dd sl (.str k t) (isStrOf k)) ⟨ho, fun y hy => (eq_isStrOf k t hi y (by simpa using hy)).at _ _, ?_⟩
  have ec : its.toArray.toList.countP (isStrOf k) = ys.count k := countP_str k hi
  rw [ec]
  exact ⟨.int (ys.count k : Nat), H, I.tok _, ⟨s.toks, rfl⟩, q⟩
end
end Pr
/-! set, len, min, index and slices of tuples of ints. -/
namespace Pr
open PySem PySem.Spec PyProof.Rows L2
theorem reads_ints {h : Heap} : ∀ {l : List Int} {us : List Value}, Vals (l.map V.int) us → ∃ as, ReadsAll h us (l.map PyData.int) as
  | [], _, .nil => ⟨_, .nil⟩
  | x :: l, _, .cons rx rr => by
    obtain ⟨t, rfl⟩ := rx
    obtain ⟨as, r⟩ := reads_ints rr
    exact ⟨_, .cons (.int x t) r⟩
section
variable {X : Cx}
def rSetT' (K : PySem.W.Frag) (w : World) : List V → Hp → VK → Prop := fun vs H Q => ∃ (a : Addr) (ns : List Int), vs = [V.ref a] ∧ SqT K H a (ns.map V.int) ∧ ns.length ≤ 1000 ∧
  ∀ (l : Addr) (n : Nat) (ks : List Int), H l = none → ks.Nodup → (∀ k, k ∈ ks ↔ k ∈ ns) → ks.length = n → Q (.ref l) (upd H l (SetO w l (fun j => decide (j ∈ ns)) n))
theorem cr_setT (hc : X.calm = true) : CallR X (.type "set") (rSetT' X.K X.w) := by
  intro pins s σ H vs us Q I r h
  obtain ⟨a, ns, rfl, hs, hn, q⟩ := h
  obtain ⟨its, rv, pt, hz⟩ := I.tuple hs
  rw [Vals.ref1 r]
  refine call_set_tupI ns (I.ok.hd hc) pt (by simpa using rv.ints) (Nat.lt_of_le_of_lt (Nat.add_le_add_right hn 1) (by decide)) fun h' tk n R _ kp => ?_
  obtain ⟨o, es, ep, t, h1, h2, h3, h4, h5, h6, h7, h8, h9, h10⟩ := id R
  refine ⟨.ref s.heap.objs.size, _, I.laid (t' := tk) kp (Nat.le_refl _) (setO_new R), rfl, q _ n (es.toList.map keyOf) (I.hok.fresh (Nat.le_refl _)) h5 (fun k => ?_) (by rw [List.length_map, Array.length_toList]; exact h9)⟩
  rw [← h6 k, decide_eq_true_eq]
/-- len of a set of ints -/
def rLenSet (w : World) : List V → Hp → VK → Prop := fun vs H Q => ∃ (a : Addr) (S : Int → Bool) (n : Nat), vs = [V.ref a] ∧ H a = some (SetO w a S n) ∧ Q (.int (n : Nat)) H
theorem cr_lenSet : CallR X (.builtin "len") (rLenSet X.w) := by
  intro pins s σ H vs us Q I r h
  obtain ⟨a, S, n, rfl, ha, q⟩ := h
  rw [Vals.ref1 r]
  obtain ⟨o, es, ep, t, h1, h2, h3, h4, h5, h6, h7, h8, h9, h10⟩ := setO_get I ha
  have hz : es.size < 2 ^ 24 := Nat.lt_of_lt_of_le h7 (by decide)
  exact call_len_set h1 h2 h3 h8 (by omega) ⟨.int (n : Nat), H, I.tok _, ⟨_, by rw [h9]⟩, q⟩
/-- min of a tuple of ints -/
def rMinT (K : PySem.W.Frag) : List V → Hp → VK → Prop := fun vs H Q => ∃ (a : Addr) (n : Int) (ns : List Int), vs = [V.ref a] ∧ SqT K H a ((n :: ns).map V.int) ∧ Q (.int (ns.foldl min n)) H
theorem cr_minT (hc : X.calm = true) (hu : X.A.units + 64 < cLine) : CallR X (.builtin "min") (rMinT X.K) := by
  intro pins s σ H vs us Q I r h
  obtain ⟨a, n, ns, rfl, hs, q⟩ := h
  obtain ⟨its, rv, pt, hz⟩ := I.tuple hs
  rw [Vals.ref1 r]
  obtain ⟨as, ra⟩ := reads_ints (h := s.heap) (l := n :: ns) rv
  have dp : ∀ l : List Int, PyData.depthAll (l.map PyData.int) = 0 := fun l => by
    induction l with
    | nil => simp [PyData.depthAll]
    | cons x l ih => rw [List.map_cons]; simp only [PyData.depthAll, PyData.depth]; rw [ih]; rfl
  have alk : PySem.W.AlikeAll ((n :: ns).map PyData.int) := by
    refine ⟨fun x hx y hy => ?_, fun x hx e => ?_⟩
    · obtain ⟨i, _, rfl⟩ := List.mem_map.mp hx
      obtain ⟨j, _, rfl⟩ := List.mem_map.mp hy
      rfl
    · obtain ⟨i, _, rfl⟩ := List.mem_map.mp hx
      cases e
  refine PySem.W.min_tuple_data (I.ok.hd hc) pt (by simpa using ra) alk (by have := dp (n :: ns); rw [List.map_cons] at this; rw [this]; omega) fun i v h' tk bs _ rd kp => ?_
  rw [PySem.W.minD_ints] at rd
  cases rd with
  | int _ t => exact ⟨.int _, H, I.kept (t' := tk) kp, ⟨_, rfl⟩, q⟩
/-- t.index(k), it is there -/
def rIdxT (K : PySem.W.Frag) : V → List V → Hp → VK → Prop := fun x xs H Q => ∃ (p : Addr) (ns : List Int) (k : Int) (j : Nat), x = .ref p ∧ xs = [.int k] ∧ SqT K H p (ns.map V.int) ∧ ns[j]? = some k ∧ (∀ m, m < j → ns[m]? ≠ some k) ∧ Q (.int (j : Nat)) H
theorem mt_tindex : MtR X "tuple.index" (rIdxT X.K) := by
  intro pins s σ H x xs v us Q I rx rxs h
  obtain ⟨p, ns, k, j, rfl, rfl, hs, hj, hno, q⟩ := h
  cases rx
  obtain ⟨u, rfl, t, rfl⟩ := rxs.one
  obtain ⟨its, rv, ⟨⟨cls, dd, data, sl⟩, ho, hc, n, hd⟩, hlen⟩ := I.tuple hs
  simp only at hc hd
  subst hc hd
  have hi := ints_of_vals rv
  have len : its.toArray.size = ns.length := by simpa using hi.length
  have lj : j < its.toArray.size := by rw [len]; exact (List.getElem?_eq_some_iff.mp hj).1
  have nth : ∀ (m : Nat) (hm : m < its.toArray.size), eqk k its.toArray[m] = true ↔ ns[m]? = some k := fun m hm => by
    have hm' : m < ns.length := by rw [← len]; exact hm
    obtain ⟨tm, e⟩ := hi.get m _ (List.getElem?_eq_getElem hm')
    have e2 : its.toArray[m] = .int ns[m] tm := by
      have := (List.getElem?_eq_some_iff.mp e).2
      simpa using this
    rw [e2, List.getElem?_eq_getElem hm']
    show ((ns[m] == k) = true) ↔ _
    rw [beq_iff_eq]
    exact ⟨fun z => by rw [z], fun z => Option.some.inj z⟩
  refine call_meets PySem.F.slot_tuple_index ⟨_, ho, rfl⟩ PySem.F.entry_tuple_index (PySem.F.args_tuple_index_2 _ _) (TI.tuple_indexAt p its.toArray n dd sl (.int k t) (eqk k) j lj ((nth j lj).mpr hj) (fun m hm hmj => ?_))
    ⟨ho, fun y hy => (eqk_gives hi y (by simpa using hy)).at _ _, ⟨.int (j : Nat), H, I.tok _, ⟨_, rfl⟩, q⟩⟩
  exact (Bool.not_eq_true _).mp fun z => hno m hmj ((nth m hm).mp z)
/-- t[lo:hi] of a known tuple -/
def rSlF : V → Option Int → Option Int → Hp → VK → Prop := fun x lo hi H Q => ∃ a xs, x = .ref a ∧ FT H a xs ∧ ∀ p H', Same H H' → FT H' p (cutV xs lo hi) → Q (.ref p) H'
theorem sl_tupF : SlR X rSlF := by
  intro pins s σ H x v vl vu lo hi sl Q I rx hs pl pu h
  obtain ⟨a, xs, rfl, hF, q⟩ := h
  by_cases hw : HT.sIx xs.length 0 lo = 0 ∧ HT.sIx xs.length xs.length hi = xs.length
  · refine sl_tupA pins s σ H _ v vl vu lo hi sl Q I rx hs pl pu ⟨a, xs, rfl, hF.sq, fun e => q a H (Same.refl _) ?_, fun e => absurd hw e⟩
    have : cutV xs lo hi = xs := by
      unfold cutV
      rw [hw.1, hw.2, List.drop_zero, Nat.sub_zero, List.take_length]
    rw [this]; exact hF
  · cases rx
    obtain ⟨its, r, ht, hz⟩ := I.tuple (hF.sq (K := X.K))
    have len : its.toArray.size = xs.length := by simpa using r.length.symm
    refine ⟨"tuple", _, PyProof.Rows.slot_tuple_getitem.lookup, ht.typeIs, HT.getItem_tuple_cut ht hs pl pu (by rw [len]; exact hw) ?_ (by rw [len]; exact hz)⟩
    rw [len]
    have rr := (r.drop (HT.sIx xs.length 0 lo)).take (HT.sIx xs.length xs.length hi - HT.sIx xs.length 0 lo)
    exact ⟨.ref s.heap.objs.size, _, I.laid (t' := s.toks) (o := .frz { cls := .type "tuple", data := .seq ((its.drop (HT.sIx xs.length 0 lo)).take (HT.sIx xs.length xs.length hi - HT.sIx xs.length 0 lo)).toArray } (.tup (cutV xs lo hi))) (fun _ _ e => Heap.get?_push_of_some _ e) (Nat.le_refl _) ⟨Heap.get?_push_size _ rfl, Nat.le_trans (cutV_length xs lo hi) hz, _, rr, IsTup.new _ _⟩, rfl,
      q _ _ (same_new (I.hok.fresh (Nat.le_refl _))) ⟨_, upd_same, rfl⟩⟩
end
end Pr
/-! Rounds, as plain functions. -/
namespace Pr
open PySem PySem.Spec PyProof.Rows L2
def onM' (pan : List (List Int)) (hs : List Int) (x : Int) : List Int := (pan.getD x.toNat []).filter fun y => decide (y ∈ hs)
def nextM (pan : List (List Int)) (hs : List Int) (x : Int) : Int := (onM' pan hs x).headD 0
def walkF (pan : List (List Int)) (hs : List Int) : Nat → List Int → List Int
  | 0, ws => ws
  | k + 1, ws => if ws.getLastD 0 ∈ ws.dropLast then ws else walkF pan hs k (ws ++ [nextM pan hs (ws.getLastD 0)])
/-- a walk that may go on -/
structure Wlk (pan : List (List Int)) (hs ws : List Int) : Prop where
  ne : ws ≠ []
  mem : ∀ x ∈ ws, x ∈ hs
  nd : ws.dropLast.Nodup
  link : ∀ (i : Nat) (x y : Int), ws[i]? = some x → ws[i + 1]? = some y → y ∈ pan.getD x.toNat []
theorem next_in {pan : List (List Int)} {hs : List Int} (hc : Closed pan hs) {x : Int} (hx : x ∈ hs) : ∃ r, onM' pan hs x = nextM pan hs x :: r ∧ nextM pan hs x ∈ hs ∧ nextM pan hs x ∈ pan.getD x.toNat [] := by
  obtain ⟨c, h1, h2⟩ := hc x hx
  have hm : c ∈ onM' pan hs x := List.mem_filter.mpr ⟨h1, decide_eq_true h2⟩
  unfold nextM
  cases e : onM' pan hs x with
  | nil => rw [e] at hm; cases hm
  | cons y r =>
    have hy : y ∈ onM' pan hs x := by rw [e]; exact List.mem_cons_self
    have := List.mem_filter.mp hy
    exact ⟨r, rfl, of_decide_eq_true this.2, this.1⟩
theorem last_get {ws : List Int} (h : ws ≠ []) : ws[ws.length - 1]? = some (ws.getLastD 0) := by
  rw [← List.getLast?_eq_getElem?, List.getLastD_eq_getLast?]
  cases e : ws.getLast? with
  | none => exact absurd (List.getLast?_eq_none_iff.mp e) h
  | some x => rfl
theorem Wlk.one {pan : List (List Int)} {hs : List Int} {x : Int} (hx : x ∈ hs) : Wlk pan hs [x] :=
  ⟨by simp, fun y hy => by rw [List.mem_singleton.mp hy]; exact hx, by simp, fun i a b _ h => by simp at h⟩
theorem Wlk.more {pan : List (List Int)} {hs ws : List Int} (h : Wlk pan hs ws) (hc : Closed pan hs) (hn : ws.getLastD 0 ∉ ws.dropLast) : Wlk pan hs (ws ++ [nextM pan hs (ws.getLastD 0)]) ∧ ws.Nodup := by
  have hl : ws.getLastD 0 ∈ hs := h.mem _ (List.mem_of_getElem? (last_get h.ne))
  obtain ⟨r, _, n1, n2⟩ := next_in hc hl
  have e : ws = ws.dropLast ++ [ws.getLastD 0] := by
    have h1 := List.dropLast_concat_getLast h.ne
    have h2 : ws.getLast h.ne = ws.getLastD 0 := by rw [List.getLastD_eq_getLast?, List.getLast?_eq_some_getLast h.ne]; rfl
    rw [h2] at h1
    exact h1.symm
  have nd : ws.Nodup := by
    rw [e, List.nodup_append]
    refine ⟨h.nd, by simp, fun a ha b hb => ?_⟩
    rw [List.mem_singleton.mp hb]
    exact fun z => hn (z ▸ ha)
  refine ⟨⟨by simp, fun x hx => ?_, by rw [List.dropLast_concat]; exact nd, fun i x y hx hy => ?_⟩, nd⟩
  · rcases List.mem_append.mp hx with q | q
    · exact h.mem x q
    · rw [List.mem_singleton.mp q]; exact n1
  · rcases Nat.lt_trichotomy (i + 1) ws.length with q | q | q
    · rw [List.getElem?_append_left (by omega)] at hx hy
      exact h.link i x y hx hy
    · rw [List.getElem?_append_left (by omega)] at hx
      rw [List.getElem?_append_right (by omega), show i + 1 - ws.length = 0 by omega] at hy
      have hy' : nextM pan hs (ws.getLastD 0) = y := by simpa using hy
      rw [show i = ws.length - 1 by omega, last_get h.ne] at hx
      rw [← hy', ← Option.some.inj hx]; exact n2
    · rw [List.getElem?_append_right (by omega), List.getElem?_eq_none (by rw [List.length_singleton]; omega)] at hy
      cases hy
/-! ### the ring, and its turn -/
theorem idx_get {l : List Int} {a : Int} (h : a ∈ l) : l[l.idxOf a]? = some a := by
  have hl := List.idxOf_lt_length_of_mem h
  rw [List.getElem?_eq_getElem hl, List.getElem_idxOf hl]
theorem idx_no : ∀ {l : List Int} {a : Int} {m : Nat}, m < l.idxOf a → l[m]? ≠ some a
  | [], a, m, h => by simp at h
  | x :: r, a, m, h => by
    rw [List.idxOf_cons] at h
    by_cases e : x = a
    · subst e; simp at h
    · have eb : (x == a) = false := by simpa using e
      rw [eb] at h
      match m, h with
      | 0, _ => intro z; exact e (by simpa using z)
      | m + 1, h => exact idx_no (l := r) (by simpa using h)
def minI (l : List Int) : Int := l.tail.foldl min (l.headD 0)
theorem min_foldl : ∀ (l : List Int) (n : Int), (l.foldl min n = n ∨ l.foldl min n ∈ l) ∧ l.foldl min n ≤ n ∧ ∀ y ∈ l, l.foldl min n ≤ y
  | [], n => ⟨.inl rfl, Int.le_refl _, fun y hy => by cases hy⟩
  | x :: r, n => by
    obtain ⟨h1, h2, h3⟩ := min_foldl r (min n x)
    rw [List.foldl_cons]
    have le1 : min n x ≤ n := Int.min_le_left _ _
    have le2 : min n x ≤ x := Int.min_le_right _ _
    refine ⟨?_, Int.le_trans h2 le1, fun y hy => ?_⟩
    · rcases h1 with q | q
      · rw [q]
        rcases Int.le_total n x with g | g
        · exact .inl (Int.min_eq_left g)
        · exact .inr (by rw [Int.min_eq_right g]; exact List.mem_cons_self)
      · exact .inr (List.mem_cons_of_mem _ q)
    · rcases List.mem_cons.mp hy with q | q
      · rw [q]; exact Int.le_trans h2 le2
      · exact h3 y q
theorem minI_spec {l : List Int} (h : l ≠ []) : minI l ∈ l ∧ ∀ y ∈ l, minI l ≤ y := by
  cases l with
  | nil => exact absurd rfl h
  | cons x r =>
    obtain ⟨h1, h2, h3⟩ := min_foldl r x
    unfold minI
    refine ⟨?_, fun y hy => ?_⟩
    · rcases h1 with q | q
      · show r.foldl min x ∈ _; rw [q]; exact List.mem_cons_self
      · exact List.mem_cons_of_mem _ q
    · rcases List.mem_cons.mp hy with q | q
      · rw [q]; exact h2
      · exact h3 y q
theorem minI_uniq {l : List Int} {m : Int} (h1 : m ∈ l) (h2 : ∀ y ∈ l, m ≤ y) : minI l = m := by
  have hne : l ≠ [] := fun e => by rw [e] at h1; cases h1
  obtain ⟨a, b⟩ := minI_spec hne
  exact Int.le_antisymm (b m h1) (h2 _ a)
def ringM (ws : List Int) : List Int := (ws.drop (ws.idxOf (ws.getLastD 0))).take (ws.length - 1 - ws.idxOf (ws.getLastD 0))
def turnM (l : List Int) : List Int := l.drop (l.idxOf (minI l)) ++ l.take (l.idxOf (minI l))
def roundM (pan : List (List Int)) (hs : List Int) : List Int := turnM (ringM (walkF pan hs 20 [hs.headD 0]))
/-- each but the last is followed by what it releases, the last one by the first -/
structure Rnd (pan : List (List Int)) (l : List Int) : Prop where
  two : 2 ≤ l.length
  nd : l.Nodup
  link : ∀ (i : Nat) (x y : Int), l[i]? = some x → l[i + 1]? = some y → y ∈ pan.getD x.toNat []
  back : ∀ x y : Int, l[l.length - 1]? = some x → l[0]? = some y → y ∈ pan.getD x.toNat []
theorem ring_get {ws : List Int} {k : Nat} (h : k < ws.length - 1 - ws.idxOf (ws.getLastD 0)) : (ringM ws)[k]? = ws[ws.idxOf (ws.getLastD 0) + k]? := by
  unfold ringM
  rw [List.getElem?_take_of_lt h, List.getElem?_drop]
theorem drop_last_get {ws : List Int} {i : Nat} (h : i < ws.length - 1) : ws.dropLast[i]? = ws[i]? := by
  rw [List.dropLast_eq_take, List.getElem?_take_of_lt h]
theorem ring_rnd {pan : List (List Int)} {hs ws : List Int} (g : Good pan) (hr : ∀ x ∈ hs, 0 ≤ x ∧ x < (pan.length : Int)) (h : Wlk pan hs ws) (hl : ws.getLastD 0 ∈ ws.dropLast) : Rnd pan (ringM ws) ∧ ∀ x ∈ ringM ws, x ∈ hs := by
  have len0 : ws.dropLast.length = ws.length - 1 := List.length_dropLast
  obtain ⟨i0, hi0⟩ := List.getElem?_of_mem hl
  have li0 := (List.getElem?_eq_some_iff.mp hi0).1
  rw [drop_last_get (by omega)] at hi0
  have hmem : ws.getLastD 0 ∈ ws := List.mem_of_getElem? hi0
  have hj := idx_get hmem
  have jle : ws.idxOf (ws.getLastD 0) ≤ i0 := Nat.le_of_not_lt fun z => idx_no z hi0
  generalize hjj : ws.idxOf (ws.getLastD 0) = j at hj jle
  have rlen : (ringM ws).length = ws.length - 1 - j := by unfold ringM; rw [List.length_take, List.length_drop, hjj]; omega
  have rget : ∀ k, k < ws.length - 1 - j → (ringM ws)[k]? = ws[j + k]? := fun k hk => by
    have := ring_get (ws := ws) (k := k) (by rw [hjj]; exact hk)
    rw [hjj] at this; exact this
  have lst := last_get h.ne
  have hlast : ws.getLastD 0 ∈ hs := h.mem _ hmem
  have lr := hr _ hlast
  have two : 2 ≤ ws.length - 1 - j := by
    rcases Nat.lt_or_ge (ws.length - 1 - j) 2 with q | q
    · have e : j + 1 = ws.length - 1 := by omega
      have := h.link j _ _ hj (by rw [e]; exact lst)
      exact absurd this (g.own' lr.1 lr.2)
    · exact q
  refine ⟨⟨by omega, ?_, fun i x y hx hy => ?_, fun x y hx hy => ?_⟩, fun x hx => ?_⟩
  · have e : ringM ws = (ws.dropLast.drop j) := by
      unfold ringM
      rw [hjj, List.dropLast_eq_take, List.drop_take]
    rw [e]
    exact h.nd.sublist (List.drop_sublist _ _)
  · have l1 := (List.getElem?_eq_some_iff.mp hy).1
    rw [rget i (by omega)] at hx
    rw [rget (i + 1) (by omega)] at hy
    exact h.link (j + i) x y hx hy
  · rw [rlen, rget _ (by omega)] at hx
    rw [rget 0 (by omega), Nat.add_zero, hj] at hy
    rw [← Option.some.inj hy]
    refine h.link (j + (ws.length - 1 - j - 1)) x _ hx ?_
    rw [show j + (ws.length - 1 - j - 1) + 1 = ws.length - 1 by omega]; exact lst
  · unfold ringM at hx
    exact h.mem x (List.mem_of_mem_drop (List.mem_of_mem_take hx))
theorem turn_rnd {pan : List (List Int)} {l : List Int} (h : Rnd pan l) : Rnd pan (turnM l) ∧ (∀ x, x ∈ turnM l ↔ x ∈ l) ∧ (turnM l)[0]? = some (minI l) := by
  have hne : l ≠ [] := fun e => by have := h.two; rw [e] at this; simp at this
  have hm := (minI_spec hne).1
  have hg := idx_get hm
  have hlt := List.idxOf_lt_length_of_mem hm
  unfold turnM
  generalize l.idxOf (minI l) = m at hg hlt
  have two := h.two
  have get1 : ∀ k, k < l.length - m → (l.drop m ++ l.take m)[k]? = l[m + k]? := fun k hk => by
    rw [List.getElem?_append_left (by rw [List.length_drop]; exact hk), List.getElem?_drop]
  have get2 : ∀ k, l.length - m ≤ k → k < l.length → (l.drop m ++ l.take m)[k]? = l[k - (l.length - m)]? := fun k h1 h2 => by
    rw [List.getElem?_append_right (by rw [List.length_drop]; exact h1), List.length_drop, List.getElem?_take_of_lt (by omega)]
  have tl : (l.drop m ++ l.take m).length = l.length := by rw [List.length_append, List.length_drop, List.length_take]; omega
  refine ⟨⟨by omega, ?_, fun i x y hx hy => ?_, fun x y hx hy => ?_⟩, fun x => ?_, ?_⟩
  · have : (l.take m ++ l.drop m).Nodup := by rw [List.take_append_drop]; exact h.nd
    exact (List.perm_append_comm.nodup_iff).mp this
  · have ly := (List.getElem?_eq_some_iff.mp hy).1
    rw [tl] at ly
    rcases Nat.lt_trichotomy (i + 1) (l.length - m) with q | q | q
    · rw [get1 i (by omega)] at hx
      rw [get1 (i + 1) q] at hy
      exact h.link (m + i) x y hx hy
    · rw [get1 i (by omega), show m + i = l.length - 1 by omega] at hx
      rw [get2 (i + 1) (by omega) ly, show i + 1 - (l.length - m) = 0 by omega] at hy
      exact h.back x y hx hy
    · rw [get2 i (by omega) (by omega)] at hx
      rw [get2 (i + 1) (by omega) ly, show i + 1 - (l.length - m) = (i - (l.length - m)) + 1 by omega] at hy
      exact h.link _ x y hx hy
  · rw [tl] at hx
    rw [get1 0 (by omega), Nat.add_zero] at hy
    by_cases hm0 : m = 0
    · subst hm0
      rw [get1 _ (by omega), Nat.zero_add] at hx
      exact h.back x y hx hy
    · rw [get2 _ (by omega) (by omega), show l.length - 1 - (l.length - m) = m - 1 by omega] at hx
      refine h.link (m - 1) x y hx ?_
      rw [show m - 1 + 1 = m by omega]; exact hy
  · have := List.take_append_drop m l
    rw [List.mem_append]
    constructor
    · intro q; exact q.elim List.mem_of_mem_drop List.mem_of_mem_take
    · intro q
      rw [← this] at q
      exact (List.mem_append.mp q).symm
  · rw [get1 0 (by omega), Nat.add_zero]; exact hg
end Pr
namespace K20
open PySem PySem.Spec PyProof.Rows L2 Pr
def topS (i : Nat) : Stmt := PySem.Challenge.pw_pressrelease_k20_rounds_found.main.body.getD i (.Pass ⟨0, 0, 0, 0⟩)
abbrev sAny : Stmt := topS 1
abbrev sHeld : Stmt := topS 2
abbrev sWalk : Stmt := topS 3
abbrev sRound : Stmt := topS 4
abbrev sDeck : Stmt := topS 6
abbrev sDraw : Stmt := topS 7
abbrev sPanel : Stmt := topS 8
abbrev sState : Stmt := topS 9
abbrev sReach : Stmt := topS 10
abbrev sOwn : Stmt := topS 11
abbrev sLaw : Stmt := topS 12
theorem scDeck : FnScope ["_law_script", "_law_cell"] ["_law_script"] (defScope sDeck) := ⟨rfl, rfl, rfl, by decide +kernel, rfl, by decide +kernel, by decide +kernel⟩
theorem scDraw : FnScope ["_law_deck_here", "_law_many", "_law_cell", "_law_place"] ["_law_deck_here", "_law_many"] (defScope sDraw) := ⟨rfl, rfl, rfl, by decide +kernel, rfl, by decide +kernel, by decide +kernel⟩
theorem cut_ints (ns : List Int) (lo hi : Option Int) : ∃ ms : List Int, cutV (ns.map V.int) lo hi = ms.map V.int ∧ ms.length ≤ ns.length := by
  refine ⟨(ns.drop (HT.sIx ns.length 0 lo)).take (HT.sIx ns.length ns.length hi - HT.sIx ns.length 0 lo), ?_, ?_⟩
  · unfold cutV
    rw [List.length_map, List.map_take, List.map_drop]
  · rw [List.length_take, List.length_drop]; omega
section
variable {P : Program} {w : World} {K : PySem.W.Frag} {mg : Str → Option Value} {base : Heap}
def spDeck (K : PySem.W.Frag) : Sp := fun vs H Q _ => ∃ (s : Addr) (ns : List Int), vs = [.ref s] ∧ SqL K H s (ns.map V.int) ∧ ns.length ≤ 63 ∧
  ∀ H' a c, Same H H' → Deck H' a c 1000000 → Q (.ref a) H'
theorem ok_deck {f : Addr} {fd : FuncData} {k : Nat} (F : Fun K "_law_deck" "_law_deck" sDeck f fd) (ma : mg "abs" = none) : FnOk P w K mg base CX0 (k + 1) f fd ["_law_script"] (spDeck K) := by
  refine F.ok scDeck (fun vs H Q E h => ?_) (fun cdv A outer s H vs Q E hr h => ?_)
  · obtain ⟨s, ns, rfl, _⟩ := h
    rfl
  · obtain ⟨sa, ns, rfl, hS, hlen, q⟩ := h
    refine ⟨_, pss_one (ps_ret (pe_lst (pa_cons
      (pe_lc (own := [("_law_cell", 1)]) (g := gName 1) (tt := tYes) rfl scDeck.nd (pi_list (pe_slice sl_list (pv 0) po_none (po_some pe_int)))
        (blkOk_by (own := [("_law_cell", 1)]) (N := ["_law_script", "_law_cell"]) (sc := defScope sDeck) (by decide +kernel))
        (fun _ _ _ _ _ => pg_name (i := 1) scDeck.nd rfl (Or.inl rfl)) (fun _ _ _ _ _ => pts_nil)
        (fun _ _ _ _ _ => pe_callB call_abs (by rfl) ma (by decide +kernel) (pa_cons (pv 1) pa_nil)))
      (pa_cons pe_int pa_nil)))), ?_⟩
    refine ⟨.ref sa, rfl, 63, rfl, sa, ns.map V.int, rfl, hS, fun l nl => ?_⟩
    obtain ⟨ms, em, lm⟩ := cut_ints ns none (some 63)
    rw [em]
    have s1 : Same H (upd H l (.lst (ms.map V.int))) := same_new nl
    refine ⟨l, rfl, ⟨_, .inl (.inl upd_same)⟩, fun D nD => ?_⟩
    refine lc_list (xs := ms.map V.int) (fun i H3 => Same (upd H l (.lst (ms.map V.int))) H3 ∧ ∃ cells : List Int, cells.length = i ∧ H3 D = some (.lst (cells.map V.int)))
      ⟨same_new nD, [], rfl, upd_same⟩ (fun i H3 _ hP => hP.1.seq (.inl (.inl upd_same))) (fun i x H3 hx hP => ?_) (fun H3 hP => ?_)
    · obtain ⟨sm, cells, hc, eD⟩ := hP
      rw [List.getElem?_map] at hx
      obtain ⟨z, hz, rfl⟩ : ∃ z, ms[i]? = some z ∧ x = V.int z := by
        cases e : ms[i]? with
        | none => rw [e] at hx; cases hx
        | some z => rw [e] at hx; exact ⟨z, rfl, (Option.some.inj hx).symm⟩
      have hi : i < ms.length := (List.getElem?_eq_some_iff.mp hz).1
      refine ⟨rfl, tyes (iteT ⟨_, rfl, _, rfl, cells.map V.int, eD, ?_, ?_, cells ++ [if z < 0 then -z else z], ?_, ?_⟩)⟩
      · rw [List.length_map]; exact small1000 (by omega)
      · intro b o e
        rw [upd_ne (ne_of_none e nD)]
        exact sm _ _ e
      · rw [List.length_append, hc]; rfl
      · rw [upd_same, List.map_append]; rfl
    · obtain ⟨sm, cells, hc, eD⟩ := hP
      rw [List.length_map] at hc
      refine ⟨by show 2 ≤ sizeLine; decide, fun p np => ?_⟩
      have nDp : D ≠ p := ne_of_none eD np
      refine q _ p D ((s1.trans sm).trans (same_new np)) ⟨cells, 0, upd_same, ?_, Ne.symm nDp, by omega, by omega⟩
      rw [upd_ne nDp]; exact eD

def spDraw : Sp := fun vs H Q _ => ∃ (a c : Addr) (m : Nat) (lim : Int), vs = [.ref a, .int lim] ∧ Deck H a c (m + 1) ∧ 0 < lim ∧ lim < 1000000 ∧
  ∀ H' r, But a c H H' → Deck H' a c m → 0 ≤ r → r < lim → Q (.int r) H'
theorem ok_draw {f : Addr} {fd : FuncData} {k : Nat} (F : Fun K "_law_draw" "_law_draw" sDraw f fd) (ml : mg "len" = none) : FnOk P w K mg base CX0 (k + 1) f fd ["_law_deck_here", "_law_many"] spDraw := by
  refine F.ok scDraw (fun vs H Q E h => ?_) (fun cdv A outer s H vs Q E hr h => ?_)
  · obtain ⟨a, c, m, lim, rfl, _⟩ := h
    rfl
  · obtain ⟨a, c, m, lim, rfl, hD, l0, l1, q⟩ := h
    refine ⟨_, pss_cons (ps_asg (pe_op op_add (pe_ix ix_list (pv 0) pe_int (fun _ _ => rfl)) pe_int) (pg_sub (pv 0) pe_int set_list))
      (pss_cons (ps_set (i := 2) scDraw.nd rfl (.inl rfl) pe_int)
      (pss_cons (ps_set (i := 3) scDraw.nd rfl (.inl rfl) (pe_un un_neg pe_int))
      (pss_cons (ps_if (pt_cmpR op_gt (pe_callB call_len_seq (by rfl) ml PySem.boot_len (pa_cons (pe_ix ix_list (pv 0) pe_int (fun _ _ => rfl)) pa_nil)) pe_int (nomark _))
        (pss_cons (ps_set (i := 3) scDraw.nd rfl (.inl rfl) (pe_op op_mod (pe_ix ix_list (pv 0) pe_int (fun _ _ => rfl)) (pe_callB call_len_seq (by rfl) ml PySem.boot_len (pa_cons (pe_ix ix_list (pv 0) pe_int (fun _ _ => rfl)) pa_nil))))
          (pss_one (ps_set (i := 2) scDraw.nd rfl (.inl rfl) (pe_ix ix_list (pe_ix ix_list (pv 0) pe_int (fun _ _ => rfl)) (pv 3) (fun _ _ => rfl)))))
        pss_nil)
      (pss_cons (ps_if (pt_cmpR op_ge (pv 2) (pe_op op_pow pe_int pe_int) (nomark _))
        (pss_cons (ps_asg (pe_op op_fdiv (pv 2) (pv 1)) (pg_sub (pe_ix ix_list (pv 0) pe_int (fun _ _ => rfl)) (pv 3) set_list))
          (pss_one (ps_ret (pe_op op_mod (pv 2) (pv 1)))))
        pss_nil)
      (pss_one (ps_ret (pe_op op_mod (pe_op op_mod (pe_op op_pow (pe_op op_add (pe_op op_add (pe_op op_mod (pv 2) pe_int) (pe_op op_mul pe_int (pe_ix ix_list (pv 0) pe_int (fun _ _ => rfl)))) pe_int) pe_int) pe_int) (pv 1)))))))), ?_⟩
    obtain ⟨cells, n, ha, hc, nac, hlen, hn⟩ := hD
    refine ⟨.ref a, rfl, a, _, 1, .int n, rfl, rfl, .inl (.inl ha), atI_nat (j := 1) rfl, n, 1, rfl, rfl, .ref a, rfl, a, _, 1, 1, rfl, rfl, ha, rfl, ?_⟩
    refine gen_heap (fun H1 => H1 a = some (.lst [.ref c, .int ((n : Int) + 1)]) ∧ H1 c = some (.lst (cells.map V.int)) ∧ But a c H H1) ⟨upd_same, by rw [upd_ne (Ne.symm nac)]; exact hc, fun b o h1 _ e => by rw [upd_ne h1]; exact e⟩ fun H1 ⟨ha1, hc1, b1⟩ => ?_
    refine ⟨1, rfl, ?_⟩
    have ha2 := ha1
    have hc2 := hc1
    have b2 := b1
    have hcs : SqL K H1 c (cells.map V.int) := .inl (.inl hc2)
    have has : SqL K H1 a [.ref c, .int ((n : Int) + 1)] := .inl (.inl ha2)
    -- the end of the walk, from any cell
    have fin : ∀ (z ix : Int) (j : Nat), (10 ^ 18 ≤ z → ixN cells.length ix = some j) →
        tSeq (tIfS (tTest (tOp (rI0 fun i j => V.bl (decide (j ≤ i))) (tVar 2) (tOp (rI CPow fun i j => V.int (i ^ j.toNat)) (tC (V.int 10)) (tC (V.int 18)))))
          (tSeq (tAsg (tOp (rI CDiv fun i j => V.int (i / j)) (tVar 2) (tVar 1)) (gSub (tOp (rIxL K) (tVar 0) (tC (V.int 0))) (tVar 3) rSetL))
            (tRet (tOp (rI (fun x j => 0 < j) fun i j => V.int (i % j)) (tVar 2) (tVar 1)))) tNext)
        (tRet (tOp (rI (fun x j => 0 < j) fun i j => V.int (i % j)) (tOp (rI (fun x j => 0 < j) fun i j => V.int (i % j)) (tOp (rI CPow fun i j => V.int (i ^ j.toNat))
          (tOp (rI0 fun i j => V.int (i + j)) (tOp (rI0 fun i j => V.int (i + j)) (tOp (rI (fun x j => 0 < j) fun i j => V.int (i % j)) (tVar 2) (tC (V.int 2147483587)))
            (tOp (rI CMul fun i j => V.int (i * j)) (tC (V.int 7919)) (tOp (rIxL K) (tVar 0) (tC (V.int 1))))) (tC (V.int 1))) (tC (V.int 5))) (tC (V.int 2147483647))) (tVar 1)))
        { nx := fun _ H' => Q .non H', rt := Q } [some (.ref a), some (.int lim), some (.int z), some (.int ix)] H1 := by
      intro z ix j hj
      refine ⟨.int z, rfl, 10, 18, rfl, rfl, ⟨by decide, by decide, by decide⟩, z, _, rfl, rfl, _, rfl, ite2 (fun e => ?_) (fun e => ?_)⟩
      · have ez : (10 : Int) ^ 18 ≤ z := of_decide_eq_true e
        refine ⟨.int z, rfl, .int lim, rfl, z, lim, rfl, rfl, ⟨l0, by omega⟩, .ref a, rfl, a, _, 0, .ref c, rfl, rfl, has, rfl, .int ix, rfl, c, _, ix, j, rfl, rfl, hc2, by rw [List.length_map]; exact hj ez,
          .int z, rfl, .int lim, rfl, z, lim, rfl, rfl, l0, ?_⟩
        refine q _ _ (b2.trans fun b o _ h2 e => by rw [upd_ne h2]; exact e) ⟨cells.set j (z / lim), n + 1, ?_, ?_, nac, by rw [List.length_set]; exact hlen, by omega⟩ (Int.emod_nonneg _ (by omega)) (Int.emod_lt_of_pos _ l0)
        · rw [upd_ne nac, ha2]; rfl
        · rw [upd_same, List.map_set]
      · have m1 : 0 ≤ z % 2147483587 := Int.emod_nonneg _ (by decide)
        have m2 : z % 2147483587 < 2147483587 := Int.emod_lt_of_pos _ (by decide)
        refine ⟨.int z, rfl, z, 2147483587, rfl, rfl, (by show (0 : Int) < 2147483587; decide), .ref a, rfl, a, _, 1, .int ((n : Int) + 1), rfl, rfl, has, rfl, 7919, (n : Int) + 1, rfl, rfl, .inl ⟨by decide, by decide⟩, _, _, rfl, rfl, _, 1, rfl, rfl, _, 5, rfl, rfl, ⟨by decide, by decide, ?_⟩,
          _, 2147483647, rfl, rfl, (by show (0 : Int) < 2147483647; decide), .int lim, rfl, _, lim, rfl, rfl, l0, ?_⟩
        · omega
        · exact q _ _ b2 ⟨cells, n + 1, by rw [ha2]; rfl, hc2, nac, hlen, by omega⟩ (Int.emod_nonneg _ (by omega)) (Int.emod_lt_of_pos _ l0)
    refine ⟨.ref a, rfl, a, _, 0, .ref c, rfl, rfl, has, rfl, c, _, rfl, .inl hcs, _, 0, rfl, rfl, _, rfl, ite2 (fun e => ?_) (fun e => ?_)⟩
    · have ez : (0 : Int) < ((cells.map V.int).length : Int) := of_decide_eq_true e
      rw [List.length_map] at ez
      have l2 := Int.emod_nonneg ((n : Int) + 1) (show ((cells.length : Int)) ≠ 0 by omega)
      have l3 := Int.emod_lt_of_pos ((n : Int) + 1) ez
      obtain ⟨j, hj⟩ : ∃ j : Nat, ((n : Int) + 1) % (cells.length : Int) = (j : Int) := ⟨_, (Int.toNat_of_nonneg l2).symm⟩
      have hjl : j < cells.length := by omega
      have gj : (cells.map V.int)[j]? = some (.int cells[j]) := by rw [List.getElem?_map, List.getElem?_eq_getElem hjl]; rfl
      refine ⟨.ref a, rfl, a, _, 1, .int ((n : Int) + 1), rfl, rfl, has, rfl, .ref a, rfl, a, _, 0, .ref c, rfl, rfl, has, rfl, c, _, rfl, .inl hcs, _, _, rfl, rfl, by rw [List.length_map]; exact ez, ?_⟩
      refine ⟨.ref a, rfl, a, _, 0, .ref c, rfl, rfl, has, rfl, _, rfl, c, _, _, _, rfl, rfl, hcs, by rw [List.length_map, hj]; exact atI_nat gj, ?_⟩
      rw [List.length_map]
      refine fin _ (((n : Int) + 1) % (cells.length : Int)) j fun _ => ?_
      rw [hj]
      unfold ixN
      rw [if_pos (by omega), if_pos (by omega)]; rfl
    · refine fin 0 (-1) 0 fun h => ?_
      exact absurd h (by decide)
end
end K20
namespace K20
open PySem PySem.Spec PyProof.Rows L2 Pr
def nPanel : List Str := ["_law_deck_here", "_law_most", "_law_n", "_law_often", "_law_way", "_law_found", "_law_button", "_law_after", "_law_released", "_law_one"]
theorem scPanel : FnScope nPanel ["_law_deck_here", "_law_most"] (defScope sPanel) := ⟨rfl, rfl, rfl, by decide +kernel, rfl, by decide +kernel, by decide +kernel⟩
def nState : List Str := ["_law_deck_here", "_law_n", "_law_often", "_law_found", "_law_button"]
theorem scState : FnScope nState ["_law_deck_here", "_law_n"] (defScope sState) := ⟨rfl, rfl, rfl, by decide +kernel, rfl, by decide +kernel, by decide +kernel⟩
theorem pick4 {y : Int} (h0 : 0 ≤ y) (h1 : y < 4) : ∃ v : Int, atI [V.int 2, .int 3, .int 6, .int 12] y = some (.int v) ∧ 0 < v ∧ v < 1000000 := by
  obtain rfl | rfl | rfl | rfl : y = 0 ∨ y = 1 ∨ y = 2 ∨ y = 3 := by omega
  · exact ⟨2, rfl, by decide, by decide⟩
  · exact ⟨3, rfl, by decide, by decide⟩
  · exact ⟨6, rfl, by decide, by decide⟩
  · exact ⟨12, rfl, by decide, by decide⟩
theorem pick5 {y : Int} (h0 : 0 ≤ y) (h1 : y < 5) : ∃ v : Int, atI [V.int 2, .int 2, .int 1, .int 9, .int 4] y = some (.int v) ∧ 0 < v ∧ v < 1000000 := by
  obtain rfl | rfl | rfl | rfl | rfl : y = 0 ∨ y = 1 ∨ y = 2 ∨ y = 3 ∨ y = 4 := by omega
  · exact ⟨2, rfl, by decide, by decide⟩
  · exact ⟨2, rfl, by decide, by decide⟩
  · exact ⟨1, rfl, by decide, by decide⟩
  · exact ⟨9, rfl, by decide, by decide⟩
  · exact ⟨4, rfl, by decide, by decide⟩
theorem any4 {a b c d y : Int} (h0 : 0 ≤ y) (h1 : y < 4) : ∃ v : Int, atI [V.int a, .int b, .int c, .int d] y = some (.int v) := by
  obtain rfl | rfl | rfl | rfl : y = 0 ∨ y = 1 ∨ y = 2 ∨ y = 3 := by omega
  · exact ⟨a, rfl⟩
  · exact ⟨b, rfl⟩
  · exact ⟨c, rfl⟩
  · exact ⟨d, rfl⟩
theorem Deck.upd' {H : Hp} {a c b : Addr} {m : Nat} {o : HO} (d : Deck H a c m) (n : b ≠ a ∧ b ≠ c) : Deck (upd H b o) a c m := by
  obtain ⟨cs, k, e1, e2, e3⟩ := d
  exact ⟨cs, k, by rw [upd_ne (Ne.symm n.1)]; exact e1, by rw [upd_ne (Ne.symm n.2)]; exact e2, e3⟩
/-- ascending, up to k, without i -/
structure Lst (nn i k : Nat) (l : List Int) : Prop where
  len : l.length ≤ k
  up : l.Pairwise (· < ·)
  rng : ∀ x ∈ l, 0 ≤ x ∧ x < (k : Int)
  own : (i : Int) ∉ l
theorem Lst.nil (nn i : Nat) : Lst nn i 0 [] := ⟨Nat.le_refl _, List.Pairwise.nil, (fun x h => by cases h), by simp⟩
theorem Lst.skip {nn i k : Nat} {l : List Int} (h : Lst nn i k l) : Lst nn i (k + 1) l := ⟨Nat.le_succ_of_le h.len, h.up, fun x hx => by have := h.rng x hx; omega, h.own⟩
theorem Lst.snoc {nn i k : Nat} {l : List Int} (h : Lst nn i k l) (hne : (k : Int) ≠ (i : Int)) : Lst nn i (k + 1) (l ++ [(k : Int)]) := by
  refine ⟨by rw [List.length_append]; show l.length + 1 ≤ k + 1; have := h.len; omega, ?_, fun x hx => ?_, fun hx => ?_⟩
  · rw [List.pairwise_append]
    refine ⟨h.up, List.pairwise_singleton _ _, fun x hx z hz => ?_⟩
    have := h.rng x hx
    rw [List.mem_singleton.mp hz]; omega
  · rcases List.mem_append.mp hx with q | q
    · have := h.rng x q; omega
    · rw [List.mem_singleton.mp q]; omega
  · rcases List.mem_append.mp hx with q | q
    · exact h.own q
    · exact hne (List.mem_singleton.mp q).symm
section
variable {P : Program} {w : World} {K : PySem.W.Frag} {mg : Str → Option Value} {base : Heap}
def spPanel : Sp := fun vs H Q _ => ∃ (a c : Addr) (m : Nat) (most : Int), vs = [.ref a, .int most] ∧ Deck H a c (m + 200) ∧ 1 ≤ most ∧ most ≤ 10 ∧
  ∀ H' p pan, But a c H H' → Deck H' a c m → PanAt H' p pan → Good pan → (pan.length : Int) ≤ most → Q (.ref p) H'
theorem ok_panel {f fD : Addr} {fd fdD : FuncData} {k : Nat} (F : Fun K "_law_panel" "_law_panel" sPanel f fd) (FD : Fun K "_law_draw" "_law_draw" sDraw fD fdD) (bD : Binds K fdD ["_law_deck_here", "_law_many"] []) (gD : mg "_law_draw" = some (.ref fD))
    (ml : mg "len" = none) (mr : mg "range" = none) (mt : mg "tuple" = none) : FnOk P w K mg base CX0 (k + 2) f fd ["_law_deck_here", "_law_most"] spPanel := by
  have GD : FnOk P w K mg base CX0 (k + 1) fD fdD ["_law_deck_here", "_law_many"] spDraw := ok_draw FD ml
  refine F.ok scPanel (fun vs H Q E h => ?_) (fun cdv A outer s H vs Q E hr h => ?_)
  · obtain ⟨a, c, m, most, rfl, _⟩ := h
    rfl
  · obtain ⟨a, c, m, most, rfl, hD, m1, m2, q⟩ := h
    refine ⟨_, pss_cons (ps_asg (pe_tup (pa_cons (pe_op op_add pe_int (pe_call GD hr (by rfl) gD FD.kp bD .nil pass0 (pa_cons (pv 0) (pa_cons (pv 1) pa_nil))))
          (pa_cons (pe_ix ix_list (pe_lst (pa_cons pe_int (pa_cons pe_int (pa_cons pe_int (pa_cons pe_int pa_nil))))) (pe_call GD hr (by rfl) gD FD.kp bD .nil pass0 (pa_cons (pv 0) (pa_cons pe_int pa_nil))) (fun _ _ => rfl))
          (pa_cons (pe_call GD hr (by rfl) gD FD.kp bD .nil pass0 (pa_cons (pv 0) (pa_cons pe_int pa_nil))) pa_nil))))
        (pg_tup rfl (pgs_cons (pg_name (i := 2) scPanel.nd rfl (.inl rfl)) (pgs_cons (pg_name (i := 3) scPanel.nd rfl (.inr rfl)) (pgs_cons (pg_name (i := 4) scPanel.nd rfl (.inl rfl)) pgs_nil)))))
      (pss_cons (ps_set (i := 5) scPanel.nd rfl (.inl rfl) (pe_lst pa_nil))
      (pss_cons (ps_for PassesOwn.never rfl (pi_range1 (by rfl) mr (pa_cons (pv 2) pa_nil)) (pg_name (i := 6) scPanel.nd rfl (.inr rfl))
        (pss_cons (ps_set (i := 7) scPanel.nd rfl (.inr rfl) (pe_ix ix_list (pe_lst (pa_cons (pe_op op_mod (pe_op op_add (pv 6) pe_int) (pv 2)) (pa_cons (pe_op op_sub (pv 2) pe_int) (pa_cons (pv 6) (pa_cons (pv 6) pa_nil))))) (pv 4) (fun _ _ => rfl)))
        (pss_cons (ps_setLc (i := 8) (own := [("_law_one", 9)]) (g := gName 9) rfl scPanel.nd rfl rfl (sw_true rfl rfl rfl (by decide +kernel)) (pi_range1 (by rfl) mr (pa_cons (pv 2) pa_nil))
            (blkOk_by (own := [("_law_one", 9)]) (N := nPanel) (sc := defScope sPanel) (by decide +kernel)) (fun _ _ _ _ _ => pg_name (i := 9) scPanel.nd rfl (Or.inl rfl))
            (fun _ _ _ _ _ => pts_one (PW.pt (pw_and (pt_cmpR op_ne (pv 9) (pv 6) (nomark _)) (pw_and1 (PW.pt (pw_or (pt_cmpR op_eq (pe_call GD hr (by rfl) gD FD.kp bD .nil pass0 (pa_cons (pv 0) (pa_cons (pv 3) pa_nil))) pe_int (nomark _)) (pw_or1 (pt_cmpR op_eq (pv 9) (pv 7) (nomark _)))))))))
            (fun _ _ _ _ _ => pv 9))
        (pss_one (ps_expr (pe_bm PySem.F.plainAttrs_list PySem.F.slot_list_append PySem.F.type_list_append mt_append (pv 5) (pa_cons (pe_callTy call_tupF (by rfl) mt (by decide +kernel) (pa_cons (pv 8) pa_nil)) pa_nil)))))))
      (pss_one (ps_ret (pe_callTy call_tupF (by rfl) mt (by decide +kernel) (pa_cons (pv 5) pa_nil)))))), ?_⟩
    refine ⟨.ref a, rfl, .int most, rfl, a, c, m + 199, most, rfl, hD.less (by omega), by omega, by omega, fun H1 r1 b1 D1 r1a r1b => ?_⟩
    refine ⟨1, r1, rfl, rfl, by show 4 ≤ sizeLine; decide, fun L nL => ?_⟩
    have sL : Same H1 (upd H1 L (.lst [.int 2, .int 3, .int 6, .int 12])) := same_new nL
    refine ⟨.ref a, rfl, a, c, m + 198, 4, rfl, D1.same sL, by decide, by decide, fun H2 r2 b2 D2 r2a r2b => ?_⟩
    have hL : H2 L = some (.lst [.int 2, .int 3, .int 6, .int 12]) := b2 _ _ (D1.fresh nL).1 (D1.fresh nL).2 upd_same
    obtain ⟨v, hv, v0, v1⟩ := pick4 r2a r2b
    refine ⟨L, _, _, .int v, rfl, rfl, .inl (.inl hL), hv, .ref a, rfl, a, c, m + 197, 4, rfl, D2, by decide, by decide, fun H3 y b3 D3 y0 y4 => ?_⟩
    refine ⟨by show 3 ≤ sizeLine; decide, fun T nT => ⟨T, _, rfl, .inl (.inl upd_same), rfl, _, _, rfl, _, _, rfl, _, _, rfl, rfl, ?_⟩⟩
    obtain ⟨nn, hnn⟩ : ∃ nn : Nat, 1 + r1 = (nn : Int) := ⟨(1 + r1).toNat, (Int.toNat_of_nonneg (by omega)).symm⟩
    have nn1 : 1 ≤ nn := by omega
    have nn2 : (nn : Int) ≤ most := by omega
    have nn3 : nn ≤ 10 := by omega
    dsimp only
    rw [hnn]
    refine gen_heap (fun H4 => But a c H H4 ∧ Deck H4 a c (m + 197)) ⟨(((b1.trans (But.of sL)).trans b2).trans b3).trans (But.of (same_new nT)), D3.same (same_new nT)⟩ fun H4 ⟨b4, D4⟩ => ?_
    refine ⟨Nat.zero_le _, fun F nF => ?_⟩
    have FD' := D4.fresh nF
    have hnF : H F = none := by
      cases e : H F with
      | none => rfl
      | some o =>
        have := b4 F o FD'.1 FD'.2 e
        rw [nF] at this; cases this
    refine ⟨.int (nn : Int), rfl, (nn : Int), rfl, by omega, by omega, ?_⟩
    refine for_range (n := nn) (fun i σ H5 => But a c H H5 ∧ Deck H5 a c (m + 10 * (10 - i)) ∧ i ≤ nn ∧
        (∃ (qs : List Addr) (pan : List (List Int)), H5 F = some (.lst (qs.map V.ref)) ∧ Paired (fun q l => FT H5 q (l.map V.int)) qs pan ∧ pan.length = i ∧
          ∀ (j : Nat) (l : List Int), pan[j]? = some l → Lst nn j nn l) ∧
        ∃ x6 x7 x8 x9, σ = [some (.ref a), some (.int most), some (.int (nn : Int)), some (.int v), some (.int y), some (.ref F), x6, x7, x8, x9]) ?_ ?_ ?_
    · exact ⟨b4.trans (But.of (same_new nF)), (D4.same (same_new nF)).less (by omega), Nat.zero_le _, ⟨[], [], upd_same, .nil, rfl, fun j l h => by simp at h⟩, none, none, none, none, rfl⟩
    · intro i σ H5 hi hP
      obtain ⟨b5, D5, _, ⟨qs, pan, hF, hqs, hpl, hpan⟩, x6, x7, x8, x9, rfl⟩ := hP
      rw [Int.zero_add]
      have few : qs.length ≤ 100 := by rw [hqs.length, hpl]; omega
      obtain ⟨z, hz⟩ := any4 (a := ((i : Int) + 1) % (nn : Int)) (b := (nn : Int) - 1) (c := (i : Int)) (d := (i : Int)) y0 y4
      refine ⟨.int (i : Int), rfl, _, 1, rfl, rfl, .int (nn : Int), rfl, _, _, rfl, rfl, (by show (0 : Int) < (nn : Int); omega), .int (nn : Int), rfl, _, 1, rfl, rfl, .int (i : Int), rfl, .int (i : Int), rfl, by show 4 ≤ sizeLine; decide, fun A4 nA4 => ?_⟩
      have sA : Same H5 (upd H5 A4 (.lst [.int (((i : Int) + 1) % (nn : Int)), .int ((nn : Int) - 1), .int (i : Int), .int (i : Int)])) := same_new nA4
      refine ⟨.int y, rfl, A4, _, _, .int z, rfl, rfl, .inl (.inl upd_same), hz, ?_⟩
      refine gen_name (fun H6 => Same H5 H6) sA fun H6 s6 => ?_
      have D6 := D5.same s6
      refine ⟨.int (nn : Int), rfl, (nn : Int), rfl, by omega, by omega, fun O nO => ?_⟩
      have oO := D6.fresh nO
      refine lc_range (n := nn) (fun k H7 => But a c H6 H7 ∧ Deck H7 a c (m + 10 * (10 - i) - k) ∧ ∃ acc : List Int, H7 O = some (.lst (acc.map V.int)) ∧ Lst nn i k acc)
        ⟨But.of (same_new nO), (D6.same (same_new nO)).less (by omega), [], upd_same, Lst.nil nn i⟩ (fun k H7 hk hP => ?_) (fun H7 hP => ?_)
      · obtain ⟨b7, D7, acc, eO, al⟩ := hP
        have all := al.len
        rw [Int.zero_add]
        have add : ∀ H8, But a c H7 H8 → Deck H8 a c (m + 10 * (10 - i) - (k + 1)) → (k : Int) ≠ (i : Int) → ∃ acc', H8 O = some (.lst acc') ∧ acc'.length < sizeLine ∧ But a c H6 (upd H8 O (.lst (acc' ++ [.int (k : Int)]))) ∧ Deck (upd H8 O (.lst (acc' ++ [.int (k : Int)]))) a c (m + 10 * (10 - i) - (k + 1)) ∧
            ∃ acc'' : List Int, (upd H8 O (.lst (acc' ++ [.int (k : Int)]))) O = some (.lst (acc''.map V.int)) ∧ Lst nn i (k + 1) acc'' := by
          intro H8 b8 D8 hne
          refine ⟨acc.map V.int, b8 _ _ oO.1 oO.2 eO, by rw [List.length_map]; exact small1000 (by omega), fun b o h1 h2 e => ?_, Deck.upd' D8 oO, acc ++ [(k : Int)], by rw [upd_same, List.map_append]; rfl, al.snoc hne⟩
          rw [upd_ne (ne_of_none e nO)]
          exact b8 _ _ h1 h2 (b7 _ _ h1 h2 e)
        refine ⟨rfl, .int (k : Int), rfl, .int (i : Int), rfl, rfl, _, rfl, ite2 (fun e => ?_) (fun e => ?_)⟩
        · have hne : (k : Int) ≠ (i : Int) := fun z => by rw [z] at e; simp at e
          refine ⟨.ref a, rfl, .int v, rfl, a, c, m + 10 * (10 - i) - (k + 1), v, rfl, D7.less (by omega), v0, v1, fun H8 r b8 D8 r0 r1 => ⟨rfl, _, rfl, ite2 (fun e2 => ?_) (fun e2 => ?_)⟩⟩
          · exact iteT ⟨.int (k : Int), rfl, add H8 b8 D8 hne⟩
          · refine ⟨.int (k : Int), rfl, .int z, rfl, rfl, _, rfl, ite2 (fun e3 => ?_) (fun e3 => ?_)⟩
            · exact ⟨.int (k : Int), rfl, add H8 b8 D8 hne⟩
            · exact ⟨b7.trans b8, D8, acc, b8 _ _ oO.1 oO.2 eO, al.skip⟩
        · exact iteF ⟨b7, D7.less (by omega), acc, eO, al.skip⟩
      · obtain ⟨b7, D7, kp, eO, al⟩ := hP
        have all := al.len
        have b57 : But a c H5 H7 := (But.of s6).trans b7
        have eF7 := b57 _ _ FD'.1 FD'.2 hF
        have ft7 : Paired (fun q l => FT H7 q (l.map V.int)) qs pan := hqs.mono fun q l h => h.but D5 b57
        refine ⟨.ref F, rfl, .inl ⟨rfl, _, .inl (.inl eF7)⟩, .ref O, rfl, O, _, rfl, .inl (.inl eO), fun p o np ho => ?_⟩
        have sp : Same H7 (upd H7 p (.frz o (.tup (kp.map V.int)))) := same_new np
        have pF : p ≠ F := Ne.symm (ne_of_none eF7 np)
        refine ⟨F, _, .ref p, rfl, rfl, sp _ _ eF7, by rw [List.length_map]; exact small1000 (by omega), ?_⟩
        have keep : ∀ b o', b ≠ F → H7 b = some o' → (upd (upd H7 p (.frz o (.tup (kp.map V.int)))) F (.lst (qs.map V.ref ++ [.ref p]))) b = some o' := fun b o' hb e => by
          rw [upd_ne hb]; exact sp _ _ e
        refine ⟨fun b o' h1 h2 e => keep b o' (ne_of_none e hnF) (b57 b o' h1 h2 (b5 b o' h1 h2 e)), (Deck.upd' (D7.same sp) FD').less (by omega), hi, ⟨qs ++ [p], pan ++ [kp], by rw [upd_same, List.map_append]; rfl, ?_, by rw [List.length_append, hpl]; rfl, fun j l' hj => ?_⟩, _, _, _, _, rfl⟩
        · refine Paired.snoc (ft7.mono fun q l ⟨oq, e, z⟩ => ⟨oq, keep q _ (ne_of e eF7 (by intro z; cases z)) e, z⟩) ⟨o, ?_, ho⟩
          rw [upd_ne pF, upd_same]
        · by_cases hji : j < i
          · rw [List.getElem?_append_left (by omega)] at hj
            exact hpan j l' hj
          · rw [List.getElem?_append_right (by omega), hpl] at hj
            obtain rfl : j = i := by
              have := (List.getElem?_eq_some_iff.mp hj).1
              rw [List.length_singleton] at this; omega
            rw [Nat.sub_self] at hj
            obtain rfl : kp = l' := by simpa using hj
            exact al
    · intro σ H5 hP
      obtain ⟨b5, D5, _, ⟨qs, pan, hF, hqs, hpl, hpan⟩, x6, x7, x8, x9, rfl⟩ := hP
      refine ⟨.ref F, rfl, F, _, rfl, .inl (.inl hF), fun l o nl ho => ?_⟩
      have sl : Same H5 (upd H5 l (.frz o (.tup (qs.map V.ref)))) := same_new nl
      refine q _ l pan (b5.trans (But.of sl)) ((D5.same sl).less (by omega)) ⟨qs, ⟨o, upd_same, ho⟩, hqs.mono fun _ _ z => z.same sl⟩ ?_ (by omega)
      have hnn : (pan.length : Int) = (nn : Int) := by omega
      refine ⟨by omega, by omega, fun l hl => ?_, fun l hl => ?_, fun j l hl h => ?_⟩
      · obtain ⟨j, hj⟩ := List.getElem?_of_mem hl
        exact (hpan j l hj).up
      · obtain ⟨j, hj⟩ := List.getElem?_of_mem hl
        intro x hx
        have := (hpan j l hj).rng x hx
        exact ⟨this.1, by omega⟩
      · exact (hpan j l hl).own h

def spState : Sp := fun vs H Q _ => ∃ (a c : Addr) (m n : Nat), vs = [.ref a, .int (n : Int)] ∧ Deck H a c (m + 20) ∧ n ≤ 10 ∧
  ∀ (H' : Hp) (t : Addr) (st : List Int), But a c H H' → Deck H' a c m → FT H' t (st.map V.int) → Asc n st → Q (.ref t) H'
theorem ok_state {f fD : Addr} {fd fdD : FuncData} {k : Nat} (F : Fun K "_law_state" "_law_state" sState f fd) (FD : Fun K "_law_draw" "_law_draw" sDraw fD fdD) (bD : Binds K fdD ["_law_deck_here", "_law_many"] []) (gD : mg "_law_draw" = some (.ref fD))
    (ml : mg "len" = none) (mr : mg "range" = none) (mt : mg "tuple" = none) : FnOk P w K mg base CX0 (k + 2) f fd ["_law_deck_here", "_law_n"] spState := by
  have GD : FnOk P w K mg base CX0 (k + 1) fD fdD ["_law_deck_here", "_law_many"] spDraw := ok_draw FD ml
  refine F.ok scState (fun vs H Q E h => ?_) (fun cdv A outer s H vs Q E hr h => ?_)
  · obtain ⟨a, c, m, n, rfl, _⟩ := h
    rfl
  · obtain ⟨a, c, m, n, rfl, hD, n10, q⟩ := h
    refine ⟨_, pss_cons (ps_set (i := 2) scState.nd rfl (.inr rfl) (pe_ix ix_list (pe_lst (pa_cons pe_int (pa_cons pe_int (pa_cons pe_int (pa_cons pe_int (pa_cons pe_int pa_nil)))))) (pe_call GD hr (by rfl) gD FD.kp bD .nil pass0 (pa_cons (pv 0) (pa_cons pe_int pa_nil))) (fun _ _ => rfl)))
      (pss_cons (ps_set (i := 3) scState.nd rfl (.inr rfl) (pe_lc (own := [("_law_button", 4)]) (g := gName 4) rfl scState.nd (pi_range1 (by rfl) mr (pa_cons (pv 1) pa_nil))
          (blkOk_by (own := [("_law_button", 4)]) (N := nState) (sc := defScope sState) (by decide +kernel)) (fun _ _ _ _ _ => pg_name (i := 4) scState.nd rfl (Or.inl rfl))
          (fun _ _ _ _ _ => pts_one (pt_cmpR op_eq (pe_call GD hr (by rfl) gD FD.kp bD .nil pass0 (pa_cons (pv 0) (pa_cons (pv 2) pa_nil))) pe_int (nomark _)))
          (fun _ _ _ _ _ => pv 4)))
      (pss_one (ps_ret (pe_callTy call_tupF (by rfl) mt (by decide +kernel) (pa_cons (pe_ifExp (pt_cmpR op_lt (pv 2) pe_int (nomark _)) (pv 3)
        (pe_lc (own := [("_law_button", 4)]) (g := gName 4) rfl scState.nd (pi_range1 (by rfl) mr (pa_cons (pv 1) pa_nil))
          (blkOk_by (own := [("_law_button", 4)]) (N := nState) (sc := defScope sState) (by decide +kernel)) (fun _ _ _ _ _ => pg_name (i := 4) scState.nd rfl (Or.inl rfl))
          (fun _ _ _ _ _ => pts_one (pt_cmpR (show OpR _ _ (rIn K true) from op_notIn_seq) (pv 4) (pv 3) (by rfl)))
          (fun _ _ _ _ _ => pv 4))) pa_nil))))), ?_⟩
    refine ⟨by show 5 ≤ sizeLine; decide, fun L nL => ?_⟩
    have sL : Same H (upd H L (.lst [.int 2, .int 2, .int 1, .int 9, .int 4])) := same_new nL
    refine ⟨.ref a, rfl, a, c, m + 19, 5, rfl, (hD.same sL).less (by omega), by decide, by decide, fun H1 y b1 D1 y0 y5 => ?_⟩
    have hL : H1 L = some (.lst [.int 2, .int 2, .int 1, .int 9, .int 4]) := b1 _ _ (hD.fresh nL).1 (hD.fresh nL).2 upd_same
    obtain ⟨v, hv, v0, v1⟩ := pick5 y0 y5
    refine ⟨L, _, _, .int v, rfl, rfl, .inl (.inl hL), hv, ?_⟩
    have bL := (But.of (a := a) (c := c) sL).trans b1
    refine ⟨.int (n : Int), rfl, (n : Int), rfl, by omega, by omega, fun D nD => ?_⟩
    have oD := D1.fresh nD
    refine lc_range (n := n) (fun i H2 => But a c H1 H2 ∧ Deck H2 a c (m + 19 - i) ∧ ∃ acc : List Int, H2 D = some (.lst (acc.map V.int)) ∧ Lst n (n + 1) i acc)
      ⟨But.of (same_new nD), (D1.same (same_new nD)).less (by omega), [], upd_same, Lst.nil _ _⟩ (fun i H2 hi hP => ?_) (fun H2 hP => ?_)
    · obtain ⟨b2, D2, acc, eD, al⟩ := hP
      have all := al.len
      rw [Int.zero_add]
      refine ⟨rfl, .ref a, rfl, .int v, rfl, a, c, m + 19 - (i + 1), v, rfl, D2.less (by omega), v0, v1, fun H3 r b3 D3 r0 r1 => ⟨rfl, _, rfl, ite2 (fun e => ?_) (fun e => ?_)⟩⟩
      · refine ⟨.int (i : Int), rfl, acc.map V.int, b3 _ _ oD.1 oD.2 eD, by rw [List.length_map]; exact small1000 (by omega), fun b o h1 h2 e => ?_, Deck.upd' D3 oD, acc ++ [(i : Int)], by rw [upd_same, List.map_append]; rfl, al.snoc (by omega)⟩
        rw [upd_ne (ne_of_none e nD)]
        exact b3 _ _ h1 h2 (b2 _ _ h1 h2 e)
      · exact ⟨b2.trans b3, D3, acc, b3 _ _ oD.1 oD.2 eD, al.skip⟩
    · obtain ⟨b2, D2, acc, eD, al⟩ := hP
      have all := al.len
      have fin : ∀ (H3 : Hp) (D' : Addr) (l : List Int), Same H2 H3 → H3 D' = some (.lst (l.map V.int)) → Lst n (n + 1) n l → rTupF K [.ref D'] H3 Q := by
        intro H3 D' l s3 e3 hl
        refine ⟨D', _, rfl, .inl (.inl e3), fun t o nt ho => ?_⟩
        exact q _ t l (((bL.trans b2).trans (But.of s3)).trans (But.of (same_new nt))) (((D2.same s3).same (same_new nt)).less (by omega)) ⟨o, upd_same, ho⟩ ⟨hl.up, hl.rng⟩
      refine ⟨.int v, rfl, v, 4, rfl, rfl, _, rfl, ite2 (fun e => ?_) (fun e => ?_)⟩
      · exact ⟨.ref D, rfl, fin H2 D acc (Same.refl _) eD al⟩
      · refine ⟨.int (n : Int), rfl, (n : Int), rfl, by omega, by omega, fun D' nD' => ?_⟩
        refine lc_range (n := n) (fun i H3 => Same H2 H3 ∧ ∃ acc : List Int, H3 D' = some (.lst (acc.map V.int)) ∧ Lst n (n + 1) i acc)
          ⟨same_new nD', [], upd_same, Lst.nil _ _⟩ (fun i H3 hi hP => ?_) (fun H3 hP => ?_)
        · obtain ⟨s3, acc3, eD3, al3⟩ := hP
          have all3 := al3.len
          rw [Int.zero_add]
          refine ⟨rfl, .int (i : Int), rfl, .ref D, rfl, D, _, rfl, .inl (.inl (.inl (s3 _ _ eD))), rfl, flat_ints _, _, rfl, ite2 (fun e2 => ?_) (fun e2 => ?_)⟩
          · refine ⟨.int (i : Int), rfl, acc3.map V.int, eD3, by rw [List.length_map]; exact small1000 (by omega), fun b o e => ?_, acc3 ++ [(i : Int)], by rw [upd_same, List.map_append]; rfl, al3.snoc (by omega)⟩
            rw [upd_ne (ne_of_none e nD')]
            exact s3 _ _ e
          · exact ⟨s3, acc3, eD3, al3.skip⟩
        · obtain ⟨s3, acc3, eD3, al3⟩ := hP
          exact fin H3 D' acc3 s3 eD3 al3
end
end K20
namespace K20
open PySem PySem.Spec PyProof.Rows L2 Pr
def nAny : List Str := ["panel", "button", "others", "other"]
theorem scAny : FnScope nAny ["panel", "button", "others"] (defScope sAny) := ⟨rfl, rfl, rfl, by decide +kernel, rfl, by decide +kernel, by decide +kernel⟩
def nHeld : List Str := ["panel", "state", "held", "left", "button"]
theorem scHeld : FnScope nHeld ["panel", "state"] (defScope sHeld) := ⟨rfl, rfl, rfl, by decide +kernel, rfl, by decide +kernel, by decide +kernel⟩
section
variable {P : Program} {w : World} {K : PySem.W.Frag} {mg : Str → Option Value} {base : Heap}
def spAny (K : PySem.W.Frag) : Sp := fun vs H Q _ => ∃ (p o : Addr) (pan : List (List Int)) (b : Int) (os : List Int), vs = [.ref p, .int b, .ref o] ∧ PanT K H p pan ∧ Good pan ∧ 0 ≤ b ∧ b < (pan.length : Int) ∧ SqT K H o (os.map V.int) ∧
  ∀ H', Same H H' → Q (.bl (relB pan os b)) H'
theorem ok_any {f : Addr} {fd : FuncData} {k : Nat} (F : Fun K "releases_any" "releases_any" sAny f fd) (my : mg "any" = none) : FnOk P w K mg base CX0 (k + 1) f fd ["panel", "button", "others"] (spAny K) := by
  refine F.ok scAny (fun vs H Q E h => ?_) (fun cdv A outer s H vs Q E hr h => ?_)
  · obtain ⟨p, o, pan, b, os, rfl, _⟩ := h
    rfl
  · obtain ⟨p, o, pan, b, os, rfl, hp, hg, b0, b1, ho, q⟩ := h
    refine ⟨_, pss_one (ps_ret (pe_callB (cr_any rfl) (by rfl) my (by decide +kernel) (pa_cons
      (pe_lc (own := [("other", 3)]) (g := gName 3) (tt := tYes) rfl scAny.nd (pi_tup (pe_ix ix_tup (pv 0) (pv 1) (fun _ _ => rfl)))
        (blkOk_by (own := [("other", 3)]) (N := nAny) (sc := defScope sAny) (by decide +kernel)) (fun _ _ _ _ _ => pg_name (i := 3) scAny.nd rfl (Or.inl rfl)) (fun _ _ _ _ _ => pts_nil)
        (fun _ _ _ _ _ => pe_cmpR (show OpR _ _ (rIn K false) from op_in_seq) (pv 3) (pv 2) (by rfl))) pa_nil))), ?_⟩
    obtain ⟨qs, q', hq, ha, hr', _⟩ := panT_at hp b0 b1
    have hll : (pan.getD b.toNat []).length ≤ 10 := by
      have hbn : b.toNat < pan.length := by omega
      have hm : pan.getD b.toNat [] ∈ pan := by
        rw [List.getD_eq_getElem?_getD, List.getElem?_eq_getElem hbn]
        exact List.getElem_mem hbn
      have few := hg.few
      refine pw_length (n := 10) (lo := 0) (hg.up _ hm) fun x hx => ?_
      have := hg.rng _ hm x hx
      omega
    unfold relB at q
    generalize pan.getD b.toNat [] = l at hr' hll q
    refine ⟨.ref p, rfl, .int b, rfl, p, _, _, .ref q', rfl, rfl, hq, ha, q', rfl, ⟨_, hr'⟩, fun D nD => ?_⟩
    refine lc_tup (xs := l.map V.int) (fun i H3 => Same H H3 ∧ H3 D = some (.lst (((l.take i).map fun c => decide (c ∈ os)).map V.bl))) ⟨same_new nD, upd_same⟩ (fun i H3 _ hP => same_sqT hP.1 hr') (fun i x H3 hx hP => ?_) (fun H3 hP => ?_)
    · obtain ⟨s3, eD⟩ := hP
      obtain ⟨z, hz, rfl⟩ := int_get hx
      refine ⟨rfl, tyes (iteT ⟨.int z, rfl, .ref o, rfl, o, _, rfl, .inr (same_sqT s3 ho), rfl, flat_ints _, _, eD, ?_, ?_, ?_⟩)⟩
      · rw [List.length_map, List.length_map, List.length_take]; exact small1000 (by omega)
      · intro b' ob e
        rw [upd_ne (ne_of_none e nD)]
        exact s3 _ _ e
      · rw [upd_same, if_neg Bool.false_ne_true, inV_ints, List.take_add_one, hz, List.map_append, List.map_append]; rfl
    · obtain ⟨s3, eD⟩ := hP
      rw [List.length_map, List.take_length] at eD
      refine ⟨D, _, rfl, .inl (.inl eD), ?_⟩
      rw [List.any_map]
      exact q _ s3

def spHeld (K : PySem.W.Frag) : Sp := fun vs H Q _ => ∃ (p t : Addr) (pan : List (List Int)) (st : List Int), vs = [.ref p, .ref t] ∧ PanT K H p pan ∧ Good pan ∧ SqT K H t (st.map V.int) ∧ Asc pan.length st ∧
  ∀ (H' : Hp) (u : Addr) (hs : List Int), Same H H' → SqT K H' u (hs.map V.int) → IsHeld pan st hs → Q (.ref u) H'
theorem filt_take {f : Int → Bool} {l : List Int} {i : Nat} {z : Int} (hz : l[i]? = some z) : (l.take (i + 1)).filter f = (l.take i).filter f ++ (if f z = true then [z] else []) := by
  rw [List.take_add_one, hz, List.filter_append]
  congr 1
  by_cases e : f z = true
  · rw [if_pos e]; exact List.filter_cons_of_pos e
  · rw [if_neg e]; exact List.filter_cons_of_neg e
theorem ok_held {f fA : Addr} {fd fdA : FuncData} {k : Nat} (F : Fun K "held_buttons" "held_buttons" sHeld f fd) (FA : Fun K "releases_any" "releases_any" sAny fA fdA) (bA : Binds K fdA ["panel", "button", "others"] []) (gA : mg "releases_any" = some (.ref fA))
    (ml : mg "len" = none) (mt : mg "tuple" = none) (my : mg "any" = none) : FnOk P w K mg base CX0 (k + 2) f fd ["panel", "state"] (spHeld K) := by
  have GA : FnOk P w K mg base CX0 (k + 1) fA fdA ["panel", "button", "others"] (spAny K) := ok_any FA my
  refine F.ok scHeld (fun vs H Q E h => ?_) (fun cdv A outer s H vs Q E hr h => ?_)
  · obtain ⟨p, t, pan, st, rfl, _⟩ := h
    rfl
  · obtain ⟨p, t, pan, st, rfl, hp, hg, ht, hst, q⟩ := h
    refine ⟨_, pss_cons (ps_set (i := 2) scHeld.nd rfl (.inr rfl) (pv 1))
      (pss_cons (ps_setLc (i := 3) (own := [("button", 4)]) (g := gName 4) rfl scHeld.nd rfl rfl (sw_true rfl rfl rfl (by decide +kernel)) (pi_tup (pv 2))
        (blkOk_by (own := [("button", 4)]) (N := nHeld) (sc := defScope sHeld) (by decide +kernel)) (fun _ _ _ _ _ => pg_name (i := 4) scHeld.nd rfl (Or.inl rfl))
        (fun _ _ _ _ _ => pts_one (pt_val (pe_call GA hr (by rfl) gA FA.kp bA .nil pass0 (pa_cons (pv 0) (pa_cons (pv 4) (pa_cons (pv 2) pa_nil)))))) (fun _ _ _ _ _ => pv 4))
      (pss_cons (ps_while PassesOwn.never (pt_cmpR op_lt (pe_callB call_len_seq (by rfl) ml PySem.boot_len (pa_cons (pv 3) pa_nil)) (pe_callB call_len_seq (by rfl) ml PySem.boot_len (pa_cons (pv 2) pa_nil)) (nomark _))
        (pss_cons (ps_set (i := 2) scHeld.nd rfl (.inr rfl) (pe_callTy call_tupF (by rfl) mt (by decide +kernel) (pa_cons (pv 3) pa_nil)))
        (pss_one (ps_setLc (i := 3) (own := [("button", 4)]) (g := gName 4) rfl scHeld.nd rfl rfl (sw_true rfl rfl rfl (by decide +kernel)) (pi_tup (pv 2))
          (blkOk_by (own := [("button", 4)]) (N := nHeld) (sc := defScope sHeld) (by decide +kernel)) (fun _ _ _ _ _ => pg_name (i := 4) scHeld.nd rfl (Or.inl rfl))
          (fun _ _ _ _ _ => pts_one (pt_val (pe_call GA hr (by rfl) gA FA.kp bA .nil pass0 (pa_cons (pv 0) (pa_cons (pv 4) (pa_cons (pv 2) pa_nil)))))) (fun _ _ _ _ _ => pv 4)))))
      (pss_one (ps_ret (pv 2))))), ?_⟩
    have few := hg.few
    refine ⟨.ref t, rfl, ?_⟩
    refine ⟨.ref t, rfl, t, rfl, ⟨_, ht⟩, fun D nD => ?_⟩
    have slen := hst.len
    refine lc_tup (xs := st.map V.int) (fun i H3 => Same H H3 ∧ H3 D = some (.lst (((st.take i).filter (relB pan st)).map V.int))) ⟨same_new nD, upd_same⟩ (fun i H3 _ hP => same_sqT hP.1 ht) (fun i x H3 hx hP => ?_) (fun H3 hP => ?_)
    · obtain ⟨s3, eD⟩ := hP
      obtain ⟨z, hz, rfl⟩ := int_get hx
      have hzr := hst.rng z (List.mem_of_getElem? hz)
      have step := filt_take (f := relB pan st) hz
      have fl := List.length_filter_le (relB pan st) (st.take i)
      rw [List.length_take] at fl
      refine ⟨rfl, .ref p, rfl, .int z, rfl, .ref t, rfl, p, t, pan, z, st, rfl, hp.same s3, hg, hzr.1, hzr.2, same_sqT s3 ht, fun H4 s4 => ⟨_, rfl, ite2 (fun e => ?_) (fun e => ?_)⟩⟩
      · refine ⟨.int z, rfl, _, s4 _ _ eD, by rw [List.length_map]; exact small1000 (by omega), fun b o e' => ?_, ?_⟩
        · rw [upd_ne (ne_of_none e' nD)]
          exact s4 _ _ (s3 _ _ e')
        · rw [upd_same, step, if_pos e, List.map_append]; rfl
      · refine ⟨s3.trans s4, ?_⟩
        rw [step, if_neg e, List.append_nil]; exact s4 _ _ eD
    · obtain ⟨s3, eD⟩ := hP
      rw [List.length_map, List.take_length] at eD
      refine ⟨fun mm σ H4 => ∃ (hs : List Int) (u L : Addr) (x4 : Option V), mm = hs.length ∧ Same H H4 ∧ SqT K H4 u (hs.map V.int) ∧ H4 L = some (.lst ((hs.filter (relB pan hs)).map V.int)) ∧ Hold pan st hs ∧ σ = [some (.ref p), some (.ref t), some (.ref u), some (.ref L), x4],
        ⟨_, st, t, D, _, rfl, s3, same_sqT s3 ht, eD, ⟨hst.up, fun x h => h, fun C _ h x hx => h x hx⟩, rfl⟩, ?_⟩
      rintro mm σ H4 ⟨hs, u, L, x4, rfl, s4, hu, eL, hh, rfl⟩
      have hsr : ∀ x ∈ hs, 0 ≤ x ∧ x < (pan.length : Int) := fun x hx => hst.rng x (hh.sub x hx)
      have hsl : hs.length ≤ 10 := pw_length (n := 10) (lo := 0) hh.up fun x hx => by have := hsr x hx; omega
      refine ⟨.ref L, rfl, L, _, rfl, .inl (.inl (.inl eL)), .ref u, rfl, u, _, rfl, .inr hu, _, _, rfl, rfl, _, rfl, ite2 (fun e => ?_) (fun e => ?_)⟩
      · have e' : (hs.filter (relB pan hs)).length < hs.length := by
          have := of_decide_eq_true e
          rw [List.length_map, List.length_map] at this; omega
        have hstep := hh.step
        generalize hs.filter (relB pan hs) = gs at e' eL hstep
        refine ⟨_, fun σ' H' h => h, .ref L, rfl, L, _, rfl, .inl (.inl eL), fun u' o' nu' ho' => ?_⟩
        have su : Same H4 (upd H4 u' (.frz o' (.tup (gs.map V.int)))) := same_new nu'
        have hu' : SqT K (upd H4 u' (.frz o' (.tup (gs.map V.int)))) u' (gs.map V.int) := .inl (.inr ⟨o', upd_same⟩)
        refine gen_name (fun H5 => Same H4 H5 ∧ SqT K H5 u' (gs.map V.int)) ⟨su, hu'⟩ fun H5 ⟨s5, hu5⟩ => ?_
        have s05 := s4.trans s5
        refine ⟨.ref u', rfl, u', rfl, ⟨_, hu5⟩, fun D2 nD2 => ?_⟩
        refine lc_tup (xs := gs.map V.int) (fun i H6 => Same H5 H6 ∧ H6 D2 = some (.lst (((gs.take i).filter (relB pan gs)).map V.int))) ⟨same_new nD2, upd_same⟩ (fun i H6 _ hP => same_sqT hP.1 hu5) (fun i x H6 hx hP => ?_) (fun H6 hP => ?_)
        · obtain ⟨s6, eD2⟩ := hP
          obtain ⟨z, hz, rfl⟩ := int_get hx
          have hzr := hst.rng z (hstep.sub z (List.mem_of_getElem? hz))
          have step := filt_take (f := relB pan gs) hz
          have fl := List.length_filter_le (relB pan gs) (gs.take i)
          rw [List.length_take] at fl
          refine ⟨rfl, .ref p, rfl, .int z, rfl, .ref u', rfl, p, u', pan, z, gs, rfl, hp.same (s05.trans s6), hg, hzr.1, hzr.2, same_sqT s6 hu5, fun H7 s7 => ⟨_, rfl, ite2 (fun e => ?_) (fun e => ?_)⟩⟩
          · refine ⟨.int z, rfl, _, s7 _ _ eD2, by rw [List.length_map]; exact small1000 (by omega), fun b o e' => ?_, ?_⟩
            · rw [upd_ne (ne_of_none e' nD2)]
              exact s7 _ _ (s6 _ _ e')
            · rw [upd_same, step, if_pos e, List.map_append]; rfl
          · refine ⟨s6.trans s7, ?_⟩
            rw [step, if_neg e, List.append_nil]; exact s7 _ _ eD2
        · obtain ⟨s6, eD2⟩ := hP
          rw [List.length_map, List.take_length] at eD2
          exact ⟨gs.length, e', gs, u', D2, _, rfl, s05.trans s6, same_sqT s6 hu5, eD2, hstep, rfl⟩
      · have e' : ¬ (hs.filter (relB pan hs)).length < hs.length := fun z => e (decide_eq_true (by rw [List.length_map, List.length_map]; omega))
        exact ⟨.ref u, rfl, q H4 u hs s4 hu (hh.done e')⟩
end
end K20
namespace K20
open PySem PySem.Spec PyProof.Rows L2 Pr
def nReach : List Str := ["_law_panel_here", "_law_state_here", "_law_found", "_law_button", "_law_turn", "_law_later", "_law_row", "_law_more", "_law_one"]
theorem scReach : FnScope nReach ["_law_panel_here", "_law_state_here"] (defScope sReach) := ⟨rfl, rfl, rfl, by decide +kernel, rfl, by decide +kernel, by decide +kernel⟩
/-- lists of ints at rs -/
def Rows (H : Hp) (rs : List Addr) (rows : List (List Int)) : Prop := Paired (fun r l => H r = some (.lst (l.map V.int))) rs rows
theorem Rows.same {H H' : Hp} {rs : List Addr} {rows : List (List Int)} (e : Same H H') (h : Rows H rs rows) : Rows H' rs rows := h.mono fun _ _ x => e _ _ x
theorem up10 {l : List Int} {n : Nat} (h : Asc n l) (hn : n ≤ 10) : l.length ≤ 10 := Nat.le_trans h.len hn
theorem Rows.but {H H' : Hp} {L : Addr} {rs : List Addr} {rows : List (List Int)} (e : ∀ b o, b ≠ L → H b = some o → H' b = some o) (n : ∀ r ∈ rs, r ≠ L) (h : Rows H rs rows) : Rows H' rs rows := by
  unfold Rows at h ⊢
  induction h with
  | nil => exact .nil
  | cons r t ih => exact .cons (e _ _ (n _ List.mem_cons_self) r) (ih fun x hx => n x (List.mem_cons_of_mem _ hx))
section
variable {P : Program} {w : World} {K : PySem.W.Frag} {mg : Str → Option Value} {base : Heap}
/-- later.append(sorted(set(more))) -/
theorem more_append {D : Ends} {σ : L2.St} {L M : Addr} {n : Nat} {acc : List Int} {xs : List V} {H : Hp} (h5 : σ[5]? = some (some (.ref L))) (h7 : σ[7]? = some (some (.ref M))) (eL : H L = some (.lst xs)) (eM : H M = some (.lst (acc.map V.int)))
    (xl : xs.length ≤ 100) (al : acc.length ≤ 1000) (n10 : n ≤ 10) (ar : ∀ x ∈ acc, 0 ≤ x ∧ x < (n : Int))
    (nx : ∀ (ms : List Int) (r : Addr) (H9 : Hp), (∀ b o, b ≠ L → H b = some o → H9 b = some o) → r ≠ L → H9 r = some (.lst (ms.map V.int)) → H9 L = some (.lst (xs ++ [.ref r])) → ms.Pairwise (· < ·) → (∀ k, k ∈ ms ↔ k ∈ acc) → D.nx σ H9) :
    tDrop (tBM K "list" rAppend (tVar 5) (tCons (tCB (rSortedSet w) (tCons (tCB (rSetL' K w) (tCons (tVar 7) tNil)) tNil)) tNil)) D σ H := by
  refine ⟨.ref L, h5, .inl ⟨rfl, _, .inl (.inl eL)⟩, .ref M, h7, ?_⟩
  refine sortSet_of (w := w) (K := K) (vs := [.ref M]) (H := H) (Q := fun y H2 => rAppend (.ref L) [y] H2 fun _ H6 => D.nx σ H6) ⟨M, acc, n, rfl, .inl (.inl eM), al, by omega, ar, fun ms r H8 s8 e8 up mm nr => ?_⟩
  have rL : r ≠ L := Ne.symm (ne_of_none eL nr)
  refine ⟨L, _, .ref r, rfl, rfl, s8 _ _ eL, small1000 (by omega), nx ms r _ (fun b o hb e => ?_) rL ?_ upd_same up mm⟩
  · rw [upd_ne hb]; exact s8 _ _ e
  · rw [upd_ne rL]; exact e8
def spReach (K : PySem.W.Frag) : Sp := fun vs H Q _ => ∃ (p t : Addr) (pan : List (List Int)) (st : List Int), vs = [.ref p, .ref t] ∧ PanT K H p pan ∧ Good pan ∧ SqT K H t (st.map V.int) ∧ Asc pan.length st ∧
  ∀ (H' : Hp) (F : Addr) (rs : List Addr) (rows : List (List Int)), Same H H' → H' F = some (.lst (rs.map V.ref)) → Rows H' rs rows → Rch pan st st.length rows → (∀ l ∈ rows, l.length ≤ 10) → Q (.ref F) H'
theorem ok_reach {f : Addr} {fd : FuncData} {k : Nat} (F : Fun K "_law_reach" "_law_reach" sReach f fd) (ml : mg "len" = none) (mr : mg "range" = none) (mli : mg "list" = none) (mse : mg "set" = none) (mso : mg "sorted" = none) :
    FnOk P w K mg base CX0 (k + 1) f fd ["_law_panel_here", "_law_state_here"] (spReach K) := by
  refine F.ok scReach (fun vs H Q E h => ?_) (fun cdv A outer s H vs Q E hr h => ?_)
  · obtain ⟨p, t, pan, st, rfl, _⟩ := h
    rfl
  · obtain ⟨p, t, pan, st, rfl, hp, hg, ht, hst, q⟩ := h
    refine ⟨_, pss_cons (ps_set (i := 2) scReach.nd rfl (.inl rfl) (pe_lst pa_nil))
      (pss_cons (ps_for PassesOwn.never rfl (pi_range1 (by rfl) mr (pa_cons (pe_callB call_len_seq (by rfl) ml PySem.boot_len (pa_cons (pv 0) pa_nil)) pa_nil)) (pg_name (i := 3) scReach.nd rfl (.inr rfl))
        (pss_one (ps_expr (pe_bm PySem.F.plainAttrs_list PySem.F.slot_list_append PySem.F.type_list_append mt_append (pv 2) (pa_cons
          (pe_lc (own := [("_law_one", 8)]) (g := gName 8) rfl scReach.nd (pi_tup (pe_ix ix_tup (pv 0) (pv 3) (fun _ _ => rfl)))
            (blkOk_by (own := [("_law_one", 8)]) (N := nReach) (sc := defScope sReach) (by decide +kernel)) (fun _ _ _ _ _ => pg_name (i := 8) scReach.nd rfl (Or.inl rfl))
            (fun _ _ _ _ _ => pts_one (PW.pt (pw_and (pt_cmpR (show OpR _ _ (rIn K false) from op_in_seq) (pv 8) (pv 1) (by rfl)) (pw_and1 (pt_cmpR (show OpR _ _ (rIn K false) from op_in_seq) (pv 3) (pv 1) (by rfl))))))
            (fun _ _ _ _ _ => pv 8)) pa_nil)))))
      (pss_cons (ps_for PassesOwn.never rfl (pi_tup (pv 1)) (pg_name (i := 4) scReach.nd rfl (.inl rfl))
        (pss_cons (ps_set (i := 5) scReach.nd rfl (.inl rfl) (pe_lst pa_nil))
        (pss_cons (ps_for PassesOwn.never rfl (pi_list (pv 2)) (pg_name (i := 6) scReach.nd rfl (.inl rfl))
          (pss_cons (ps_set (i := 7) scReach.nd rfl (.inl rfl) (pe_callTy call_list_of (by rfl) mli (by decide +kernel) (pa_cons (pv 6) pa_nil)))
          (pss_cons (ps_for PassesOwn.never rfl (pi_list (pv 6)) (pg_name (i := 8) scReach.nd rfl (.inl rfl))
            (pss_one (ps_expr (pe_bm PySem.F.plainAttrs_list PySem.F.slot_list_extend PySem.F.type_list_extend mt_extend (pv 7) (pa_cons (pe_ix ix_list (pv 2) (pv 8) (fun _ _ => rfl)) pa_nil)))))
          (pss_one (ps_expr (pe_bm PySem.F.plainAttrs_list PySem.F.slot_list_append PySem.F.type_list_append mt_append (pv 5) (pa_cons (pe_callB (cr_sortedSet rfl) (by rfl) mso (by decide +kernel) (pa_cons (pe_callTy (cr_setL rfl) (by rfl) mse (by decide +kernel) (pa_cons (pv 7) pa_nil)) pa_nil)) pa_nil)))))))
        (pss_one (ps_set (i := 2) scReach.nd rfl (.inl rfl) (pv 5))))))
      (pss_one (ps_ret (pv 2))))), ?_⟩
    have few := hg.few
    have slen := hst.len
    obtain ⟨ps, hps, hpl⟩ := hp.len
    refine ⟨Nat.zero_le _, fun F0 nF0 => ?_⟩
    have s0 : Same H (upd H F0 (.lst [])) := same_new nF0
    refine ⟨.ref p, rfl, p, _, rfl, .inr (same_sqT s0 hps), _, rfl, by rw [hpl]; omega, by rw [hpl]; omega, ?_⟩
    rw [hpl]
    refine for_range (n := pan.length) (fun i σ H2 => Same H H2 ∧ (∃ (rs : List Addr) (rows : List (List Int)), H2 F0 = some (.lst (rs.map V.ref)) ∧ Rows H2 rs rows ∧ rows.length = i ∧ (∀ l ∈ rows, l.length ≤ 10) ∧ (∀ r ∈ rs, r ≠ F0) ∧ ∀ (x : Nat) (l : List Int), rows[x]? = some l → ∀ y, y ∈ l ↔ Rel pan st (x : Int) y) ∧
        ∃ x3 x4 x5 x6 x7 x8, σ = [some (.ref p), some (.ref t), some (.ref F0), x3, x4, x5, x6, x7, x8])
      ⟨s0, ⟨[], [], upd_same, .nil, rfl, (fun l h => by cases h), (fun r h => by cases h), fun x l h => by cases h⟩, none, none, none, none, none, none, rfl⟩ (fun i σ H2 hi hP => ?_) (fun σ H2 hP => ?_)
    · obtain ⟨s2, ⟨rs, rows, eF, hrs, hrl, hr10, hrne, hrm⟩, x3, x4, x5, x6, x7, x8, rfl⟩ := hP
      rw [Int.zero_add]
      obtain ⟨qs, q', hq, ha, hr', _⟩ := panT_at (hp.same s2) (b := (i : Int)) (by omega) (by omega)
      have hll : (pan.getD (i : Int).toNat []).length ≤ 10 := by
        have hm : pan.getD (i : Int).toNat [] ∈ pan := by
          rw [Int.toNat_natCast, List.getD_eq_getElem?_getD, List.getElem?_eq_getElem hi]
          exact List.getElem_mem hi
        refine pw_length (n := 10) (lo := 0) (hg.up _ hm) fun x hx => ?_
        have := hg.rng _ hm x hx
        omega
      have hrel : ∀ y, Rel pan st (i : Int) y ↔ (y ∈ pan.getD (i : Int).toNat [] ∧ (decide (y ∈ st) && decide ((i : Int) ∈ st)) = true) := fun y => by
        rw [Bool.and_eq_true, decide_eq_true_eq, decide_eq_true_eq]
        exact ⟨fun ⟨a, b, c⟩ => ⟨c, b, a⟩, fun ⟨c, b, a⟩ => ⟨a, b, c⟩⟩
      generalize pan.getD (i : Int).toNat [] = l at hr' hll hrel
      refine ⟨.ref F0, rfl, .inl ⟨rfl, _, .inl (.inl eF)⟩, .ref p, rfl, .int (i : Int), rfl, p, _, _, .ref q', rfl, rfl, hq, ha, q', rfl, ⟨_, hr'⟩, fun D nD => ?_⟩
      refine lc_tup (xs := l.map V.int) (fun j H3 => Same H2 H3 ∧ H3 D = some (.lst (((l.take j).filter fun y => decide (y ∈ st) && decide ((i : Int) ∈ st)).map V.int))) ⟨same_new nD, upd_same⟩ (fun j H3 _ hP => same_sqT hP.1 hr') (fun j x H3 hx hP => ?_) (fun H3 hP => ?_)
      · obtain ⟨s3, eD⟩ := hP
        obtain ⟨z, hz, rfl⟩ := int_get hx
        have step := filt_take (f := fun y => decide (y ∈ st) && decide ((i : Int) ∈ st)) hz
        have fl := List.length_filter_le (fun y => decide (y ∈ st) && decide ((i : Int) ∈ st)) (l.take j)
        rw [List.length_take] at fl
        have ht3 := same_sqT (s2.trans s3) ht
        refine ⟨rfl, .int z, rfl, .ref t, rfl, t, _, rfl, .inr ht3, rfl, flat_ints _, _, rfl, ?_⟩
        rw [if_neg Bool.false_ne_true, inV_ints]
        refine ite2 (fun e => ?_) (fun e => ?_)
        · refine ⟨.int (i : Int), rfl, .ref t, rfl, t, _, rfl, .inr ht3, rfl, flat_ints _, _, rfl, ?_⟩
          rw [if_neg Bool.false_ne_true, inV_ints]
          refine ite2 (fun e2 => ?_) (fun e2 => ?_)
          · refine ⟨.int z, rfl, _, eD, by rw [List.length_map]; exact small1000 (by omega), fun b o e' => ?_, ?_⟩
            · rw [upd_ne (ne_of_none e' nD)]
              exact s3 _ _ e'
            · rw [upd_same, step, if_pos (by rw [e, e2]; rfl), List.map_append]; rfl
          · refine ⟨s3, ?_⟩
            rw [step, if_neg (by rw [(Bool.not_eq_true _).mp e2, Bool.and_false]; exact Bool.false_ne_true), List.append_nil]; exact eD
        · refine iteF ⟨s3, ?_⟩
          rw [step, if_neg (by rw [(Bool.not_eq_true _).mp e, Bool.false_and]; exact Bool.false_ne_true), List.append_nil]; exact eD
      · obtain ⟨s3, eD⟩ := hP
        rw [List.length_map, List.take_length] at eD
        have fl := List.length_filter_le (fun y => decide (y ∈ st) && decide ((i : Int) ∈ st)) l
        have eF3 := s3 _ _ eF
        have nF : H F0 = none := nF0
        have nDF : D ≠ F0 := Ne.symm (ne_of_none eF nD)
        have hsl : rs.length = i := by rw [hrs.length]; exact hrl
        refine ⟨F0, _, .ref D, rfl, rfl, eF3, by rw [List.length_map]; exact small1000 (by omega), ?_, ?_, _, _, _, _, _, _, rfl⟩
        · intro b o e
          rw [upd_ne (ne_of_none e nF)]; exact s3 _ _ (s2 _ _ e)
        · refine ⟨rs ++ [D], rows ++ [l.filter fun y => decide (y ∈ st) && decide ((i : Int) ∈ st)], by rw [upd_same, List.map_append]; rfl, ?_, by rw [List.length_append, hrl]; rfl, fun l' hl' => ?_, fun r hr => ?_, fun x l' hx y => ?_⟩
          · refine Paired.snoc ((hrs.same s3).but (fun b o hb e => by rw [upd_ne hb]; exact e) hrne) ?_
            rw [upd_ne nDF]; exact eD
          · rcases List.mem_append.mp hl' with h | h
            · exact hr10 l' h
            · rw [List.mem_singleton.mp h]; omega
          · rcases List.mem_append.mp hr with h | h
            · exact hrne r h
            · rw [List.mem_singleton.mp h]; exact nDF
          · by_cases hxi : x < i
            · rw [List.getElem?_append_left (by omega)] at hx
              exact hrm x l' hx y
            · rw [List.getElem?_append_right (by omega), hrl] at hx
              obtain rfl : x = i := by
                have := (List.getElem?_eq_some_iff.mp hx).1
                rw [List.length_singleton] at this; omega
              rw [Nat.sub_self] at hx
              obtain rfl : l.filter (fun y => decide (y ∈ st) && decide ((x : Int) ∈ st)) = l' := by simpa using hx
              rw [List.mem_filter, hrel y]
    · obtain ⟨s2, ⟨rs, rows, eF, hrs, hrl, hr10, hrne, hrm⟩, x3, x4, x5, x6, x7, x8, rfl⟩ := hP
      have rch0 : Rch pan st 0 rows := Rch.first hrl hrm
      refine ⟨.ref t, rfl, t, rfl, ⟨_, same_sqT s2 ht⟩, ?_⟩
      refine for_tup (xs := st.map V.int) (fun k σ H3 => Same H H3 ∧ (∃ (F : Addr) (rs : List Addr) (rows : List (List Int)), H3 F = some (.lst (rs.map V.ref)) ∧ Rows H3 rs rows ∧ Rch pan st k rows ∧ (∀ l ∈ rows, l.length ≤ 10) ∧
          ∃ x3 x4 x5 x6 x7 x8, σ = [some (.ref p), some (.ref t), some (.ref F), x3, x4, x5, x6, x7, x8]))
        ⟨s2, F0, rs, rows, eF, hrs, rch0, hr10, _, _, _, _, _, _, rfl⟩ (fun k σ H3 _ hP => same_sqT hP.1 ht) (fun k x σ H3 hx hP => ?_) (fun σ H3 hP => ?_)
      · obtain ⟨s3, F, rs, rows, eF, hrs, rch, h10, x3, x4, x5, x6, x7, x8, rfl⟩ := hP
        have rlen := rch.len
        have hsl : rs.length = pan.length := by rw [hrs.length]; exact rlen
        refine ⟨Nat.zero_le _, fun L nL => ?_⟩
        have sL : Same H3 (upd H3 L (.lst [])) := same_new nL
        refine ⟨.ref F, rfl, F, rfl, ⟨_, .inl (.inl (sL _ _ eF))⟩, ?_⟩
        refine for_list (xs := rs.map V.ref) (fun j σ H4 => Same H3 H4 ∧ (∃ (rs' : List Addr) (rows' : List (List Int)), H4 L = some (.lst (rs'.map V.ref)) ∧ Rows H4 rs' rows' ∧ rows'.length = j ∧ (∀ l ∈ rows', l.length ≤ 10) ∧ (∀ r ∈ rs', r ≠ L) ∧
            ∀ (x : Nat) (l l' : List Int), rows[x]? = some l → rows'[x]? = some l' → ∀ y, y ∈ l' ↔ (y ∈ l ∨ ∃ z ∈ l, y ∈ rows.getD z.toNat [])) ∧ ∃ x3 x4 x6 x7 x8, σ = [some (.ref p), some (.ref t), some (.ref F), x3, x4, some (.ref L), x6, x7, x8])
          ⟨sL, ⟨[], [], upd_same, .nil, rfl, (fun l h => by cases h), (fun r h => by cases h), (fun x l l' _ h => by cases h)⟩, _, _, _, _, _, rfl⟩ (fun j σ H4 _ hP => .inl (.inl (hP.1 _ _ eF))) (fun j x σ H4 hx hP => ?_) (fun σ H4 hP => ?_)
        · obtain ⟨s4, ⟨rs', rows', eL, hrs', hrl', h10', hne', hm'⟩, x3, x4, x6, x7, x8, rfl⟩ := hP
          have hj : j < rs.length := by
            have := (List.getElem?_eq_some_iff.mp hx).1
            rw [List.length_map] at this; exact this
          obtain ⟨l, hlj⟩ : ∃ l, rows[j]? = some l := ⟨rows[j]'(by omega), List.getElem?_eq_getElem (by omega)⟩
          obtain ⟨r, hrj, er⟩ := paired_get hrs j l hlj
          obtain rfl : x = .ref r := by
            rw [List.getElem?_map, hrj] at hx
            exact (Option.some.inj hx).symm
          have er4 := s4 _ _ er
          have ll : l.length ≤ 10 := h10 l (List.mem_of_getElem? hlj)
          have lrng : ∀ z ∈ l, 0 ≤ z ∧ z < (pan.length : Int) := fun z hz => rch.rng hst.rng hlj hz
          refine ⟨.ref r, rfl, r, _, rfl, .inl (.inl (.inl er4)), fun M nM => ?_⟩
          have sM : Same H4 (upd H4 M (.lst (l.map V.int))) := same_new nM
          refine ⟨.ref r, rfl, r, rfl, ⟨_, .inl (.inl (sM _ _ er4))⟩, ?_⟩
          refine for_list (xs := l.map V.int) (fun i σ H5 => Same H4 H5 ∧ (∃ acc : List Int, H5 M = some (.lst (acc.map V.int)) ∧ acc.length ≤ 10 + 10 * i ∧ ∀ y, y ∈ acc ↔ (y ∈ l ∨ ∃ z ∈ l.take i, y ∈ rows.getD z.toNat [])) ∧
              ∃ x8, σ = [some (.ref p), some (.ref t), some (.ref F), x3, x4, some (.ref L), some (.ref r), some (.ref M), x8])
            ⟨sM, ⟨l, upd_same, by omega, fun y => ⟨.inl, fun h => h.elim id fun ⟨z, hz, _⟩ => by simp at hz⟩⟩, _, rfl⟩ (fun i σ H5 _ hP => .inl (.inl (hP.1 _ _ er4))) (fun i x σ H5 hx hP => ?_) (fun σ H5 hP => ?_)
          · obtain ⟨s5, ⟨acc, eM, al, am⟩, x8, rfl⟩ := hP
            obtain ⟨z, hz, rfl⟩ := int_get hx
            have hi : i < l.length := (List.getElem?_eq_some_iff.mp hz).1
            have zr := lrng z (List.mem_of_getElem? hz)
            obtain ⟨zn, rfl⟩ : ∃ zn : Nat, z = (zn : Int) := ⟨z.toNat, (Int.toNat_of_nonneg zr.1).symm⟩
            have hzn : zn < rows.length := by omega
            obtain ⟨r2, hr2, er2⟩ := paired_get hrs zn rows[zn] (List.getElem?_eq_getElem hzn)
            have gD : rows.getD ((zn : Int)).toNat [] = rows[zn] := by rw [Int.toNat_natCast, List.getD_eq_getElem?_getD, List.getElem?_eq_getElem hzn]; rfl
            have l2 : rows[zn].length ≤ 10 := h10 _ (List.getElem_mem hzn)
            have er25 := s5 _ _ (s4 _ _ er2)
            refine ⟨.ref M, rfl, .inl ⟨rfl, _, .inl (.inl eM)⟩, .ref F, rfl, .int (zn : Int), rfl, F, _, _, .ref r2, rfl, rfl, .inl (.inl (s5 _ _ (s4 _ _ eF))), atI_nat (by rw [List.getElem?_map, hr2]; rfl), M, r2, _, _, rfl, rfl, eM, er25, ?_, ?_, ?_, _, rfl⟩
            · rw [List.length_map, List.length_map]; exact Nat.le_of_lt (small1000 (by omega))
            · intro b o e
              rw [upd_ne (ne_of_none e nM)]; exact s5 _ _ e
            · refine ⟨acc ++ rows[zn], by rw [upd_same, List.map_append], by rw [List.length_append]; omega, fun y => ?_⟩
              rw [List.mem_append, am y, List.take_add_one, hz]
              constructor
              · rintro ((h | ⟨d, h1, h2⟩) | h)
                · exact .inl h
                · exact .inr ⟨d, List.mem_append_left _ h1, h2⟩
                · exact .inr ⟨(zn : Int), List.mem_append_right _ (by simp), by rw [gD]; exact h⟩
              · rintro (h | ⟨d, h1, h2⟩)
                · exact .inl (.inl h)
                · rcases List.mem_append.mp h1 with h3 | h3
                  · exact .inl (.inr ⟨d, h3, h2⟩)
                  · have : d = (zn : Int) := by simpa using h3
                    rw [this, gD] at h2
                    exact .inr h2
          · obtain ⟨s5, ⟨acc, eM, al, am⟩, x8, rfl⟩ := hP
            rw [List.length_map] at al
            rw [List.length_map, List.take_length] at am
            have eL5 := s5 _ _ eL
            have arng : ∀ y ∈ acc, 0 ≤ y ∧ y < (pan.length : Int) := fun y hy => by
              rcases (am y).mp hy with h | ⟨z, hz, h⟩
              · exact lrng y h
              · have zr := lrng z hz
                have hzn : z.toNat < rows.length := by omega
                rw [List.getD_eq_getElem?_getD, List.getElem?_eq_getElem hzn] at h
                exact rch.rng hst.rng (List.getElem?_eq_getElem hzn) h
            have hsl' : rs'.length = j := by rw [hrs'.length]; exact hrl'
            refine more_append (n := pan.length) rfl rfl eL5 eM (by rw [List.length_map]; omega) (by omega) few arng fun ms r9 H9 k9 n9 e9 eL9 up mm => ?_
            have keep : ∀ b o, b ≠ L → H4 b = some o → H9 b = some o := fun b o hb e => k9 b o hb (s5 _ _ e)
            refine ⟨fun b o e => keep b o (ne_of_none e nL) (s4 _ _ e), ⟨rs' ++ [r9], rows' ++ [ms], by rw [eL9, List.map_append]; rfl, Paired.snoc (hrs'.but keep hne') e9, by rw [List.length_append, hrl']; rfl, fun l' hl' => ?_, fun r hr => ?_, fun x l0 l' hx0 hx1 y => ?_⟩, _, _, _, _, _, rfl⟩
            · rcases List.mem_append.mp hl' with h | h
              · exact h10' l' h
              · rw [List.mem_singleton.mp h]
                exact pw_length (n := 10) (lo := 0) up fun x hx => by have := arng x ((mm x).mp hx); omega
            · rcases List.mem_append.mp hr with h | h
              · exact hne' r h
              · rw [List.mem_singleton.mp h]; exact n9
            · by_cases hxj : x < j
              · rw [List.getElem?_append_left (by omega)] at hx1
                exact hm' x l0 l' hx0 hx1 y
              · rw [List.getElem?_append_right (by omega), hrl'] at hx1
                obtain rfl : x = j := by
                  have := (List.getElem?_eq_some_iff.mp hx1).1
                  rw [List.length_singleton] at this; omega
                rw [Nat.sub_self] at hx1
                obtain rfl : ms = l' := by simpa using hx1
                obtain rfl : l = l0 := Option.some.inj (hlj.symm.trans hx0)
                rw [mm y, am y]
        · obtain ⟨s4, ⟨rs', rows', eL, hrs', hrl', h10', hne', hm'⟩, x3, x4, x6, x7, x8, rfl⟩ := hP
          rw [List.length_map] at hrl'
          exact ⟨.ref L, rfl, s3.trans s4, L, rs', rows', eL, hrs', rch.next hst.rng (by omega) hm', h10', _, _, _, _, _, _, rfl⟩
      · obtain ⟨s3, F, rs, rows, eF, hrs, rch, h10, x3, x4, x5, x6, x7, x8, rfl⟩ := hP
        rw [List.length_map] at rch
        exact ⟨.ref F, rfl, q H3 F rs rows s3 eF hrs rch h10⟩
end
end K20
namespace K20
open PySem PySem.Spec PyProof.Rows L2 Pr
def nWalk : List Str := ["panel", "held", "first", "walk", "onward", "button"]
theorem scWalk : FnScope nWalk ["panel", "held", "first"] (defScope sWalk) := ⟨rfl, rfl, rfl, by decide +kernel, rfl, by decide +kernel, by decide +kernel⟩
theorem scRound : FnScope ["panel", "state", "held", "walk", "ring", "least"] ["panel", "state"] (defScope sRound) := ⟨rfl, rfl, rfl, by decide +kernel, rfl, by decide +kernel, by decide +kernel⟩
theorem at_last {ws : List Int} (h : ws ≠ []) : atI (ws.map V.int) (-1) = some (.int (ws.getLastD 0)) := by
  have hp := List.length_pos_iff.mpr h
  unfold atI ixN
  rw [if_neg (by decide), List.length_map, if_pos (by omega)]
  show (ws.map V.int)[((-1 : Int) + (ws.length : Int)).toNat]? = _
  rw [show ((-1 : Int) + (ws.length : Int)).toNat = ws.length - 1 by omega, List.getElem?_map, last_get h]; rfl
theorem cut_last (ws : List Int) : cutV (ws.map V.int) none (some (-1)) = ws.dropLast.map V.int := by
  unfold cutV
  rw [HT.sIx_none, List.drop_zero, Nat.sub_zero, List.length_map, List.dropLast_eq_take, List.map_take]
  congr 1
  unfold HT.sIx
  simp
  omega
theorem cut_ring (ws : List Int) (j : Nat) (hj : j ≤ ws.length) : cutV (ws.map V.int) (some (j : Int)) (some (-1)) = ((ws.drop j).take (ws.length - 1 - j)).map V.int := by
  have e2 : HT.sIx ws.length ws.length (some (-1)) = ws.length - 1 := by
    unfold HT.sIx
    simp
    omega
  unfold cutV
  rw [List.length_map, HT.sIx_nat, e2, Nat.min_eq_left hj, List.map_take, List.map_drop]
theorem cut_from (l : List Int) (m : Nat) (hm : m ≤ l.length) : cutV (l.map V.int) (some (m : Int)) none = (l.drop m).map V.int := by
  unfold cutV
  rw [List.length_map, HT.sIx_nat, HT.sIx_none, Nat.min_eq_left hm, List.map_drop]
  refine List.take_of_length_le ?_
  rw [List.length_drop, List.length_map]; omega
theorem cut_to (l : List Int) (m : Nat) (hm : m ≤ l.length) : cutV (l.map V.int) none (some (m : Int)) = (l.take m).map V.int := by
  unfold cutV
  rw [List.length_map, HT.sIx_none, HT.sIx_nat, Nat.min_eq_left hm, List.drop_zero, Nat.sub_zero, List.map_take]
section
variable {P : Program} {w : World} {K : PySem.W.Frag} {mg : Str → Option Value} {base : Heap}
def spWalk (K : PySem.W.Frag) : Sp := fun vs H Q _ => ∃ (p t : Addr) (pan : List (List Int)) (hs : List Int) (f : Int), vs = [.ref p, .ref t, .int f] ∧ PanT K H p pan ∧ Good pan ∧ SqT K H t (hs.map V.int) ∧ Closed pan hs ∧ (∀ x ∈ hs, 0 ≤ x ∧ x < (pan.length : Int)) ∧ hs.length ≤ 10 ∧ f ∈ hs ∧
  ∀ (H' : Hp) (u : Addr), Same H H' → FT H' u ((walkF pan hs 20 [f]).map V.int) → Wlk pan hs (walkF pan hs 20 [f]) → (walkF pan hs 20 [f]).getLastD 0 ∈ (walkF pan hs 20 [f]).dropLast → (walkF pan hs 20 [f]).length ≤ 11 → Q (.ref u) H'
theorem ok_walk {f : Addr} {fd : FuncData} {k : Nat} (F : Fun K "held_walk" "held_walk" sWalk f fd) (mt : mg "tuple" = none) : FnOk P w K mg base CX0 (k + 1) f fd ["panel", "held", "first"] (spWalk K) := by
  refine F.ok scWalk (fun vs H Q E h => ?_) (fun cdv A outer s H vs Q E hr h => ?_)
  · obtain ⟨p, t, pan, hs, f, rfl, _⟩ := h
    rfl
  · obtain ⟨p, t, pan, hs, f, rfl, hp, hg, ht, hc, hrng, h10, hf, q⟩ := h
    refine ⟨_, pss_cons (ps_set (i := 3) scWalk.nd rfl (.inl rfl) (pe_lst (pa_cons (pv 2) pa_nil)))
      (pss_cons (ps_while PassesOwn.never (pt_cmpR (show OpR _ _ (rIn K true) from op_notIn_seq) (pe_ix ix_list (pv 3) (pe_un un_neg pe_int) (fun _ _ => rfl)) (pe_slice sl_list (pv 3) po_none (po_some (pe_un un_neg pe_int))) (by rfl))
        (pss_cons (ps_setLc (i := 4) (own := [("button", 5)]) (g := gName 5) rfl scWalk.nd rfl rfl (sw_true rfl rfl rfl (by decide +kernel)) (pi_tup (pe_ix ix_tup (pv 0) (pe_ix ix_list (pv 3) (pe_un un_neg pe_int) (fun _ _ => rfl)) (fun _ _ => rfl)))
            (blkOk_by (own := [("button", 5)]) (N := nWalk) (sc := defScope sWalk) (by decide +kernel)) (fun _ _ _ _ _ => pg_name (i := 5) scWalk.nd rfl (Or.inl rfl))
            (fun _ _ _ _ _ => pts_one (pt_cmpR (show OpR _ _ (rIn K false) from op_in_seq) (pv 5) (pv 1) (by rfl))) (fun _ _ _ _ _ => pv 5))
        (pss_one (ps_expr (pe_bm PySem.F.plainAttrs_list PySem.F.slot_list_append PySem.F.type_list_append mt_append (pv 3) (pa_cons (pe_ix ix_list (pv 4) pe_int (fun _ _ => rfl)) pa_nil))))))
      (pss_one (ps_ret (pe_callTy call_tupF (by rfl) mt (by decide +kernel) (pa_cons (pv 3) pa_nil))))), ?_⟩
    refine ⟨.int f, rfl, by show 1 ≤ sizeLine; decide, fun L nL => ?_⟩
    refine ⟨fun mm σ H2 => ∃ (ws : List Int) (x4 x5 : Option V), mm = 21 - ws.length ∧ Same H H2 ∧ H2 L = some (.lst (ws.map V.int)) ∧ Wlk pan hs ws ∧ ws.length ≤ 11 ∧ walkF pan hs (21 - ws.length) ws = walkF pan hs 20 [f] ∧ σ = [some (.ref p), some (.ref t), some (.int f), some (.ref L), x4, x5],
      ⟨_, [f], none, none, rfl, same_new nL, upd_same, Wlk.one hf, (show 1 ≤ 11 by decide), rfl, rfl⟩, ?_⟩
    rintro mm σ H2 ⟨ws, x4, x5, rfl, s2, eL, hw, wl, hW, rfl⟩
    have wpos := List.length_pos_iff.mpr hw.ne
    have hal := at_last hw.ne
    have hcl := cut_last ws
    have hlast : ws.getLastD 0 ∈ hs := hw.mem _ (List.mem_of_getElem? (last_get hw.ne))
    refine ⟨.ref L, rfl, 1, rfl, L, _, _, _, rfl, rfl, .inl (.inl eL), hal, .ref L, rfl, 1, rfl, -1, rfl, L, _, rfl, .inl (.inl eL), fun D nD => ?_⟩
    rw [hcl]
    have sD : Same H2 (upd H2 D (.lst (ws.dropLast.map V.int))) := same_new nD
    refine ⟨D, _, rfl, .inl (.inl (.inl upd_same)), rfl, flat_ints _, _, rfl, ?_⟩
    rw [if_pos rfl, inV_ints]
    refine ite2 (fun e => ?_) (fun e => ?_)
    · have hn : ws.getLastD 0 ∉ ws.dropLast := fun z => by rw [decide_eq_true z] at e; exact absurd e (by decide)
      obtain ⟨hmore, hnd⟩ := hw.more hc hn
      have wl10 : ws.length ≤ 10 := Nat.le_trans (nodup_sub hnd hw.mem) h10
      obtain ⟨r, e1, n1, n2⟩ := next_in hc hlast
      have lr := hrng _ hlast
      have s3 := s2.trans sD
      obtain ⟨qs, q', hq, ha, hr', _⟩ := panT_at (hp.same s3) lr.1 lr.2
      have hll : (pan.getD (ws.getLastD 0).toNat []).length ≤ 10 := by
        have hbn : (ws.getLastD 0).toNat < pan.length := by omega
        have hm : pan.getD (ws.getLastD 0).toNat [] ∈ pan := by
          rw [List.getD_eq_getElem?_getD, List.getElem?_eq_getElem hbn]
          exact List.getElem_mem hbn
        have few := hg.few
        refine pw_length (n := 10) (lo := 0) (hg.up _ hm) fun x hx => ?_
        have := hg.rng _ hm x hx
        omega
      have eL3 := sD _ _ eL
      unfold onM' at e1
      generalize pan.getD (ws.getLastD 0).toNat [] = l at hr' hll e1
      refine ⟨_, fun σ' H' h => h, .ref p, rfl, .ref L, rfl, 1, rfl, L, _, _, _, rfl, rfl, .inl (.inl eL3), hal, p, _, _, .ref q', rfl, rfl, hq, ha, q', rfl, ⟨_, hr'⟩, fun D2 nD2 => ?_⟩
      refine lc_tup (xs := l.map V.int) (fun i H3 => Same (upd H2 D (.lst (ws.dropLast.map V.int))) H3 ∧ H3 D2 = some (.lst (((l.take i).filter fun y => decide (y ∈ hs)).map V.int))) ⟨same_new nD2, upd_same⟩ (fun i H3 _ hP => same_sqT hP.1 hr') (fun i x H3 hx hP => ?_) (fun H3 hP => ?_)
      · obtain ⟨s4, eD2⟩ := hP
        obtain ⟨z, hz, rfl⟩ := int_get hx
        have step := filt_take (f := fun y => decide (y ∈ hs)) hz
        have fl := List.length_filter_le (fun y => decide (y ∈ hs)) (l.take i)
        rw [List.length_take] at fl
        refine ⟨rfl, .int z, rfl, .ref t, rfl, t, _, rfl, .inr (same_sqT (s3.trans s4) ht), rfl, flat_ints _, _, rfl, ?_⟩
        rw [if_neg Bool.false_ne_true, inV_ints]
        refine ite2 (fun e => ?_) (fun e => ?_)
        · refine ⟨.int z, rfl, _, eD2, by rw [List.length_map]; exact small1000 (by omega), fun b o e' => ?_, ?_⟩
          · rw [upd_ne (ne_of_none e' nD2)]
            exact s4 _ _ e'
          · rw [upd_same, step, if_pos e, List.map_append]; rfl
        · refine ⟨s4, ?_⟩
          rw [step, if_neg e, List.append_nil]; exact eD2
      · obtain ⟨s4, eD2⟩ := hP
        rw [List.length_map, List.take_length, e1] at eD2
        have eL4 := s4 _ _ eL3
        refine ⟨.ref L, rfl, .inl ⟨rfl, _, .inl (.inl eL4)⟩, .ref D2, rfl, D2, _, 0, .int (nextM pan hs (ws.getLastD 0)), rfl, rfl, .inl (.inl eD2), atI_nat (j := 0) rfl, L, _, _, rfl, rfl, eL4, by rw [List.length_map]; exact small1000 (by omega), ?_⟩
        refine ⟨21 - (ws ++ [nextM pan hs (ws.getLastD 0)]).length, by rw [List.length_append]; show 21 - (ws.length + 1) < 21 - ws.length; omega, ws ++ [nextM pan hs (ws.getLastD 0)], _, _, rfl, fun b o e' => ?_, by rw [upd_same, List.map_append]; rfl, hmore, by rw [List.length_append]; show ws.length + 1 ≤ 11; omega, ?_, rfl⟩
        · rw [upd_ne (ne_of_none e' nL)]
          exact s4 _ _ (s3 _ _ e')
        · rw [← hW, show 21 - ws.length = (20 - ws.length) + 1 by omega, walkF, if_neg hn, List.length_append]
          show walkF pan hs (21 - (ws.length + 1)) _ = _
          rw [show 21 - (ws.length + 1) = 20 - ws.length by omega]
    · have hin : ws.getLastD 0 ∈ ws.dropLast := Classical.byContradiction fun z => e (by rw [decide_eq_false z]; rfl)
      have eW : ws = walkF pan hs 20 [f] := by rw [← hW, show 21 - ws.length = (20 - ws.length) + 1 by omega, walkF, if_pos hin]
      refine ⟨.ref L, rfl, L, _, rfl, .inl (.inl (sD _ _ eL)), fun u o nu ho => ?_⟩
      rw [eW] at hw hin wl
      refine q _ u ((s2.trans sD).trans (same_new nu)) ⟨o, by rw [upd_same, eW], ho⟩ hw hin wl

/-- what find_round gives -/
def Fnd (pan : List (List Int)) (st : List Int) (H : Hp) (v : V) : Prop := (v = .non ∧ IsHeld pan st []) ∨ ∃ (u : Addr) (hs : List Int), v = .ref u ∧ Rd H u (.tup ((roundM pan hs).map V.int)) ∧ IsHeld pan st hs ∧ hs ≠ [] ∧ Rnd pan (roundM pan hs) ∧ (∀ x ∈ roundM pan hs, x ∈ st) ∧ ∀ y ∈ roundM pan hs, (roundM pan hs).headD 0 ≤ y
theorem rd_same {H H' : Hp} {u : Addr} {o : HO} (e : Same H H') (h : Rd H u o) : Rd H' u o := by
  rcases h with h | ⟨ob, h⟩
  · exact .inl (e _ _ h)
  · exact .inr ⟨ob, e _ _ h⟩
theorem Fnd.same {pan : List (List Int)} {st : List Int} {H H' : Hp} {v : V} (e : Same H H') (h : Fnd pan st H v) : Fnd pan st H' v := by
  rcases h with h | ⟨u, hs, h1, h2, h3⟩
  · exact .inl h
  · exact .inr ⟨u, hs, h1, rd_same e h2, h3⟩
def spRound (K : PySem.W.Frag) : Sp := fun vs H Q _ => ∃ (p t : Addr) (pan : List (List Int)) (st : List Int), vs = [.ref p, .ref t] ∧ PanT K H p pan ∧ Good pan ∧ SqT K H t (st.map V.int) ∧ Asc pan.length st ∧
  ∀ (H' : Hp) (v : V), Same H H' → Fnd pan st H' v → Q v H'
theorem ok_round {f fA fH fW : Addr} {fd fdA fdH fdW : FuncData} {k : Nat} (F : Fun K "find_round" "find_round" sRound f fd) (FA : Fun K "releases_any" "releases_any" sAny fA fdA) (bA : Binds K fdA ["panel", "button", "others"] []) (gA : mg "releases_any" = some (.ref fA))
    (FH : Fun K "held_buttons" "held_buttons" sHeld fH fdH) (bH : Binds K fdH ["panel", "state"] []) (gH : mg "held_buttons" = some (.ref fH))
    (FW : Fun K "held_walk" "held_walk" sWalk fW fdW) (bW : Binds K fdW ["panel", "held", "first"] []) (gW : mg "held_walk" = some (.ref fW))
    (ml : mg "len" = none) (mt : mg "tuple" = none) (my : mg "any" = none) (mm : mg "min" = none) : FnOk P w K mg base CX0 (k + 3) f fd ["panel", "state"] (spRound K) := by
  have GH : FnOk P w K mg base CX0 (k + 2) fH fdH ["panel", "state"] (spHeld K) := ok_held FH FA bA gA ml mt my
  have GW : FnOk P w K mg base CX0 (k + 2) fW fdW ["panel", "held", "first"] (spWalk K) := ok_walk FW mt
  refine F.ok scRound (fun vs H Q E h => ?_) (fun cdv A outer s H vs Q E hr h => ?_)
  · obtain ⟨p, t, pan, st, rfl, _⟩ := h
    rfl
  · obtain ⟨p, t, pan, st, rfl, hp, hg, ht, hst, q⟩ := h
    refine ⟨_, pss_cons (ps_set (i := 2) scRound.nd rfl (.inl rfl) (pe_call GH hr (by rfl) gH FH.kp bH .nil pass0 (pa_cons (pv 0) (pa_cons (pv 1) pa_nil))))
      (pss_cons (ps_if (pt_not (pt_truth (pv 2) (by intro _; rfl))) (pss_one (ps_ret pe_non)) pss_nil)
      (pss_cons (ps_set (i := 3) scRound.nd rfl (.inl rfl) (pe_call GW hr (by rfl) gW FW.kp bW .nil pass0 (pa_cons (pv 0) (pa_cons (pv 2) (pa_cons (pe_ix ix_tup (pv 2) pe_int (fun _ _ => rfl)) pa_nil)))))
      (pss_cons (ps_set (i := 4) scRound.nd rfl (.inl rfl) (pe_slice sl_tupF (pv 3) (po_some (pe_tm PySem.F.slot_tuple_index PySem.F.type_tuple_index mt_tindex (pv 3) (pa_cons (pe_ix ix_tup (pv 3) (pe_un un_neg pe_int) (fun _ _ => rfl)) pa_nil))) (po_some (pe_un un_neg pe_int))))
      (pss_cons (ps_set (i := 5) scRound.nd rfl (.inl rfl) (pe_tm PySem.F.slot_tuple_index PySem.F.type_tuple_index mt_tindex (pv 4) (pa_cons (pe_callB (cr_minT rfl hr.units) (by rfl) mm (by decide +kernel) (pa_cons (pv 4) pa_nil)) pa_nil)))
      (pss_one (ps_ret (pe_op op_catA (pe_slice sl_tupF (pv 4) (po_some (pv 5)) po_none) (pe_slice sl_tupF (pv 4) po_none (po_some (pv 5)))))))))), ?_⟩
    refine ⟨.ref p, rfl, .ref t, rfl, p, t, pan, st, rfl, hp, hg, ht, hst, fun H1 hu hs s1 hhs held => ?_⟩
    refine ⟨.ref hu, rfl, !(hs.map V.int).isEmpty, .inr (.inl ⟨_, hhs, rfl⟩), ?_⟩
    cases hs with
    | nil => exact iteT (q H1 .non s1 (.inl ⟨rfl, held⟩))
    | cons x r =>
      refine iteF ?_
      generalize hhl : x :: r = hs at hhs held
      have hne : hs ≠ [] := by rw [← hhl]; simp
      have hf : x ∈ hs := by rw [← hhl]; exact List.mem_cons_self
      have hhd : hs.headD 0 = x := by rw [← hhl]; rfl
      have hrng : ∀ y ∈ hs, 0 ≤ y ∧ y < (pan.length : Int) := fun y hy => hst.rng y (held.sub y hy)
      have few := hg.few
      have h10 : hs.length ≤ 10 := pw_length (n := 10) (lo := 0) held.up fun y hy => by have := hrng y hy; omega
      refine ⟨.ref p, rfl, .ref hu, rfl, .ref hu, rfl, hu, _, 0, .int x, rfl, rfl, hhs, by rw [← hhl]; exact atI_nat (j := 0) rfl, p, hu, pan, hs, x, rfl, hp.same s1, hg, hhs, held.closed, hrng, h10, hf, fun H2 wa s2 hwa wlk wlast wlen => ?_⟩
      obtain ⟨rnd, rin⟩ := ring_rnd hg hrng wlk wlast
      have eRM : roundM pan hs = turnM (ringM (walkF pan hs 20 [x])) := by unfold roundM; rw [hhd]
      generalize walkF pan hs 20 [x] = ws at hwa wlk wlast wlen rnd rin eRM
      have hal := at_last wlk.ne
      have lmem : ws.getLastD 0 ∈ ws := List.mem_of_getElem? (last_get wlk.ne)
      have hjl := List.idxOf_lt_length_of_mem lmem
      refine ⟨.ref wa, rfl, .ref wa, rfl, ⟨wa, _, rfl, hwa⟩, .ref wa, rfl, 1, rfl, wa, _, _, _, rfl, rfl, hwa.sq, hal, wa, ws, _, ws.idxOf (ws.getLastD 0), rfl, rfl, hwa.sq, idx_get lmem, fun m hm => idx_no hm, _, rfl, 1, rfl, -1, rfl, wa, _, rfl, hwa, fun ra H3 s3 hra => ?_⟩
      rw [cut_ring ws _ (Nat.le_of_lt hjl)] at hra
      change FT H3 ra ((ringM ws).map V.int) at hra
      generalize ringM ws = ring at hra rnd rin eRM
      have rne : ring ≠ [] := fun e => by have := rnd.two; rw [e] at this; simp at this
      obtain ⟨m1, m2⟩ := minI_spec rne
      have hml := List.idxOf_lt_length_of_mem m1
      obtain ⟨y0, ys, ery⟩ : ∃ y0 ys, ring = y0 :: ys := by
        cases ring with
        | nil => exact absurd rfl rne
        | cons a b => exact ⟨a, b, rfl⟩
      have emin : ys.foldl min y0 = minI ring := by rw [ery]; rfl
      refine ⟨.ref ra, rfl, ⟨ra, _, rfl, hra⟩, .ref ra, rfl, ra, y0, ys, rfl, by rw [← ery]; exact hra.sq, ra, ring, _, ring.idxOf (minI ring), rfl, by rw [emin], hra.sq, idx_get m1, fun m hm => idx_no hm, ?_⟩
      obtain ⟨t1, t2, t3⟩ := turn_rnd rnd
      have eT : turnM ring = ring.drop (ring.idxOf (minI ring)) ++ ring.take (ring.idxOf (minI ring)) := rfl
      have rl : ring.length ≤ 10 := Nat.le_trans (nodup_sub rnd.nd rin) h10
      generalize ring.idxOf (minI ring) = m at hml eT
      refine ⟨.ref ra, rfl, .int (m : Int), rfl, (m : Int), rfl, ra, _, rfl, hra, fun a1 H4 s4 ha1 => ?_⟩
      rw [cut_from ring m (Nat.le_of_lt hml)] at ha1
      refine ⟨.ref ra, rfl, .int (m : Int), rfl, (m : Int), rfl, ra, _, rfl, hra.same s4, fun a2 H5 s5 ha2 => ?_⟩
      rw [cut_to ring m (Nat.le_of_lt hml)] at ha2
      have ha15 := ha1.same s5
      have s15 := ((s1.trans s2).trans s3).trans (s4.trans s5)
      have dne : ring.drop m ≠ [] := fun e => by
        have := congrArg List.length e
        rw [List.length_drop] at this
        simp at this
        omega
      have fin : ∀ (u : Addr) (H6 : Hp), Same H5 H6 → Rd H6 u (.tup ((turnM ring).map V.int)) → Q (.ref u) H6 := by
        intro u H6 s6 hu6
        rw [← eRM] at hu6 t1 t2 t3
        refine q H6 (.ref u) (s15.trans s6) (.inr ⟨u, hs, rfl, hu6, held, hne, t1, fun y hy => held.sub y (rin y ((t2 y).mp hy)), fun y hy => ?_⟩)
        have h0 : (roundM pan hs).headD 0 = minI ring := by
          cases e : roundM pan hs with
          | nil => rw [e] at t3; cases t3
          | cons a b => rw [e] at t3; exact Option.some.inj t3
        rw [h0]; exact m2 y ((t2 y).mp hy)
      refine ⟨a1, a2, _, _, rfl, rfl, ha15.sq, ha2.sq, ?_, fun e => ?_, fun _ e => ?_, fun _ _ u nu => ?_⟩
      · rw [List.length_map, List.length_map, List.length_drop, List.length_take]; exact Nat.le_of_lt (small1000 (by omega))
      · exact absurd (List.map_eq_nil_iff.mp e) dne
      · have e2 : ring.take m = [] := List.map_eq_nil_iff.mp e
        obtain ⟨o, eo, _⟩ := id ha15
        exact fin a1 H5 (Same.refl _) (by rw [eT, e2, List.append_nil]; exact .inr ⟨o, eo⟩)
      · exact fin u _ (same_new nu) (by rw [eT, List.map_append]; exact .inl upd_same)
end
end K20
namespace K20
open PySem PySem.Spec PyProof.Rows L2 Pr
def nOwn : List Str := ["_law_panel_here", "_law_state_here", "_law_value", "_law_one", "_law_k"]
theorem scOwn : FnScope nOwn ["_law_panel_here", "_law_state_here", "_law_value"] (defScope sOwn) := ⟨rfl, rfl, rfl, by decide +kernel, rfl, by decide +kernel, by decide +kernel⟩
theorem rd_ty {K : PySem.W.Frag} {H : Hp} {u : Addr} {xs : List V} (h : Rd H u (.tup xs)) : TyX K H (.ref u) (.type "tuple") := by
  rcases h with h | ⟨o, h⟩
  · exact .base (.tup h)
  · exact .fTuple h
section
variable {P : Program} {w : World} {K : PySem.W.Frag} {mg : Str → Option Value} {base : Heap}
def spOwn (K : PySem.W.Frag) : Sp := fun vs H Q _ => ∃ (p t u : Addr) (pan : List (List Int)) (st R : List Int), vs = [.ref p, .ref t, .ref u] ∧ PanT K H p pan ∧ Good pan ∧ SqT K H t (st.map V.int) ∧ Asc pan.length st ∧ Rd H u (.tup (R.map V.int)) ∧ Rnd pan R ∧ (∀ x ∈ R, x ∈ st) ∧ (∀ y ∈ R, R.headD 0 ≤ y) ∧
  ∀ H', Same H H' → Q (.bl true) H'
theorem ok_own {f : Addr} {fd : FuncData} {k : Nat} (F : Fun K "_law_is_round" "_law_is_round" sOwn f fd) (ml : mg "len" = none) (mr : mg "range" = none) (mt : mg "tuple" = none) (mis : mg "isinstance" = none) (mi : mg "int" = none) (mb : mg "bool" = none) (mse : mg "set" = none) (mm : mg "min" = none) :
    FnOk P w K mg base CX0 (k + 1) f fd ["_law_panel_here", "_law_state_here", "_law_value"] (spOwn K) := by
  refine F.ok scOwn (fun vs H Q E h => ?_) (fun cdv A outer s H vs Q E hr h => ?_)
  · obtain ⟨p, t, u, pan, st, R, rfl, _⟩ := h
    rfl
  · obtain ⟨p, t, u, pan, st, R, rfl, hp, hg, ht, hst, hR, rnd, rin, rmin, q⟩ := h
    refine ⟨_, pss_cons (ps_if (PW.pt (pw_or (pt_not (pt_val (pe_callB call_isi (by rfl) mis (by decide +kernel) (pa_cons (pv 2) (pa_cons (pe_bltn (v := .ty "tuple") (by rfl) mt (by decide +kernel) rfl) pa_nil)))))
        (pw_or1 (pt_cmpR op_lt (pe_callB call_len_seq (by rfl) ml PySem.boot_len (pa_cons (pv 2) pa_nil)) pe_int (nomark _))))) (pss_one (ps_ret pe_bl)) pss_nil)
      (pss_cons (ps_if (pt_cmpR (op_neE1 hr.units) (pe_lc (own := [("_law_one", 3)]) (g := gName 3) rfl scOwn.nd (pi_tup (pv 2))
            (blkOk_by (own := [("_law_one", 3)]) (N := nOwn) (sc := defScope sOwn) (by decide +kernel)) (fun _ _ _ _ _ => pg_name (i := 3) scOwn.nd rfl (Or.inl rfl))
            (fun _ _ _ _ _ => pts_one (PW.pt (pw_or (pt_not (pt_val (pe_callB (show CallR _ _ (rIsi K) from call_isi) (by rfl) mis (by decide +kernel) (pa_cons (pv 3) (pa_cons (pe_bltn (v := .ty "int") (by rfl) mi (by decide +kernel) rfl) pa_nil)))))
              (pw_or (pt_val (pe_callB (show CallR _ _ (rIsi K) from call_isi) (by rfl) mis (by decide +kernel) (pa_cons (pv 3) (pa_cons (pe_bltn (v := .ty "bool") (by rfl) mb (by decide +kernel) rfl) pa_nil))))
              (pw_or1 (pt_cmpR (show OpR _ _ (rIn K true) from op_notIn_seq) (pv 3) (pv 1) (by rfl)))))))
            (fun _ _ _ _ _ => pv 3)) (pe_lst pa_nil) (nomark _)) (pss_one (ps_ret pe_bl)) pss_nil)
      (pss_cons (ps_if (PW.pt (pw_or (pt_cmpR op_ne (pe_callB cr_lenSet (by rfl) ml PySem.boot_len (pa_cons (pe_callTy (cr_setT rfl) (by rfl) mse (by decide +kernel) (pa_cons (pv 2) pa_nil)) pa_nil)) (pe_callB call_len_seq (by rfl) ml PySem.boot_len (pa_cons (pv 2) pa_nil)) (nomark _))
        (pw_or1 (pt_cmpR op_ne (pe_ix ix_tup (pv 2) pe_int (fun _ _ => rfl)) (pe_callB (cr_minT rfl hr.units) (by rfl) mm (by decide +kernel) (pa_cons (pv 2) pa_nil)) (nomark _))))) (pss_one (ps_ret pe_bl)) pss_nil)
      (pss_one (ps_ret (pe_cmpR (op_eqE1 hr.units) (pe_lc (own := [("_law_k", 4)]) (g := gName 4) rfl scOwn.nd (pi_range1 (by rfl) mr (pa_cons (pe_callB call_len_seq (by rfl) ml PySem.boot_len (pa_cons (pv 2) pa_nil)) pa_nil))
            (blkOk_by (own := [("_law_k", 4)]) (N := nOwn) (sc := defScope sOwn) (by decide +kernel)) (fun _ _ _ _ _ => pg_name (i := 4) scOwn.nd rfl (Or.inl rfl))
            (fun _ _ _ _ _ => pts_one (pt_cmpR (show OpR _ _ (rIn K true) from op_notIn_seq) (pe_ix (show IxR _ (rIxT K) from ix_tup) (pv 2) (pv 4) (fun _ _ => rfl)) (pe_ix (show IxR _ (rIxT K) from ix_tup) (pv 0) (pe_ix (show IxR _ (rIxT K) from ix_tup) (pv 2) (pe_op op_sub (pv 4) pe_int) (fun _ _ => rfl)) (fun _ _ => rfl)) (by rfl)))
            (fun _ _ _ _ _ => pv 4)) (pe_lst pa_nil) (nomark _)))))), ?_⟩
    have few := hg.few
    have hRs : SqT K H u (R.map V.int) := .inl hR
    have two := rnd.two
    have hne : R ≠ [] := fun e => by rw [e] at two; simp at two
    have rl : R.length ≤ 10 := Nat.le_trans (nodup_sub rnd.nd rin) (Nat.le_trans hst.len few)
    have rrng : ∀ x ∈ R, 0 ≤ x ∧ x < (pan.length : Int) := fun x hx => hst.rng x (rin x hx)
    refine ⟨.ref u, rfl, .ref u, .ty "tuple", _, .type "tuple", true, rfl, .ty _, rd_ty hR, kit_ty (by decide +kernel), true, rfl, iteF ⟨.ref u, rfl, u, _, rfl, .inr hRs, _, 2, rfl, rfl, _, rfl, ?_⟩⟩
    rw [decide_eq_false (by rw [List.length_map]; omega)]
    refine iteF ?_
    -- the items
    refine ⟨.ref u, rfl, u, rfl, ⟨_, hRs⟩, fun D nD => ?_⟩
    refine lc_tup (xs := R.map V.int) (fun i H3 => Same H H3 ∧ H3 D = some (.lst [])) ⟨same_new nD, upd_same⟩ (fun i H3 _ hP => same_sqT hP.1 hRs) (fun i x H3 hx hP => ?_) (fun H3 hP => ?_)
    · obtain ⟨s3, eD⟩ := hP
      obtain ⟨z, hz, rfl⟩ := int_get hx
      have hzs := rin z (List.mem_of_getElem? hz)
      refine ⟨rfl, .int z, rfl, .int z, .ty "int", _, .type "int", true, rfl, .ty _, .base (.int z), kit_ty (by decide +kernel), true, rfl, iteF ⟨.int z, rfl, .int z, .ty "bool", _, .type "bool", false, rfl, .ty _, .base (.int z), kit_ty (by decide +kernel), false, rfl, iteF ⟨.int z, rfl, .ref t, rfl, t, _, rfl, .inr (same_sqT s3 ht), rfl, flat_ints _, _, rfl, ?_⟩⟩⟩
      rw [if_pos rfl, inV_ints, decide_eq_true hzs]
      exact iteF ⟨s3, eD⟩
    obtain ⟨s3, eD⟩ := hP
    refine ⟨Nat.zero_le _, fun E0 nE0 => ?_⟩
    have sE : Same H3 (upd H3 E0 (.lst [])) := same_new nE0
    refine ⟨D, E0, _, rfl, rfl, sE _ _ eD, upd_same, _, rfl, iteF ?_⟩
    have s4 := s3.trans sE
    -- how many
    have hR4 := same_sqT s4 hRs
    refine ⟨.ref u, rfl, u, R, rfl, hR4, by omega, fun l n ks nl nd mem len => ?_⟩
    have en : n = R.length := by
      rw [← len]
      exact Nat.le_antisymm (nodup_sub nd fun x hx => (mem x).mp hx) (nodup_sub rnd.nd fun x hx => (mem x).mpr hx)
    subst en
    have s5 := s4.trans (same_new (o := SetO w l (fun j => decide (j ∈ R)) R.length) nl)
    have hR5 := same_sqT s5 hRs
    refine ⟨l, _, R.length, rfl, upd_same, .ref u, rfl, u, _, rfl, .inr hR5, rfl, _, rfl, iteNS (by rw [List.length_map]) ?_⟩
    -- the least
    obtain ⟨y0, ys, ery⟩ : ∃ y0 ys, R = y0 :: ys := by
      cases R with
      | nil => exact absurd rfl hne
      | cons a b => exact ⟨a, b, rfl⟩
    have emin : ys.foldl min y0 = y0 := by
      have h1 : ys.foldl min y0 = minI R := by rw [ery]; rfl
      rw [h1]
      refine minI_uniq (by rw [ery]; exact List.mem_cons_self) fun y hy => ?_
      have := rmin y hy
      rw [ery] at this; exact this
    refine ⟨.ref u, rfl, u, _, 0, .int y0, rfl, rfl, hR5, by rw [ery]; exact atI_nat (j := 0) rfl, .ref u, rfl, u, y0, ys, rfl, by rw [← ery]; exact hR5, rfl, _, rfl, iteNS (by rw [emin]) ?_⟩
    -- the links
    refine ⟨.ref u, rfl, u, _, rfl, .inr hR5, _, rfl, by rw [List.length_map]; omega, by rw [List.length_map]; omega, fun D2 nD2 => ?_⟩
    rw [List.length_map]
    refine lc_range (n := R.length) (fun i H6 => Same H H6 ∧ H6 D2 = some (.lst [])) ⟨(s4.trans (same_new nl)).trans (same_new nD2), upd_same⟩ (fun i H6 hi hP => ?_) (fun H6 hP => ?_)
    · obtain ⟨s6, eD2⟩ := hP
      rw [Int.zero_add]
      have s56 := s6
      have hR6 := same_sqT s56 hRs
      have gy : R[i]? = some R[i] := List.getElem?_eq_getElem hi
      obtain ⟨x, hx1, hx2, hx3⟩ : ∃ x : Int, atI (R.map V.int) ((i : Int) - 1) = some (.int x) ∧ R[i] ∈ pan.getD x.toNat [] ∧ x ∈ R := by
        by_cases h0 : i = 0
        · subst h0
          refine ⟨R.getLastD 0, at_last hne, rnd.back _ _ (last_get hne) gy, List.mem_of_getElem? (last_get hne)⟩
        · have hi1 : i - 1 < R.length := by omega
          have g1 : R[i - 1]? = some R[i - 1] := List.getElem?_eq_getElem hi1
          refine ⟨R[i - 1], ?_, rnd.link (i - 1) _ _ g1 (by rw [show i - 1 + 1 = i by omega]; exact gy), List.getElem_mem hi1⟩
          rw [show (i : Int) - 1 = ((i - 1 : Nat) : Int) by omega]
          exact atI_nat (by rw [List.getElem?_map, g1]; rfl)
      have xr := rrng x hx3
      obtain ⟨qs, q', hq, ha, hr', _⟩ := panT_at (hp.same s56) xr.1 xr.2
      refine ⟨rfl, .ref u, rfl, .int (i : Int), rfl, u, _, _, .int R[i], rfl, rfl, hR6, atI_nat (by rw [List.getElem?_map, gy]; rfl), .ref p, rfl, .ref u, rfl, .int (i : Int), rfl, (i : Int), 1, rfl, rfl, u, _, _, .int x, rfl, rfl, hR6, hx1, p, _, _, .ref q', rfl, rfl, hq, ha, q', _, rfl, .inr hr', rfl, flat_ints _, _, rfl, ?_⟩
      rw [if_pos rfl, inV_ints, decide_eq_true hx2]
      exact iteF ⟨s6, eD2⟩
    · obtain ⟨s6, eD2⟩ := hP
      refine ⟨Nat.zero_le _, fun E1 nE1 => ?_⟩
      have sE1 : Same H6 (upd H6 E1 (.lst [])) := same_new nE1
      exact ⟨D2, E1, _, rfl, rfl, sE1 _ _ eD2, upd_same, q _ (s6.trans sE1)⟩
end
end K20
namespace K20
open PySem PySem.Spec PyProof.Rows L2 Pr
def nLaw : List Str := ["_law_script", "_law_deck_here", "_law_turn", "_law_panel_here", "_law_state_here", "_law_shown", "_law_found", "_law_reach_here", "_law_button"]
theorem scLaw : FnScope nLaw ["_law_script"] (defScope sLaw) := ⟨rfl, rfl, rfl, by decide +kernel, rfl, by decide +kernel, by decide +kernel⟩
theorem shw_row {row : List Int} {n : Int} (hn : n ≤ 10) (hl : row.length ≤ 60) (h : ∀ x ∈ row, 0 ≤ x ∧ x < n) : Shw 1 183 (dInts row) :=
  shw_ints (m := 60) hl fun x hx => ⟨(h x hx).1, by have := (h x hx).2; omega⟩
theorem shw_two {d1 d2 : PyData} (h1 : Shw 2 353 d1) (h2 : Shw 2 353 d2) : Shw 3 713 (.list [d1, d2]) := by
  refine Shw.list (n := 353) (m := 2) (fun d hd => ?_) (Nat.le_refl _)
  rcases (show d = d1 ∨ d = d2 by simpa using hd) with rfl | rfl
  · exact h1
  · exact h2
theorem pick2 {y : Int} (h0 : 0 ≤ y) (h1 : y < 2) : ∃ v : Int, atI [V.int 10, .int 5] y = some (.int v) ∧ 1 ≤ v ∧ v ≤ 10 := by
  obtain rfl | rfl : y = 0 ∨ y = 1 := by omega
  · exact ⟨10, rfl, by decide, by decide⟩
  · exact ⟨5, rfl, by decide, by decide⟩
theorem rg_intL (n : Nat) : rgV 0 (n : Int) = (intL n).map V.int := by
  unfold rgV intL
  rw [List.map_map]
  show List.map _ (List.range ((n : Int) - 0).toNat) = _
  rw [show ((n : Int) - 0).toNat = n by omega]
  exact List.map_congr_left fun i _ => congrArg V.int (Int.zero_add _)
theorem dqAll_ints {K : PySem.W.Frag} {N : Addr → Prop} {H : Hp} : ∀ l : List Int, DqAll K N H (l.map V.int) (l.map PyData.int)
  | [] => .nil
  | x :: r => .cons (.int x) (dqAll_ints r)
theorem fnd_data {K : PySem.W.Frag} {pan : List (List Int)} {st : List Int} {H : Hp} {v : V} (hg : Good pan) (hst : Asc pan.length st) (h : Fnd pan st H v) :
    ∃ d : PyData, Shq 60 sizeLine d ∧ Dq K (fun _ => False) H v d ∧ ∀ (H2 : Hp) (v2 : V), Fnd pan st H2 v2 → Dq K (fun _ => False) H2 v2 d := by
  have few := hg.few
  rcases h with ⟨rfl, h1⟩ | ⟨u, hs, rfl, h2, h3, h4, h5, h6, h7⟩
  · refine ⟨.none, ⟨by simp only [PyData.showable], by simp [PyData.depth], by simp only [PyData.shown]; decide +kernel⟩, .non, fun H2 v2 g => ?_⟩
    rcases g with ⟨rfl, _⟩ | ⟨u2, hs2, _, _, g3, g4, _⟩
    · exact .non
    · exact absurd (g3.uniq h1) g4
  · have rl : (roundM pan hs).length ≤ 10 := Nat.le_trans (nodup_sub h5.nd h6) (Nat.le_trans hst.len few)
    have sh := shw_row (row := roundM pan hs) (n := (pan.length : Int)) (by omega) (by omega) fun x hx => hst.rng x (h6 x hx)
    refine ⟨dInts (roundM pan hs), (sh.q).mono (by decide) (by decide), .tup (.inl h2) (dqAll_ints _), fun H2 v2 g => ?_⟩
    rcases g with ⟨rfl, g1⟩ | ⟨u2, hs2, rfl, g2, g3, g4, _⟩
    · exact absurd (h3.uniq g1) h4
    · rw [h3.uniq g3]
      exact .tup (.inl g2) (dqAll_ints _)
section
variable {P : Program} {w : World} {K : PySem.W.Frag} {mg : Str → Option Value} {base : Heap}
def spLaw (K : PySem.W.Frag) : Sp := fun vs H Q _ => ∃ (s : Addr) (ns : List Int), vs = [.ref s] ∧ SqL K H s (ns.map V.int) ∧ ns.length ≤ 63 ∧ ∀ H', Q (.bl true) H'
theorem ok_law {f fY fH fW fZ fS fD fA fT fR fO : Addr} {fd fdY fdH fdW fdZ fdS fdD fdA fdT fdR fdO : FuncData} (F : Fun K "law" "law" sLaw f fd)
    (FY : Fun K "releases_any" "releases_any" sAny fY fdY) (bY : Binds K fdY ["panel", "button", "others"] []) (gY : mg "releases_any" = some (.ref fY))
    (FH : Fun K "held_buttons" "held_buttons" sHeld fH fdH) (bH : Binds K fdH ["panel", "state"] []) (gH : mg "held_buttons" = some (.ref fH))
    (FW : Fun K "held_walk" "held_walk" sWalk fW fdW) (bW : Binds K fdW ["panel", "held", "first"] []) (gW : mg "held_walk" = some (.ref fW))
    (FZ : Fun K "find_round" "find_round" sRound fZ fdZ) (bZ : Binds K fdZ ["panel", "state"] []) (gZ : mg "find_round" = some (.ref fZ))
    (FS : Fun K "_law_deck" "_law_deck" sDeck fS fdS) (bS : Binds K fdS ["_law_script"] []) (gS : mg "_law_deck" = some (.ref fS))
    (FD : Fun K "_law_draw" "_law_draw" sDraw fD fdD) (bD : Binds K fdD ["_law_deck_here", "_law_many"] []) (gD : mg "_law_draw" = some (.ref fD))
    (FA : Fun K "_law_panel" "_law_panel" sPanel fA fdA) (bA : Binds K fdA ["_law_deck_here", "_law_most"] []) (gA : mg "_law_panel" = some (.ref fA))
    (FT : Fun K "_law_state" "_law_state" sState fT fdT) (bT : Binds K fdT ["_law_deck_here", "_law_n"] []) (gT : mg "_law_state" = some (.ref fT))
    (FR : Fun K "_law_reach" "_law_reach" sReach fR fdR) (bR : Binds K fdR ["_law_panel_here", "_law_state_here"] []) (gR : mg "_law_reach" = some (.ref fR))
    (FO : Fun K "_law_is_round" "_law_is_round" sOwn fO fdO) (bO : Binds K fdO ["_law_panel_here", "_law_state_here", "_law_value"] []) (gO : mg "_law_is_round" = some (.ref fO))
    (ml : mg "len" = none) (mr : mg "range" = none) (mt : mg "tuple" = none) (mli : mg "list" = none) (my : mg "any" = none) (mp : mg "repr" = none) (mse : mg "set" = none) (mso : mg "sorted" = none) (ma : mg "abs" = none) (mm : mg "min" = none) (mis : mg "isinstance" = none) (mi : mg "int" = none) (mb : mg "bool" = none) : FnG P w K mg base 4 f fd ["_law_script"] (spLaw K) := by
  have GZ : FnOk P w K mg base CX0 3 fZ fdZ ["panel", "state"] (spRound K) := ok_round FZ FY bY gY FH bH gH FW bW gW ml mt my mm
  have GS : FnOk P w K mg base CX0 3 fS fdS ["_law_script"] (spDeck K) := ok_deck FS ma
  have GA : FnOk P w K mg base CX0 3 fA fdA ["_law_deck_here", "_law_most"] spPanel := ok_panel FA FD bD gD ml mr mt
  have GT : FnOk P w K mg base CX0 3 fT fdT ["_law_deck_here", "_law_n"] spState := ok_state FT FD bD gD ml mr mt
  have GR : FnOk P w K mg base CX0 3 fR fdR ["_law_panel_here", "_law_state_here"] (spReach K) := ok_reach FR ml mr mli mse mso
  have GO : FnOk P w K mg base CX0 3 fO fdO ["_law_panel_here", "_law_state_here", "_law_value"] (spOwn K) := ok_own FO ml mr mt mis mi mb mse mm
  refine okG F scLaw (fun vs H Q E h => ?_) (fun cdv A outer s H vs Q E gd hr h => ?_)
  · obtain ⟨s, ns, rfl, _⟩ := h
    rfl
  · obtain ⟨sc, ns, rfl, hS, hlen, q⟩ := h
    refine ⟨_, pss_cons (ps_set (i := 1) scLaw.nd rfl (.inl rfl) (pe_call GS hr (by rfl) gS FS.kp bS .nil pass0 (pa_cons (pv 0) pa_nil)))
      (pss_cons (ps_for PassesOwn.never rfl (pi_range1 (by rfl) mr (pa_cons pe_int pa_nil)) (pg_name (i := 2) scLaw.nd rfl (.inl rfl))
        (pss_cons (ps_set (i := 3) scLaw.nd rfl (.inl rfl) (pe_call GA hr (by rfl) gA FA.kp bA .nil pass0 (pa_cons (pv 1) (pa_cons (pe_ix ix_list (pe_lst (pa_cons pe_int (pa_cons pe_int pa_nil))) (pe_op op_mod (pv 2) pe_int) (fun _ _ => rfl)) pa_nil))))
        (pss_one (ps_for PassesOwn.never rfl (pi_list (pe_lst (pa_cons (pe_call GT hr (by rfl) gT FT.kp bT .nil pass0 (pa_cons (pv 1) (pa_cons (pe_callB call_len_seq (by rfl) ml PySem.boot_len (pa_cons (pv 3) pa_nil)) pa_nil)))
            (pa_cons (pe_tupRg rfl (by rfl) mt (prg_1 (by rfl) mr (pe_callB call_len_seq (by rfl) ml PySem.boot_len (pa_cons (pv 3) pa_nil))))
            (pa_cons (pe_call GT hr (by rfl) gT FT.kp bT .nil pass0 (pa_cons (pv 1) (pa_cons (pe_callB call_len_seq (by rfl) ml PySem.boot_len (pa_cons (pv 3) pa_nil)) pa_nil)))
            (pa_cons (pe_tup pa_nil) pa_nil)))))) (pg_name (i := 4) scLaw.nd rfl (.inl rfl))
          (pss_cons (ps_par (i := 5) (j := 6) rfl scLaw.nd rfl rfl (by decide) rfl rfl (pa_cons (pe_callB (call_repr gd hr) (by rfl) mp (by decide +kernel) (pa_cons (pe_lst (pa_cons (pv 3) (pa_cons (pv 4) pa_nil))) pa_nil))
              (pa_cons (pe_call GZ hr (by rfl) gZ FZ.kp bZ .nil pass0 (pa_cons (pv 3) (pa_cons (pv 4) pa_nil))) pa_nil)) (by rfl))
          (pss_cons (ps_set (i := 7) scLaw.nd rfl (.inr rfl) (pe_call GR hr (by rfl) gR FR.kp bR .nil pass0 (pa_cons (pv 3) (pa_cons (pv 4) pa_nil))))
          (pss_cons (ps_if (pt_cmpR (op_eqE1 hr.units) (pe_lc (own := [("_law_button", 8)]) (g := gName 8) rfl scLaw.nd (pi_tup (pv 4))
                (blkOk_by (own := [("_law_button", 8)]) (N := nLaw) (sc := defScope sLaw) (by decide +kernel)) (fun _ _ _ _ _ => pg_name (i := 8) scLaw.nd rfl (Or.inl rfl))
                (fun _ _ _ _ _ => pts_one (pt_cmpR (show OpR _ _ (rIn K false) from op_in_seq) (pv 8) (pe_ix (show IxR _ (rIxL K) from ix_list) (pv 7) (pv 8) (fun _ _ => rfl)) (by rfl)))
                (fun _ _ _ _ _ => pv 8)) (pe_lst pa_nil) (nomark _))
            (pss_one (ps_if (pt_cmpR op_notN (pv 6) pe_non (nomark _)) (pss_one (ps_ret pe_bl)) pss_nil))
            (pss_one (ps_if (pt_not (pt_val (pe_call GO hr (by rfl) gO FO.kp bO .nil pass0 (pa_cons (pv 3) (pa_cons (pv 4) (pa_cons (pv 6) pa_nil)))))) (pss_one (ps_ret pe_bl)) pss_nil)))
          (pss_one (ps_if (PW.pt (pw_or (pt_cmpR op_ne (pe_callB (call_reprQ gd hr) (by rfl) mp (by decide +kernel) (pa_cons (pe_call GZ hr (by rfl) gZ FZ.kp bZ .nil pass0 (pa_cons (pv 3) (pa_cons (pv 4) pa_nil))) pa_nil)) (pe_callB (call_reprQ gd hr) (by rfl) mp (by decide +kernel) (pa_cons (pv 6) pa_nil)) (nomark _))
              (pw_or1 (pt_cmpR op_ne (pe_callB (call_repr gd hr) (by rfl) mp (by decide +kernel) (pa_cons (pe_lst (pa_cons (pv 3) (pa_cons (pv 4) pa_nil))) pa_nil)) (pv 5) (nomark _)))))
            (pss_one (ps_ret pe_bl)) pss_nil)))))))))
      (pss_one (ps_ret pe_bl))), ?_⟩
    refine ⟨.ref sc, rfl, sc, ns, rfl, hS, hlen, fun H1 a c s1 D1 => ?_⟩
    refine ⟨8, rfl, by decide, by decide, ?_⟩
    refine for_range (n := 8) (fun i σ H2 => Deck H2 a c (8000 - 500 * i) ∧ ∃ x2 x3 x4 x5 x6 x7 x8, σ = [some (.ref sc), some (.ref a), x2, x3, x4, x5, x6, x7, x8]) ⟨D1.less (by omega), none, none, none, none, none, none, none, rfl⟩ (fun i σ H2 hi hP => ?_) (fun σ H2 hP => ?_)
    · obtain ⟨D2, x2, x3, x4, x5, x6, x7, x8, rfl⟩ := hP
      obtain ⟨v, hv, v1, v10⟩ := pick2 (y := (0 + (i : Int)) % 2) (Int.emod_nonneg _ (by decide)) (Int.emod_lt_of_pos _ (by decide))
      refine ⟨.ref a, rfl, by show 2 ≤ sizeLine; decide, fun L nL => ⟨.int (0 + (i : Int)), rfl, _, 2, rfl, rfl, (by show (0 : Int) < 2; decide), L, _, _, .int v, rfl, rfl, .inl (.inl upd_same), hv, a, c, 8000 - 500 * i - 200, v, rfl, (D2.same (same_new nL)).less (by omega), v1, v10, fun H3 p pan b3 D3 hp hg _ => ?_⟩⟩
      have few := hg.few
      have pos := hg.pos
      have shp := hg.shw
      obtain ⟨qs, hq, hqs⟩ := id hp
      have hl : (qs.map V.ref).length = pan.length := by rw [List.length_map, hqs.length]
      refine ⟨.ref a, rfl, .ref p, rfl, p, _, rfl, .inr hq.sq, a, c, 8000 - 500 * i - 220, pan.length, by rw [hl]; rfl, D3.less (by omega), few, fun H4 t1 st1 b4 D4 ht1 ha1 => ?_⟩
      have hp4 := hp.but D3 b4
      have hq4 := hq.but D3 b4
      refine ⟨.ref p, rfl, p, _, rfl, .inr hq4.sq, _, rfl, ?_⟩
      rw [hl]
      refine ⟨RgOk.of_le (by decide) (by omega) (by decide) (by omega), fun T1 n1 => ?_⟩
      rw [rg_intL]
      have s5 : Same H4 (upd H4 T1 (.tup ((intL pan.length).map V.int))) := same_new n1
      have D5 := D4.same s5
      have hq5 := hq4.same s5
      refine ⟨.ref a, rfl, .ref p, rfl, p, _, rfl, .inr hq5.sq, a, c, 8000 - 500 * (i + 1), pan.length, by rw [hl]; rfl, D5.less (by omega), few, fun H6 t2 st2 b6 D6 ht2 ha2 => ?_⟩
      have hp6 := (hp4.same s5).but D5 b6
      have e16 := tup_but D5 b6 (upd_same (a := T1))
      have ht16 := (ht1.same s5).but D5 b6
      refine ⟨Nat.zero_le _, fun T0 n0 => ?_⟩
      have s7 : Same H6 (upd H6 T0 (.tup [])) := same_new n0
      refine ⟨by show 4 ≤ sizeLine; decide, fun L nL => ?_⟩
      have sL : Same (upd H6 T0 (.tup [])) (upd (upd H6 T0 (.tup [])) L (.lst [.ref t1, .ref T1, .ref t2, .ref T0])) := same_new nL
      have s8 := s7.trans sL
      have hp8 : PanT K (upd (upd H6 T0 (.tup [])) L (.lst [.ref t1, .ref T1, .ref t2, .ref T0])) p pan := (hp6.same s8).t
      have D8 := D6.same s8
      have states : ∀ (j : Nat) (x : V), ([.ref t1, .ref T1, .ref t2, .ref T0] : List V)[j]? = some x → ∃ (t : Addr) (st : List Int), x = .ref t ∧ SqT K (upd (upd H6 T0 (.tup [])) L (.lst [.ref t1, .ref T1, .ref t2, .ref T0])) t (st.map V.int) ∧ Asc pan.length st := by
        intro j x hx
        match j, hx with
        | 0, hx => cases hx; exact ⟨t1, st1, rfl, (ht16.same s8).sq, ha1⟩
        | 1, hx => cases hx; exact ⟨T1, intL pan.length, rfl, .inl (.inl (s8 _ _ e16)), Asc.full _⟩
        | 2, hx => cases hx; exact ⟨t2, st2, rfl, (ht2.same s8).sq, ha2⟩
        | 3, hx => cases hx; exact ⟨T0, [], rfl, .inl (.inl (sL _ _ upd_same)), Asc.nil _⟩
      generalize hHL : upd (upd H6 T0 (.tup [])) L (.lst [.ref t1, .ref T1, .ref t2, .ref T0]) = HL at hp8 D8 states ⊢
      have eL : HL L = some (.lst [.ref t1, .ref T1, .ref t2, .ref T0]) := by rw [← hHL]; exact upd_same
      refine ⟨L, rfl, ⟨_, .inl (.inl eL)⟩, ?_⟩
      refine for_list (xs := [.ref t1, .ref T1, .ref t2, .ref T0]) (fun j σ H9 => Same HL H9 ∧ ∃ x4 x5 x6 x7 x8, σ = [some (.ref sc), some (.ref a), some (.int (0 + (i : Int))), some (.ref p), x4, x5, x6, x7, x8])
        ⟨Same.refl _, _, _, _, _, _, rfl⟩ (fun j σ H9 _ hP => hP.1.seq (.inl (.inl eL))) (fun j x σ H9 hx hP => ?_) (fun σ H9 hP => ?_)
      · obtain ⟨s9, x4, x5, x6, x7, x8, rfl⟩ := hP
        obtain ⟨t, st, rfl, ht0, hst⟩ := states j x hx
        have hp9 := hp8.same s9
        have ht := same_sqT s9 ht0
        have stl := hst.len
        have sh2 : Shw 3 713 (.list [dPan pan, dInts st]) := shw_two shp ((shw_row (n := (pan.length : Int)) (by omega) (by omega) hst.rng).mono (by decide) (by decide))
        refine ⟨.ref p, rfl, .ref t, rfl, by show 2 ≤ sizeLine; decide, fun B nB => ?_⟩
        have sB : Same H9 (upd H9 B (.lst [.ref p, .ref t])) := same_new nB
        refine ⟨B, .list [dPan pan, dInts st], rfl, .lst (.inl (.inl upd_same)) (.cons (hp9.same sB).dp (.cons (dp_ints (same_sqT sB ht)) .nil)), sh2.sh, sh2.nd, Nat.le_trans sh2.dp (by decide), Nat.le_trans sh2.ln (by decide), ?_⟩
        refine ⟨.ref p, rfl, .ref t, rfl, p, t, pan, st, rfl, hp9.same sB, hg, same_sqT sB ht, hst, fun H10 fv s10 hfv => ⟨_, _, rfl, ?_⟩⟩
        have s910 := sB.trans s10
        refine ⟨.ref p, rfl, .ref t, rfl, p, t, pan, st, rfl, hp9.same s910, hg, same_sqT s910 ht, hst, fun H11 R rs rows s11 eR hrs rch h10 => ?_⟩
        have s911 := s910.trans s11
        have ht11 := same_sqT s911 ht
        have rlen := rch.len
        have at_row : ∀ z ∈ st, ∃ r : Addr, atI (rs.map V.ref) z = some (.ref r) ∧ H11 r = some (.lst ((rows.getD z.toNat []).map V.int)) := fun z hz => by
          have zr := hst.rng z hz
          obtain ⟨zn, rfl⟩ : ∃ zn : Nat, z = (zn : Int) := ⟨z.toNat, (Int.toNat_of_nonneg zr.1).symm⟩
          have hzn : zn < rows.length := by omega
          obtain ⟨r, h1, h2⟩ := paired_get hrs zn rows[zn] (List.getElem?_eq_getElem hzn)
          have gD : rows.getD ((zn : Int)).toNat [] = rows[zn] := by rw [Int.toNat_natCast, List.getD_eq_getElem?_getD, List.getElem?_eq_getElem hzn]; rfl
          exact ⟨r, atI_nat (by rw [List.getElem?_map, h1]; rfl), by rw [gD]; exact h2⟩
        -- the loops
        refine ⟨.ref t, rfl, t, rfl, ⟨_, ht11⟩, fun D nD => ?_⟩
        refine lc_tup (xs := st.map V.int) (fun k H12 => Same H11 H12 ∧ H12 D = some (.lst (((st.take k).filter fun z => decide (z ∈ rows.getD z.toNat [])).map V.int))) ⟨same_new nD, upd_same⟩ (fun k H12 _ hP => same_sqT hP.1 ht11) (fun k x H12 hx hP => ?_) (fun H12 hP => ?_)
        · obtain ⟨s12, eD⟩ := hP
          obtain ⟨z, hz, rfl⟩ := int_get hx
          obtain ⟨r, h1, h2⟩ := at_row z (List.mem_of_getElem? hz)
          have step := filt_take (f := fun z => decide (z ∈ rows.getD z.toNat [])) hz
          have fl := List.length_filter_le (fun z => decide (z ∈ rows.getD z.toNat [])) (st.take k)
          rw [List.length_take] at fl
          refine ⟨rfl, .int z, rfl, .ref R, rfl, .int z, rfl, R, _, _, .ref r, rfl, rfl, .inl (.inl (s12 _ _ eR)), h1, r, _, rfl, .inl (.inl (.inl (s12 _ _ h2))), rfl, flat_ints _, _, rfl, ?_⟩
          rw [if_neg Bool.false_ne_true, inV_ints]
          refine ite2 (fun e => ?_) (fun e => ?_)
          · refine ⟨.int z, rfl, _, eD, by rw [List.length_map]; exact small1000 (by omega), fun b o e' => ?_, ?_⟩
            · rw [upd_ne (ne_of_none e' nD)]
              exact s12 _ _ e'
            · rw [upd_same, step, if_pos e, List.map_append]; rfl
          · refine ⟨s12, ?_⟩
            rw [step, if_neg e, List.append_nil]; exact eD
        obtain ⟨s12, eD⟩ := hP
        rw [List.length_map, List.take_length] at eD
        refine ⟨Nat.zero_le _, fun E0 nE0 => ?_⟩
        have sE : Same H12 (upd H12 E0 (.lst [])) := same_new nE0
        refine ⟨D, E0, _, rfl, rfl, sE _ _ eD, upd_same, _, rfl, ?_⟩
        have s913 := (s911.trans s12).trans sE
        have s1013 := (s11.trans s12).trans sE
        have hfv13 := hfv.same s1013
        have none_or : (fv = .non ∧ ((st.filter fun z => decide (z ∈ rows.getD z.toNat [])).map V.int).isEmpty = true) ∨ ((∃ (u : Addr) (Rr : List Int), fv = .ref u ∧ Rd (upd H12 E0 (.lst [])) u (.tup (Rr.map V.int)) ∧ Rnd pan Rr ∧ (∀ x ∈ Rr, x ∈ st) ∧ ∀ y ∈ Rr, Rr.headD 0 ≤ y) ∧ ((st.filter fun z => decide (z ∈ rows.getD z.toNat [])).map V.int).isEmpty = false) := by
          rcases hfv13 with ⟨rfl, h1⟩ | ⟨u, hs, rfl, h2, h3, h4, h5, h6, h7⟩
          · refine .inl ⟨rfl, ?_⟩
            rw [List.isEmpty_map, List.isEmpty_iff, List.filter_eq_nil_iff]
            intro z hz hm
            have := (rch.held (le_two_pow _) hst.rng h1 hz).mpr ⟨z, of_decide_eq_true hm, hz, of_decide_eq_true hm⟩
            cases this
          · refine .inr ⟨⟨u, _, rfl, h2, h5, h6, h7⟩, ?_⟩
            obtain ⟨x, hx⟩ := List.exists_mem_of_ne_nil hs h4
            obtain ⟨l, _, g2, g3⟩ := (rch.held (le_two_pow _) hst.rng h3 (h3.sub x hx)).mp hx
            have hm : l ∈ st.filter (fun z => decide (z ∈ rows.getD z.toNat [])) := List.mem_filter.mpr ⟨g2, decide_eq_true g3⟩
            rw [List.isEmpty_map]
            cases e : st.filter (fun z => decide (z ∈ rows.getD z.toNat [])) with
            | nil => rw [e] at hm; cases hm
            | cons a b => rfl
        obtain ⟨d, shd, dq1, dq2⟩ := fnd_data (K := K) hg hst hfv13
        rcases none_or with ⟨rfl, he⟩ | ⟨⟨u, Rr, rfl, g1, g2, g3, g4⟩, he⟩
        · rw [he]
          refine iteT ⟨.non, rfl, rfl, _, rfl, iteF ?_⟩
          refine ⟨.ref p, rfl, .ref t, rfl, p, t, pan, st, rfl, hp9.same s913, hg, same_sqT s913 ht, hst, fun H14 fv2 s14 hfv2 => ?_⟩
          have s914 := s913.trans s14
          refine ⟨fun _ => False, fv2, d, rfl, dq2 H14 fv2 hfv2, shd, .non, rfl, fun _ => False, .non, d, rfl, dq2 H14 .non (hfv13.same s14), shd, rfl, _, rfl, iteNS rfl ?_⟩
          refine ⟨.ref p, rfl, .ref t, rfl, by show 2 ≤ sizeLine; decide, fun B2 nB2 => ?_⟩
          have sB2 := s914.trans (same_new (o := .lst [.ref p, .ref t]) nB2)
          refine ⟨B2, .list [dPan pan, dInts st], rfl, .lst (.inl (.inl upd_same)) (.cons (hp9.same sB2).dp (.cons (dp_ints (same_sqT sB2 ht)) .nil)), sh2.sh, sh2.nd, Nat.le_trans sh2.dp (by decide), Nat.le_trans sh2.ln (by decide), _, rfl, rfl, _, rfl, iteNS rfl ?_⟩
          exact ⟨s9.trans sB2, _, _, _, _, _, rfl⟩
        · rw [he]
          refine iteF ⟨.ref p, rfl, .ref t, rfl, .ref u, rfl, p, t, u, pan, st, Rr, rfl, hp9.same s913, hg, same_sqT s913 ht, hst, g1, g2, g3, g4, fun H13 s13 => ⟨true, rfl, iteF ?_⟩⟩
          have s913' := s913.trans s13
          refine ⟨.ref p, rfl, .ref t, rfl, p, t, pan, st, rfl, hp9.same s913', hg, same_sqT s913' ht, hst, fun H14 fv2 s14 hfv2 => ?_⟩
          have s914 := s913'.trans s14
          refine ⟨fun _ => False, fv2, d, rfl, dq2 H14 fv2 hfv2, shd, .ref u, rfl, fun _ => False, .ref u, d, rfl, dq2 H14 (.ref u) (hfv13.same (s13.trans s14)), shd, rfl, _, rfl, iteNS rfl ?_⟩
          refine ⟨.ref p, rfl, .ref t, rfl, by show 2 ≤ sizeLine; decide, fun B2 nB2 => ?_⟩
          have sB2 := s914.trans (same_new (o := .lst [.ref p, .ref t]) nB2)
          refine ⟨B2, .list [dPan pan, dInts st], rfl, .lst (.inl (.inl upd_same)) (.cons (hp9.same sB2).dp (.cons (dp_ints (same_sqT sB2 ht)) .nil)), sh2.sh, sh2.nd, Nat.le_trans sh2.dp (by decide), Nat.le_trans sh2.ln (by decide), _, rfl, rfl, _, rfl, iteNS rfl ?_⟩
          exact ⟨s9.trans sB2, _, _, _, _, _, rfl⟩
      · obtain ⟨s9, x4, x5, x6, x7, x8, rfl⟩ := hP
        exact ⟨D8.same s9, _, _, _, _, _, _, _, rfl⟩
    · exact q _
end
end K20
namespace K20
open PySem PySem.Spec PyProof.Rows L2 Pr
/-! what the top has written -/
theorem all_mk {l : PySem.W.OpenLaw} {w : World} {K : PySem.W.Frag} {h : Heap} {mg : Str → Option Value} {fa f1 f2 f3 f4 f5 f6 f7 f8 f9 f10 f11 : Addr} (X : K.In h) (G : h.Ns mainGlobals mg) (hfa : mg "law" = some (.ref fa))
    {od1 an1 od2 an2 od3 an3 od4 an4 od5 an5 od6 an6 od7 an7 od8 an8 od9 an9 od10 an10 od11 an11 : Option Addr} {sl1 sl2 sl3 sl4 sl5 sl6 sl7 sl8 sl9 sl10 sl11 : Array (Option Value)} {oc1 kV1 dc1 pm1 cd1 ct1 oc2 kV2 dc2 pm2 cd2 ct2 oc3 kV3 dc3 pm3 cd3 ct3 oc4 kV4 dc4 pm4 cd4 ct4 oc5 kV5 dc5 pm5 cd5 ct5 oc6 kV6 dc6 pm6 cd6 ct6 oc7 kV7 dc7 pm7 cd7 ct7 oc8 kV8 dc8 pm8 cd8 ct8 oc9 kV9 dc9 pm9 cd9 ct9 oc10 kV10 dc10 pm10 cd10 ct10 oc11 kV11 dc11 pm11 cd11 ct11 : Value}
    (a1 : PySem.W.nsIn K mainGlobals "releases_any" = some (some (.ref f1))) (l1 : K.lookup f1 = some ⟨oc1, od1, .func (PySem.W.fnOf "releases_any" "releases_any" (defArgs sAny) (defBody sAny) (defScope sAny) .none kV1 dc1 pm1 an1 cd1 ct1), sl1⟩) (c1 : PySem.W.codeIn K cd1 "releases_any" = true) (k1 : PySem.W.keepIn K (.ref f1) = true)
    (a2 : PySem.W.nsIn K mainGlobals "held_buttons" = some (some (.ref f2))) (l2 : K.lookup f2 = some ⟨oc2, od2, .func (PySem.W.fnOf "held_buttons" "held_buttons" (defArgs sHeld) (defBody sHeld) (defScope sHeld) .none kV2 dc2 pm2 an2 cd2 ct2), sl2⟩) (c2 : PySem.W.codeIn K cd2 "held_buttons" = true) (k2 : PySem.W.keepIn K (.ref f2) = true)
    (a3 : PySem.W.nsIn K mainGlobals "held_walk" = some (some (.ref f3))) (l3 : K.lookup f3 = some ⟨oc3, od3, .func (PySem.W.fnOf "held_walk" "held_walk" (defArgs sWalk) (defBody sWalk) (defScope sWalk) .none kV3 dc3 pm3 an3 cd3 ct3), sl3⟩) (c3 : PySem.W.codeIn K cd3 "held_walk" = true) (k3 : PySem.W.keepIn K (.ref f3) = true)
    (a4 : PySem.W.nsIn K mainGlobals "find_round" = some (some (.ref f4))) (l4 : K.lookup f4 = some ⟨oc4, od4, .func (PySem.W.fnOf "find_round" "find_round" (defArgs sRound) (defBody sRound) (defScope sRound) .none kV4 dc4 pm4 an4 cd4 ct4), sl4⟩) (c4 : PySem.W.codeIn K cd4 "find_round" = true) (k4 : PySem.W.keepIn K (.ref f4) = true)
    (a5 : PySem.W.nsIn K mainGlobals "_law_deck" = some (some (.ref f5))) (l5 : K.lookup f5 = some ⟨oc5, od5, .func (PySem.W.fnOf "_law_deck" "_law_deck" (defArgs sDeck) (defBody sDeck) (defScope sDeck) .none kV5 dc5 pm5 an5 cd5 ct5), sl5⟩) (c5 : PySem.W.codeIn K cd5 "_law_deck" = true) (k5 : PySem.W.keepIn K (.ref f5) = true)
    (a6 : PySem.W.nsIn K mainGlobals "_law_draw" = some (some (.ref f6))) (l6 : K.lookup f6 = some ⟨oc6, od6, .func (PySem.W.fnOf "_law_draw" "_law_draw" (defArgs sDraw) (defBody sDraw) (defScope sDraw) .none kV6 dc6 pm6 an6 cd6 ct6), sl6⟩) (c6 : PySem.W.codeIn K cd6 "_law_draw" = true) (k6 : PySem.W.keepIn K (.ref f6) = true)
    (a7 : PySem.W.nsIn K mainGlobals "_law_panel" = some (some (.ref f7))) (l7 : K.lookup f7 = some ⟨oc7, od7, .func (PySem.W.fnOf "_law_panel" "_law_panel" (defArgs sPanel) (defBody sPanel) (defScope sPanel) .none kV7 dc7 pm7 an7 cd7 ct7), sl7⟩) (c7 : PySem.W.codeIn K cd7 "_law_panel" = true) (k7 : PySem.W.keepIn K (.ref f7) = true)
    (a8 : PySem.W.nsIn K mainGlobals "_law_state" = some (some (.ref f8))) (l8 : K.lookup f8 = some ⟨oc8, od8, .func (PySem.W.fnOf "_law_state" "_law_state" (defArgs sState) (defBody sState) (defScope sState) .none kV8 dc8 pm8 an8 cd8 ct8), sl8⟩) (c8 : PySem.W.codeIn K cd8 "_law_state" = true) (k8 : PySem.W.keepIn K (.ref f8) = true)
    (a9 : PySem.W.nsIn K mainGlobals "_law_reach" = some (some (.ref f9))) (l9 : K.lookup f9 = some ⟨oc9, od9, .func (PySem.W.fnOf "_law_reach" "_law_reach" (defArgs sReach) (defBody sReach) (defScope sReach) .none kV9 dc9 pm9 an9 cd9 ct9), sl9⟩) (c9 : PySem.W.codeIn K cd9 "_law_reach" = true) (k9 : PySem.W.keepIn K (.ref f9) = true)
    (a10 : PySem.W.nsIn K mainGlobals "_law_is_round" = some (some (.ref f10))) (l10 : K.lookup f10 = some ⟨oc10, od10, .func (PySem.W.fnOf "_law_is_round" "_law_is_round" (defArgs sOwn) (defBody sOwn) (defScope sOwn) .none kV10 dc10 pm10 an10 cd10 ct10), sl10⟩) (c10 : PySem.W.codeIn K cd10 "_law_is_round" = true) (k10 : PySem.W.keepIn K (.ref f10) = true)
    (a11 : PySem.W.nsIn K mainGlobals "law" = some (some (.ref f11))) (l11 : K.lookup f11 = some ⟨oc11, od11, .func (PySem.W.fnOf "law" "law" (defArgs sLaw) (defBody sLaw) (defScope sLaw) .none kV11 dc11 pm11 an11 cd11 ct11), sl11⟩) (c11 : PySem.W.codeIn K cd11 "law" = true) (k11 : PySem.W.keepIn K (.ref f11) = true)
    (z1 : PySem.W.nsIn K mainGlobals "len" = some none) (z2 : PySem.W.nsIn K mainGlobals "range" = some none) (z3 : PySem.W.nsIn K mainGlobals "tuple" = some none) (z4 : PySem.W.nsIn K mainGlobals "list" = some none) (z5 : PySem.W.nsIn K mainGlobals "any" = some none) (z6 : PySem.W.nsIn K mainGlobals "repr" = some none) (z7 : PySem.W.nsIn K mainGlobals "set" = some none) (z8 : PySem.W.nsIn K mainGlobals "sorted" = some none) (z9 : PySem.W.nsIn K mainGlobals "abs" = some none) (z10 : PySem.W.nsIn K mainGlobals "min" = some none) (z11 : PySem.W.nsIn K mainGlobals "isinstance" = some none) (z12 : PySem.W.nsIn K mainGlobals "int" = some none) (z13 : PySem.W.nsIn K mainGlobals "bool" = some none) :
    ∃ fd : FuncData, (∀ (s : Shared) (v : Value), BindsTo s fd ⟨[v], []⟩ [("_law_script", v)]) ∧ ∀ base : Heap, K.In base → base.Ns mainGlobals mg → FnG l.prog w K mg base 4 fa fd ["_law_script"] (spLaw K) := by
  have e := hfa.symm.trans (PySem.W.mg_of X G a11)
  cases e
  have F1 := fun_mk (st := sAny) l1 c1 k1
  have F2 := fun_mk (st := sHeld) l2 c2 k2
  have F3 := fun_mk (st := sWalk) l3 c3 k3
  have F4 := fun_mk (st := sRound) l4 c4 k4
  have F5 := fun_mk (st := sDeck) l5 c5 k5
  have F6 := fun_mk (st := sDraw) l6 c6 k6
  have F7 := fun_mk (st := sPanel) l7 c7 k7
  have F8 := fun_mk (st := sState) l8 c8 k8
  have F9 := fun_mk (st := sReach) l9 c9 k9
  have F10 := fun_mk (st := sOwn) l10 c10 k10
  have F11 := fun_mk (st := sLaw) l11 c11 k11
  have b1 := F1.binds (ps := ["panel", "button", "others"]) fun _ _ _ _ _ _ us hl => match us, hl with | [_, _, _], _ => rfl
  have b2 := F2.binds (ps := ["panel", "state"]) fun _ _ _ _ _ _ us hl => match us, hl with | [_, _], _ => rfl
  have b3 := F3.binds (ps := ["panel", "held", "first"]) fun _ _ _ _ _ _ us hl => match us, hl with | [_, _, _], _ => rfl
  have b4 := F4.binds (ps := ["panel", "state"]) fun _ _ _ _ _ _ us hl => match us, hl with | [_, _], _ => rfl
  have b5 := F5.binds (ps := ["_law_script"]) fun _ _ _ _ _ _ us hl => match us, hl with | [_], _ => rfl
  have b6 := F6.binds (ps := ["_law_deck_here", "_law_many"]) fun _ _ _ _ _ _ us hl => match us, hl with | [_, _], _ => rfl
  have b7 := F7.binds (ps := ["_law_deck_here", "_law_most"]) fun _ _ _ _ _ _ us hl => match us, hl with | [_, _], _ => rfl
  have b8 := F8.binds (ps := ["_law_deck_here", "_law_n"]) fun _ _ _ _ _ _ us hl => match us, hl with | [_, _], _ => rfl
  have b9 := F9.binds (ps := ["_law_panel_here", "_law_state_here"]) fun _ _ _ _ _ _ us hl => match us, hl with | [_, _], _ => rfl
  have b10 := F10.binds (ps := ["_law_panel_here", "_law_state_here", "_law_value"]) fun _ _ _ _ _ _ us hl => match us, hl with | [_, _, _], _ => rfl
  exact ⟨_, fun s v => .of_eq rfl, fun base _ _ => ok_law F11 F1 b1 (PySem.W.mg_of X G a1) F2 b2 (PySem.W.mg_of X G a2) F3 b3 (PySem.W.mg_of X G a3) F4 b4 (PySem.W.mg_of X G a4) F5 b5 (PySem.W.mg_of X G a5) F6 b6 (PySem.W.mg_of X G a6) F7 b7 (PySem.W.mg_of X G a7) F8 b8 (PySem.W.mg_of X G a8) F9 b9 (PySem.W.mg_of X G a9) F10 b10 (PySem.W.mg_of X G a10) (PySem.W.mg_none_of X G z1) (PySem.W.mg_none_of X G z2) (PySem.W.mg_none_of X G z3) (PySem.W.mg_none_of X G z4) (PySem.W.mg_none_of X G z5) (PySem.W.mg_none_of X G z6) (PySem.W.mg_none_of X G z7) (PySem.W.mg_none_of X G z8) (PySem.W.mg_none_of X G z9) (PySem.W.mg_none_of X G z10) (PySem.W.mg_none_of X G z11) (PySem.W.mg_none_of X G z12) (PySem.W.mg_none_of X G z13) ⟩
end K20
open PySem PySem.W PyProof.Rows
theorem PySem.Challenge.cw_pressrelease_k20_rounds_found_holds : PySem.Challenge.rw_pressrelease_k20_rounds_found.Holds := by
  w_on; o_law; k_head; (case hw => w_witness2)
  k_fill
  refine Pr.walkG (l := PySem.Challenge.rw_pressrelease_k20_rounds_found) (n := 63) (k := 4) (x := "_law_script") (sp := K20.spLaw) rfl (by decide) rfl ⟨rfl, by decide, by decide⟩ (fun w h Y => PySem.W.kIn_of Y) ?F (fun _ _ a ns hl _ _ hS => ⟨a, ns, rfl, hS, hl, fun _ => rfl⟩)
  case F =>
    intro w mg fa h KX G hmg
    refine' K20.all_mk KX G hmg ?a1 ?l1 ?c1 ?k1 ?a2 ?l2 ?c2 ?k2 ?a3 ?l3 ?c3 ?k3 ?a4 ?l4 ?c4 ?k4 ?a5 ?l5 ?c5 ?k5 ?a6 ?l6 ?c6 ?k6 ?a7 ?l7 ?c7 ?k7 ?a8 ?l8 ?c8 ?k8 ?a9 ?l9 ?c9 ?k9 ?a10 ?l10 ?c10 ?k10 ?a11 ?l11 ?c11 ?k11 ?z1 ?z2 ?z3 ?z4 ?z5 ?z6 ?z7 ?z8 ?z9 ?z10 ?z11 ?z12 ?z13
    (case a1 => k_is); (case l1 => k_is); (case c1 => k_is); (case k1 => k_is); (case a2 => k_is); (case l2 => k_is); (case c2 => k_is); (case k2 => k_is); (case a3 => k_is); (case l3 => k_is); (case c3 => k_is); (case k3 => k_is)
    (case a4 => k_is); (case l4 => k_is); (case c4 => k_is); (case k4 => k_is); (case a5 => k_is); (case l5 => k_is); (case c5 => k_is); (case k5 => k_is); (case a6 => k_is); (case l6 => k_is); (case c6 => k_is); (case k6 => k_is)
    (case a7 => k_is); (case l7 => k_is); (case c7 => k_is); (case k7 => k_is); (case a8 => k_is); (case l8 => k_is); (case c8 => k_is); (case k8 => k_is); (case a9 => k_is); (case l9 => k_is); (case c9 => k_is); (case k9 => k_is)
    (case a10 => k_is); (case l10 => k_is); (case c10 => k_is); (case k10 => k_is); (case a11 => k_is); (case l11 => k_is); (case c11 => k_is); (case k11 => k_is); (case z1 => k_is); (case z2 => k_is); (case z3 => k_is); (case z4 => k_is)
    (case z5 => k_is); (case z6 => k_is); (case z7 => k_is); (case z8 => k_is); (case z9 => k_is); (case z10 => k_is); (case z11 => k_is); (case z12 => k_is); (case z13 => k_is)
