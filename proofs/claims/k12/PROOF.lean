import PyProof.Rows.All
import Wide.All
import OpenK.AllK
import Wide.FinOn
import HandS.ForMost
import HandS.IsInst
import HandS.Style
import HandS.StrMore
import HandS.Wide
import PyProof.ReprRoads
import PyProof.StrOps2
import PyProof.StrLawsRepr
import HandS.ForExc
import HandS.ExcIs
import HandS.ExcInit
import HandS.ExcField
import HandS.HotCalls
import HandS.DeepEq
import PySem.Challenge.RW_farapart_k12_errors_kept
set_option Elab.async false
set_option linter.all false
set_option maxRecDepth 100000
set_option maxHeartbeats 1000000
/-! what the laws of this program share: defs that are called while no repr is under way -/
namespace Fv
open PySem PySem.Spec PyProof.Rows L2
structure FnG (P : Program) (w : World) (K : PySem.W.Frag) (mg : Str → Option Value) (base : Heap) (k : Nat) (f : Addr) (fd : FuncData) (ps : List Str) (sp : Sp) : Prop where
  wide : ∀ xs H Q E, sp xs H Q E → xs.length = ps.length
  go : ∀ (A : Around) (fr : List Env) (s : Shared) (H : Hp) (us : List Value) (xs : List V) (Q : VK) (E : XK), A.guards = some [] → Room k A → Env0 P w K mg base A fr s H →
    (∀ t : Shared, BindsTo t fd ⟨us, []⟩ (ps.zip us)) → Vals xs us → sp xs H Q E → codeAny (model P w) A (.call (.ref f) ⟨us, []⟩) (CR CX0 fr P w H s Q E) s
def BindG (fd : FuncData) (ps : List Str) : Prop := ∀ us : List Value, us.length = ps.length → ∀ t : Shared, BindsTo t fd ⟨us, []⟩ (ps.zip us)
theorem bindG_of {K : PySem.W.Frag} {x qual : Str} {st : Stmt} {f : Addr} {fd : FuncData} {ps : List Str} (F : Fun K x qual st f fd)
    (h : ∀ (kV doc pm : Value) (an : Option Addr) (cdv ct : Value) (us : List Value), us.length = ps.length → bindArgs (PySem.W.fnOf x qual (defArgs st) (defBody st) (defScope st) .none kV doc pm an cdv ct) ⟨us, []⟩ = pure (ps.zip us)) : BindG fd ps := by
  obtain ⟨oc, od, kV, doc, pm, an, cdv, ct, osl, rfl, lk, hcd⟩ := F.ex
  exact fun us hl t => BindsTo.of_eq (h kV doc pm an cdv ct us hl)
section
variable {P : Program} {w : World} {K : PySem.W.Frag} {mg : Str → Option Value} {base : Heap}
/-- every plain promise holds so, too -/
theorem FnG.of {k : Nat} {f : Addr} {fd : FuncData} {ps : List Str} {sp : Sp} (F : FnOk P w K mg base CX0 k f fd ps sp) : FnG P w K mg base k f fd ps sp :=
  ⟨F.len, fun A fr s H us xs Q E _ hr e0 hb r h => F.run A fr s H ⟨us, []⟩ us xs Q E hr e0 (hb s) r h⟩
theorem okG {x qual : Str} {st : Stmt} {f : Addr} {fd : FuncData} {N ps : List Str} {k : Nat} {sp : Sp} (F : Fun K x qual st f fd) (S : FnScope N ps (defScope st)) (wide : ∀ xs H Q E, sp xs H Q E → xs.length = ps.length)
    (body : ∀ (cdv : Value) (A : Around) (fr : List Env) (s : Shared) (H : Hp) (xs : List V) (Q : VK) (E : XK), A.guards = some [] → Room k (A.deeper (envOfC qual (defScope st) s.heap.objs.size f cdv)) → sp xs H Q E →
      ∃ t, PSs (cxOf CX0 P w K mg base N qual (defScope st) f cdv A fr s H E).nox (defBody st) t ∧ t { nx := fun _ H' => Q .non H', rt := Q } (start N xs) H) : FnG P w K mg base (k + 1) f fd ps sp := by
  obtain ⟨oc, od, kV, doc, pm, an, cdv, ct, osl, rfl, lk, hcd⟩ := F.ex
  refine ⟨wide, fun A fr s H us xs Q E hg hr e0 hb r hs => ?_⟩
  have old : ∀ b o, base.get? b = some o → s.heap.get? b = some o := fun b o e => (e0.bs b o e).1
  have inK : K.In s.heap := e0.mod.kin.keeps old
  have kinds : ∀ y ∈ ps.zip us, (defScope st).names.lookup y.1 = some .local ∨ ((defScope st).names.lookup y.1 = some .cell ∧ ((cellsFrom (s.heap.objs.size + 1) (defScope st).names []).lookup y.1).isSome = true) := by
    rintro ⟨n, v⟩ hy
    rcases S.par n (List.of_mem_zip hy).1 with q | q
    · exact Or.inl q
    · exact Or.inr ⟨q, PySem.W.cellsFrom_some _ _ _ (Or.inl q)⟩
  refine codeAny_call_function hr.depth (inK _ _ lk) rfl S.co S.gen rfl (PySem.W.codeRec_of inK hcd) (hb _ _ _ _ _ ?_)
  refine wpAny_newFunctionEnv_cells S.kind kinds fun env he s1 ic => ?_
  subst he
  refine ⟨(e0.mod.nolimit.keeps old).keeps ic.toInCall.keep, codeAny_func ?_⟩
  obtain ⟨t, ht, hq⟩ := body cdv A fr s H xs Q E hg (hr.deeper _) hs
  have I := inv_start (CX := CX0) (E := E) S hr.hd e0 (wide _ _ _ _ hs) r ic
  refine wpAny_mono (ht.nox.run [] s1 (start N xs) H _ I hq) (fun fl s' z => ?_) fun _ _ z => z
  cases fl with
  | ret u =>
    obtain ⟨v, σ', H', J, rv, q⟩ := z
    exact ⟨v, H', J.os, J.bare, J.base, J.hok, rv, q⟩
  | next =>
    obtain ⟨σ', H', J, q⟩ := z
    exact ⟨V.non, H', J.os, J.bare, J.base, J.hok, rfl, q⟩
  | brk =>
    obtain ⟨_, _, _, q⟩ := z
    exact q.elim
  | cont =>
    obtain ⟨_, _, _, q⟩ := z
    exact q.elim
end
section
variable {X : Cx} {k : Nat} {f : Addr} {fd : FuncData} {ps : List Str} {sp : Sp} {x : Str} {p pos : Pos} {e : Expr} {es : List Expr} {t : TA}
/-- f(e, ..) where no repr is under way -/
theorem pe_callG (F : FnG X.prog X.w X.K X.mg X.base k f fd ps sp) (hgd : X.A.guards = some []) (hr : Room k X.A) (hg : Gl X x) (hm : X.mg x = some (.ref f)) (hk : PySem.W.keepIn X.K (.ref f) = true) (hbs : BindG fd ps)
    (ha : PA X (e :: es) t) (hdb : (x == ("__debug__" : Str)) = false := by decide) (he : starEach (e :: es) X.env = (false, eval e X.env) :: starEach es X.env := by rfl) (hpl : (backTo pos (starEach es X.env)).any (·.1) = false := by rfl) :
    PE X (.Call (.Name x p) (e :: es) [] pos) (fun σ H Q => t σ H fun vs H1 => sp vs H1 Q E0) := by
  refine ⟨fun pins s σ H Q I h => wpAny_Call_Name_kw (ld_glob I hg hm ?_ hdb)⟩
  refine PySem.W.callWith_K (h₀ := X.base) I.ok.mod.kin hk (thn (ha.run pos pins s σ H _ I h) fun us s1 ⟨vs, H1, I1, r, q⟩ => ⟨I1.kIn, ?_⟩) he hpl
  have hl : us.length = ps.length := by rw [← r.length]; exact F.wide _ _ _ _ q
  refine wpAny_call (codeAny_mono (F.go X.A X.stack s1 H1 us vs Q E0 hgd hr I1.env0 (hbs us hl) r q) fun res s' hq => ?_)
  cases res with
  | error e => exact False.elim hq
  | ok fl =>
    cases fl with
    | ret u => exact I1.after hq
    | next => exact False.elim hq
    | brk => exact False.elim hq
    | cont => exact False.elim hq
end
section
variable {P : Program} {w : World} {K : PySem.W.Frag} {mg mb : Str → Option Value} {k : Nat} {fa a : Addr} {fd : FuncData} {x : Str} {sp : Sp} {s1 : Shared} {vs : List Value} {ns : List Int}
/-- the law's call: nothing but the script is tracked at its entry -/
theorem law_callG (KX : K.In s1.heap) (hns : s1.heap.Ns mainGlobals mg) (hb : s1.heap.Ns builtinsNs mb) (hbb : ∀ x : Str, x ≠ "__name__" → mb x = bootBuiltins x) (hlim : s1.heap.NoLimit) (hg : s1.gens = #[])
    (ha : s1.heap.get? a = some { cls := .type "list", data := .seq vs.toArray }) (hi : IntsAre vs ns) (hl : ns.length ≤ sizeLine) (hr : Room k callerA)
    (F : ∀ base : Heap, K.In base → base.Ns mainGlobals mg → FnG P w K mg base k fa fd [x] sp) (hbind : ∀ (s : Shared) (u : Value), BindsTo s fd ⟨[u], []⟩ [(x, u)])
    (hsp : ∀ H : Hp, Only H → SqL K H a (ns.map V.int) → sp [.ref a] H (fun v _ => v = .bl true) E0) :
    codeAny (model P w) callerA (.call (.ref fa) ⟨[.ref a], []⟩) (fun r s' => r = .ok (.ret (.bool true)) ∧ OldK s1.heap s'.heap ∧ s'.os = s1.os ∧ AllBare s'.gens) s1 := by
  have rv := vals_ints hi
  have hlen := hi.length
  have go : ∀ H : Hp, Only H → SqL K H a (ns.map V.int) → HOk P w H s1.heap → (∀ b, H b ≠ none → b = a ∧ K.lookup a = none) →
      codeAny (model P w) callerA (.call (.ref fa) ⟨[.ref a], []⟩) (fun r s' => r = .ok (.ret (.bool true)) ∧ OldK s1.heap s'.heap ∧ s'.os = s1.os ∧ AllBare s'.gens) s1 := by
    intro H only hS hok hA
    have free : ∀ {b : Addr} {o : Obj}, s1.heap.get? b = some o → (∀ z, o.data ≠ .seq vs.toArray z) → H b = none := by
      intro b o e d
      cases q : H b with
      | none => rfl
      | some u =>
        obtain ⟨rfl, _⟩ := hA b (by rw [q]; exact fun z => nomatch z)
        rw [ha] at e
        cases e
        exact (d _ rfl).elim
    have ns : ∀ {b : Addr} {m : Str → Option Value}, s1.heap.Ns b m → (hidT s1.heap H).Ns b m := by
      rintro b m ⟨o, es, ep, e, d, r⟩
      exact ⟨o, es, ep, hidT_get e (free e fun z q => by rw [d] at q; exact nomatch q), d, r⟩
    have inB : K.In (hidT s1.heap H) := by
      intro b o e
      refine hidT_get (KX b o e) ?_
      cases q : H b with
      | none => rfl
      | some u =>
        obtain ⟨rfl, n⟩ := hA b (by rw [q]; exact fun z => nomatch z)
        rw [n] at e
        exact nomatch e
    obtain ⟨mc, c1, c2⟩ := hlim
    have e0 : Env0 P w K mg (hidT s1.heap H) callerA [] s1 H :=
      ⟨rfl, ⟨inB, ns hns, ⟨mb, ns hb, hbb⟩, ⟨mc, ns c1, c2⟩⟩, fun b o e => of_hidT e, Nat.le_of_eq (hidT_size _ _), trivial, fun b z => absurd (show b ∈ ([] : List Addr) from z) List.not_mem_nil, hok, .of_eq hg⟩
    refine codeAny_mono ((F _ inB (ns hns)).go callerA [] s1 H [.ref a] [.ref a] _ _ rfl hr e0 (fun t => hbind t (.ref a)) (.cons rfl .nil) (hsp H only hS)) fun r s' h => ?_
    cases r with
    | error e => exact False.elim h
    | ok fl =>
      cases fl with
      | next => exact False.elim h
      | brk => exact False.elim h
      | cont => exact False.elim h
      | ret u =>
        obtain ⟨v, H', os, bare, un, hok', rr, q⟩ := h
        obtain rfl : v = .bl true := q
        obtain rfl : u = Value.bool true := rr
        refine ⟨rfl, OldK.of_keep fun b o e => ?_, os, bare⟩
        rcases only b with z | ⟨ob, xs, z⟩
        · exact un.keep b o e z (fun z => absurd (show b ∈ ([] : List Addr) from z) List.not_mem_nil) List.not_mem_nil
        · obtain ⟨e1, _⟩ := hok b _ z
          obtain ⟨e2, _⟩ := hok' b _ (un.frzs b ob _ z)
          rw [e] at e1
          cases e1
          exact e2
  cases hk : K.lookup a with
  | some o =>
    have e := KX a o hk
    rw [ha] at e
    cases e
    exact go (fun _ => none) (fun _ => Or.inl rfl) (.inr ⟨_, vs.toArray, _, hk, rfl, rfl, rfl, by rw [List.size_toArray, hlen]; exact hl, by simpa using rv⟩) (fun b u z => nomatch z) fun b z => absurd rfl z
  | none =>
    refine go (fun b => if b = a then some (.frz { cls := .type "list", data := .seq vs.toArray } (.lst (ns.map V.int))) else none) (fun b => ?_) (.inl (.inr ⟨_, if_pos rfl⟩)) (fun b u z => ?_) fun b z => ?_
    · by_cases hb : b = a
      · exact Or.inr ⟨_, _, if_pos hb⟩
      · exact Or.inl (if_neg hb)
    · by_cases hb : b = a
      · subst hb
        simp only [if_true] at z
        cases z
        exact ⟨ha, by rw [List.length_map]; exact hl, vs, _, rv, ha⟩
      · simp only [if_neg hb] at z
        cases z
    · by_cases hb : b = a
      · exact ⟨hb, hk⟩
      · exact absurd (if_neg hb) z
end
theorem walk_G {l : PySem.W.OpenLaw} {n k : Nat} {q : Program} {loose : List Str} {XP : (Str → Option Value) → Heap → Prop} {YP : World → Heap → Prop} {d : DefRec} {K : Params → PySem.W.Frag} {sp : PySem.W.Frag → Sp} {x : Str}
    (hn : l.most = some n) (hn2 : n ≤ sizeLine) (hdf : d.params.defaults = []) (hr : Room k callerA) (hY : ∀ (w : World) (h : Heap), YP w h → (K w.params).In h)
    (F : ∀ (w : World) (mg : Str → Option Value) (fa : Addr) (h : Heap), (K w.params).In h → h.Ns mainGlobals mg → mg d.name = some (.ref fa) →
      ∃ fd : FuncData, (∀ (s : Shared) (u : Value), BindsTo s fd ⟨[u], []⟩ [(x, u)]) ∧ ∀ base : Heap, (K w.params).In base → base.Ns mainGlobals mg → FnG l.prog w (K w.params) mg base k fa fd [x] (sp (K w.params)))
    (hsp : ∀ (K : PySem.W.Frag) (H : Hp) (a : Addr) (ns : List Int), ns.length ≤ n → Only H → SqL K H a (ns.map V.int) → sp K [.ref a] H (fun v _ => v = .bl true) E0) :
    PySem.W.WalkO q loose XP YP l.row.toRowW d [] (fun f vs => PySem.call f vs) := by
  refine Att.attach_call hn hdf fun w s₀ s1 mg mb fa o pm cd doc a vs ns G Y ho hd hcd hmg hobj hints hlen hg => ?_
  obtain ⟨fd, hb, hF⟩ := F w mg fa _ (hY w _ Y) G.T.g hmg
  exact law_callG (hY w _ Y) G.T.g G.T.b G.T.builtins G.T.nolimit hg hobj hints (Nat.le_trans hlen hn2) hr hF hb fun H hO hS => hsp (K w.params) H a ns hlen hO hS
end Fv


set_option Elab.async false
set_option linter.all false
set_option maxRecDepth 100000
set_option maxHeartbeats 1000000
namespace Fv
open PySem PySem.Spec PyProof.Rows L2
/-! ### data at a value: own lists stand away from the bag (b) -/
mutual
inductive Dq (H : Hp) (b : Addr) : V → PyData → Prop
  | non : Dq H b .non .none
  | bl (x : Bool) : Dq H b (.bl x) (.bool x)
  | int (i : Int) : Dq H b (.int i) (.int i)
  | str (x : Str) : Dq H b (.str x) (.str x)
  | lst {a : Addr} {xs : List V} {ds : List PyData} : H a = some (.lst xs) → a ≠ b → a ≠ sysModules → DqAll H b xs ds → Dq H b (.ref a) (.list ds)
  | tup {a : Addr} {xs : List V} {ds : List PyData} : H a = some (.tup xs) → a ≠ b → DqAll H b xs ds → Dq H b (.ref a) (.tuple ds)
  | dct {a : Addr} {kvs : List (Key × V)} {ps : List (PyData × PyData)} : H a = some (.dK kvs) → a ≠ b → DqAll H b (kvs.map fun p => kV p.1) (ps.map (·.1)) → DqAll H b (kvs.map (·.2)) (ps.map (·.2)) → Dq H b (.ref a) (.dict ps)
inductive DqAll (H : Hp) (b : Addr) : List V → List PyData → Prop
  | nil : DqAll H b [] []
  | cons {v : V} {vs : List V} {d : PyData} {ds : List PyData} : Dq H b v d → DqAll H b vs ds → DqAll H b (v :: vs) (d :: ds)
end
mutual
theorem Dq.mono {H H' : Hp} {b : Addr} (k : ∀ a o, a ≠ b → H a = some o → H' a = some o) : ∀ {v : V} {d : PyData}, Dq H b v d → Dq H' b v d
  | _, _, .non => .non
  | _, _, .bl x => .bl x
  | _, _, .int i => .int i
  | _, _, .str x => .str x
  | _, _, .lst e n m h => .lst (k _ _ n e) n m (DqAll.mono k h)
  | _, _, .tup e n h => .tup (k _ _ n e) n (DqAll.mono k h)
  | _, _, .dct e n h h' => .dct (k _ _ n e) n (DqAll.mono k h) (DqAll.mono k h')
theorem DqAll.mono {H H' : Hp} {b : Addr} (k : ∀ a o, a ≠ b → H a = some o → H' a = some o) : ∀ {v : List V} {d : List PyData}, DqAll H b v d → DqAll H' b v d
  | _, _, .nil => .nil
  | _, _, .cons h t => .cons (Dq.mono k h) (DqAll.mono k t)
end
theorem kV_rel {k : Key} {v : Value} (h : keyIs k v = true) : RelV (kV k) v := by
  rcases keyIs_shape h with ⟨i, t, rfl, rfl⟩ | ⟨x, t, rfl, rfl⟩
  · exact ⟨t, rfl⟩
  · exact ⟨t, rfl⟩
theorem pairs_keys {P : Program} {w : World} : ∀ {kvs : List (Key × V)} {vs : List (Key × Value)} {es : List DictEntry}, KV kvs vs → Pairs (mixKind P w) es vs → Vals (kvs.map fun p => kV p.1) (es.map (·.key))
  | _, _, _, .nil, .nil => .nil
  | _, _, _, .cons r t, .cons h _ q => .cons (by
    have e := r.1
    show RelV (kV _) _
    rw [e]
    exact kV_rel h) (pairs_keys t q)
theorem pairs_vals {P : Program} {w : World} : ∀ {kvs : List (Key × V)} {vs : List (Key × Value)} {es : List DictEntry}, KV kvs vs → Pairs (mixKind P w) es vs → Vals (kvs.map (·.2)) (es.map (·.val))
  | _, _, _, .nil, .nil => .nil
  | _, _, _, .cons r t, .cons _ h q => .cons (by
    show RelV _ (DictEntry.val _)
    rw [h]
    exact r.2) (pairs_vals t q)
section
variable {X : Cx} {pins : List (Addr × Obj)} {σ : L2.St} {H : Hp} {s : Shared} {b : Addr}
mutual
theorem Dq.reads (I : Inv X pins σ H s) : ∀ {v : V} {d : PyData} {u : Value}, Dq H b v d → RelV v u → ∃ as, Reads s.heap u d as ∧ sysModules ∉ as
  | _, _, _, .non, r => by
    cases r
    exact ⟨_, .none, List.not_mem_nil⟩
  | _, _, _, .bl x, r => by
    cases r
    exact ⟨_, .bool x, List.not_mem_nil⟩
  | _, _, _, .int i, r => by
    obtain ⟨t, rfl⟩ := r
    exact ⟨_, .int i t, List.not_mem_nil⟩
  | _, _, _, .str x, r => by
    obtain ⟨t, rfl⟩ := r
    exact ⟨_, .str x t, List.not_mem_nil⟩
  | _, _, _, .lst (a := a) e _ m h, r => by
    cases r
    obtain ⟨_, its, n, rv, he⟩ := (show ObjOk X.prog X.w H s.heap a (.lst _) from I.hok a _ e)
    obtain ⟨as, q, z⟩ := DqAll.reads I h rv
    exact ⟨_, .list he rfl rfl (by simpa using q), fun y => (List.mem_cons.mp y).elim (fun w => m w.symm) z⟩
  | _, _, _, .tup (a := a) e _ h, r => by
    cases r
    obtain ⟨_, its, rv, o, he, hc, n, hd⟩ := (show ObjOk X.prog X.w H s.heap a (.tup _) from I.hok a _ e)
    obtain ⟨as, q, z⟩ := DqAll.reads I h rv
    exact ⟨_, .tuple he hc hd (by simpa using q), z⟩
  | _, _, _, .dct (a := a) e _ h h', r => by
    cases r
    obtain ⟨_, m, vs, rel, o, es, ep, he, hx, hd, _, hp, _⟩ := (show ObjOk X.prog X.w H s.heap a (.dK _) from I.hok a _ e)
    have k1 : Vals (_ : List V) (es.toList.map (·.key)) := pairs_keys rel hp
    have k2 : Vals (_ : List V) (es.toList.map (·.val)) := pairs_vals rel hp
    obtain ⟨as, q, z⟩ := DqAll.reads I h k1
    obtain ⟨bs, q', z'⟩ := DqAll.reads I h' k2
    exact ⟨_, .dict he hx.1 hd q q', fun y => by
      rcases List.mem_append.mp y with y | y
      · rcases List.mem_cons.mp y with w | w
        · rw [← w] at m
          simp at m
        · exact z w
      · exact z' y⟩
theorem DqAll.reads (I : Inv X pins σ H s) : ∀ {v : List V} {d : List PyData} {u : List Value}, DqAll H b v d → Vals v u → ∃ as, ReadsAll s.heap u d as ∧ sysModules ∉ as
  | _, _, _, .nil, r => by
    cases r
    exact ⟨_, .nil, List.not_mem_nil⟩
  | _, _, _, .cons h t, r => by
    cases r with
    | cons r1 r2 =>
      obtain ⟨as, q, z⟩ := Dq.reads I h r1
      obtain ⟨bs, q', z'⟩ := DqAll.reads I t r2
      exact ⟨_, .cons q q', fun y => (List.mem_append.mp y).elim z z'⟩
end
end
/-! ### rules -/
/-- repr of data -/
def rRepr : List V → Hp → VK → Prop := fun xs H Q => ∃ (b : Addr) (v : V) (d : PyData), xs = [v] ∧ Dq H b v d ∧ d.showable = true ∧ d.shown.length ≤ sizeLine ∧ d.depth ≤ 20 ∧ Q (.str d.shown) H
section
variable {X : Cx}
theorem call_reprD (hg : X.A.guards = some []) (hu : X.A.units + 64 < cLine) : CallR X (.builtin "repr") rRepr := by
  intro pins s σ H xs us Q I r h
  obtain ⟨b, v, d, rfl, hd, hs, hz, hdp, q⟩ := h
  cases r with
  | cons r rr =>
    cases rr
    rename_i u
    obtain ⟨as, rd, ns⟩ := Dq.reads I hd r
    cases rd with
    | none => exact PySem.P.repr_of_none ⟨.str _, H, I.tok _, ⟨_, rfl⟩, q⟩
    | bool x => exact PySem.P.repr_of_bool ⟨.str _, H, I.tok _, ⟨_, rfl⟩, q⟩
    | int i t => exact PySem.P.repr_of_int (by simpa [PyData.showable] using hs) ⟨.str _, H, I.tok _, ⟨_, rfl⟩, q⟩
    | str x t => exact PySem.P.repr_of_str ⟨.str _, H, I.tok _, ⟨_, rfl⟩, q⟩ (by simpa only [PyData.shown] using hz)
    | list a1 a2 a3 a4 => exact repr_of_reads' (.list a1 a2 a3 a4) hs (fun _ => ns) hg (by omega) (fun _ _ e => e) (fun h' u tk k => ⟨.str _, H, I.kept (h' := h') (t' := tk) k, ⟨_, rfl⟩, q⟩) hz
    | tuple a1 a2 a3 a4 => exact repr_of_reads' (.tuple a1 a2 a3 a4) hs (fun _ => ns) hg (by omega) (fun _ _ e => e) (fun h' u tk k => ⟨.str _, H, I.kept (h' := h') (t' := tk) k, ⟨_, rfl⟩, q⟩) hz
    | dict a1 a2 a3 a4 a5 => exact repr_of_reads' (.dict a1 a2 a3 a4 a5) hs (fun _ => ns) hg (by omega) (fun _ _ e => e) (fun h' u tk k => ⟨.str _, H, I.kept (h' := h') (t' := tk) k, ⟨_, rfl⟩, q⟩) hz
/-- xs[j] at a written or reckoned place, for op= -/
def rGetL (K : PySem.W.Frag) : V → V → Hp → VK → Prop := fun x y H Q => ∃ (p : Addr) (xs : List V) (j : Nat) (v : V), x = .ref p ∧ y = .int j ∧ SqL K H p xs ∧ xs[j]? = some v ∧ Q v H
theorem pget_list : PGet X (rGetL X.K) := by
  intro pins s σ H o i ov iv Q I ro ri h
  obtain ⟨p, xs, j, v, rfl, rfl, hq, he, q⟩ := h
  cases ro
  obtain ⟨t, rfl⟩ := ri
  obtain ⟨its, r, pl, hz⟩ := I.list hq
  obtain ⟨w, ew, rw'⟩ := r.get he
  have h1 : j < xs.length := (List.getElem?_eq_some_iff.mp he).1
  have h2 : sizeLine < 2 ^ 63 := by decide
  exact wpAny_getItem_list pl.isList (by omega) (by omega) (by simpa using ew) ⟨v, H, I, rw', q⟩
/-- '0' * n -/
def zeros (n : Nat) : Str := ⟨(List.replicate n #[48]).foldl (· ++ ·) #[]⟩
def rZeros : R2 := fun x y H Q => ∃ n : Nat, x = .str "0" ∧ y = .int n ∧ n < 64 ∧ Q (.str (zeros n)) H
theorem zeros_len : ∀ n : Nat, n < 64 → (zeros n).length = n := by decide +kernel
theorem op_zeros : OpR X (binaryOp .Mult) rZeros := by
  intro pins s σ H x y v u Q I rx ry h
  obtain ⟨n, rfl, rfl, hn, q⟩ := h
  obtain ⟨t, rfl⟩ := rx
  obtain ⟨t', rfl⟩ := ry
  have fin : EP X pins σ Q (.str (zeros n) s.toks) { s with toks := s.toks + 1 } := ⟨.str _, H, I.tok _, ⟨_, rfl⟩, q⟩
  refine PySem.P.mul_str (by rw [decide_eq_false (by omega), decide_eq_false (by omega)]; rfl) (fun _ _ => ?_) (fun _ _ => ?_) ?_
  · have : ("0" : Str).length = 1 := by decide +kernel
    rw [this]
    have h3 : (1 : Int) ≤ (2 ^ 63 - 1) / (n : Int) := by
      rename_i a b
      exact Int.le_ediv_of_mul_le (by omega) (by omega)
    omega
  · have : ("0" : Str).length = 1 := by decide +kernel
    rw [this]
    have hz := (by decide : 64 < sizeLine)
    simp only [Nat.one_mul, Int.toNat_natCast]
    unfold Builtin.Str.tooLong
    exact decide_eq_false (by omega)
  · by_cases h0 : n = 0
    · subst h0
      exact ⟨by decide, fin⟩
    · rw [if_neg (by omega)]
      by_cases h1 : n = 1
      · subst h1
        exact ⟨.str _, H, I, ⟨t, rfl⟩, q⟩
      · rw [if_neg (by
          have : ((n : Int) == 1) = false := by simpa using (by omega : ¬ ((n : Int) = 1))
          rw [this]
          decide)]
        exact ⟨by show (zeros n).length ≤ _; rw [zeros_len n hn]; have hz := (by decide : 64 < sizeLine); omega, fin⟩
end
/-! ### types of data -/
def tyN : PyData → String
  | .none => "NoneType"
  | .bool _ => "bool"
  | .int _ => "int"
  | .str _ => "str"
  | .list _ => "list"
  | .tuple _ => "tuple"
  | .dict _ => "dict"
theorem Dq.ty {K : PySem.W.Frag} {H : Hp} {b : Addr} {v : V} {d : PyData} (h : Dq H b v d) : TyX K H v (.type (tyN d)) := by
  cases h with
  | non => exact .base .non
  | bl x => exact .base (.bl x)
  | int i => exact .base (.int i)
  | str x => exact .base (.str x)
  | lst e _ _ _ => exact .base (.lst e)
  | tup e _ _ => exact .base (.tup e)
  | dct e _ _ _ => exact .base (.dK e)
def isStrD : PyData → Bool
  | .str _ => true
  | _ => false
def isBoolD : PyData → Bool
  | .bool _ => true
  | _ => false
def isIntD : PyData → Bool
  | .int _ => true
  | .bool _ => true
  | _ => false
theorem kit_str {K : PySem.W.Frag} (d : PyData) : PySem.W.kitOne K (.type (tyN d)) (.type "str") = some (isStrD d) := by
  cases d
  · exact kit_ty (a := "NoneType") (b := "str") (r := false) (by decide +kernel)
  · exact kit_ty (a := "bool") (b := "str") (r := false) (by decide +kernel)
  · exact kit_ty (a := "int") (b := "str") (r := false) (by decide +kernel)
  · exact kit_ty (a := "str") (b := "str") (r := true) (by decide +kernel)
  · exact kit_ty (a := "list") (b := "str") (r := false) (by decide +kernel)
  · exact kit_ty (a := "tuple") (b := "str") (r := false) (by decide +kernel)
  · exact kit_ty (a := "dict") (b := "str") (r := false) (by decide +kernel)
theorem kit_bool {K : PySem.W.Frag} (d : PyData) : PySem.W.kitOne K (.type (tyN d)) (.type "bool") = some (isBoolD d) := by
  cases d
  · exact kit_ty (a := "NoneType") (b := "bool") (r := false) (by decide +kernel)
  · exact kit_ty (a := "bool") (b := "bool") (r := true) (by decide +kernel)
  · exact kit_ty (a := "int") (b := "bool") (r := false) (by decide +kernel)
  · exact kit_ty (a := "str") (b := "bool") (r := false) (by decide +kernel)
  · exact kit_ty (a := "list") (b := "bool") (r := false) (by decide +kernel)
  · exact kit_ty (a := "tuple") (b := "bool") (r := false) (by decide +kernel)
  · exact kit_ty (a := "dict") (b := "bool") (r := false) (by decide +kernel)
theorem kit_int {K : PySem.W.Frag} (d : PyData) : PySem.W.kitOne K (.type (tyN d)) (.type "int") = some (isIntD d) := by
  cases d
  · exact kit_ty (a := "NoneType") (b := "int") (r := false) (by decide +kernel)
  · exact kit_ty (a := "bool") (b := "int") (r := true) (by decide +kernel)
  · exact kit_ty (a := "int") (b := "int") (r := true) (by decide +kernel)
  · exact kit_ty (a := "str") (b := "int") (r := false) (by decide +kernel)
  · exact kit_ty (a := "list") (b := "int") (r := false) (by decide +kernel)
  · exact kit_ty (a := "tuple") (b := "int") (r := false) (by decide +kernel)
  · exact kit_ty (a := "dict") (b := "int") (r := false) (by decide +kernel)
end Fv


set_option Elab.async false
set_option linter.all false
set_option maxRecDepth 100000
set_option maxHeartbeats 1000000
namespace Fv
open PySem PySem.Spec PyProof.Rows L2
section
variable {X : Cx} {es : List Expr} {t : TA} {pos : Pos}
/-- a written list; its place is none of the first ones -/
def tLstB (t : TA) : TE := fun σ H Q => t σ H fun xs H1 => xs.length ≤ sizeLine ∧ ∀ p, H1 p = none → p ≠ sysModules → Q (.ref p) (upd H1 p (.lst xs))
theorem pe_lstB (h : PA X es t) : PE X (.List es pos) (tLstB t) := by
  refine ⟨fun pins s σ H Q I hq => wpAny_List_spliced (thn (h.run pos pins s σ H _ I hq) fun us s1 e => ?_)⟩
  obtain ⟨xs, H1, I1, r, z, q⟩ := e
  have z' : us.length ≤ sizeLine := by rw [← r.length]; exact z
  have J : Inv X pins σ (upd H1 s1.heap.objs.size (.lst xs)) { s1 with heap := s1.heap.push { cls := .type "list", data := .seq us.toArray } } :=
    I1.laid (t' := s1.toks) (fun _ _ e => Heap.get?_push_of_some _ e) (Nat.le_refl _) ⟨z, us, 0, r, Heap.get?_push_size _ rfl⟩
  exact ⟨z', .ref _, _, J, rfl, q _ (I1.hok.fresh (Nat.le_refl _)) (Nat.ne_of_gt I1.big)⟩
end
theorem DqAll.get {H : Hp} {b : Addr} : ∀ {vs : List V} {ds : List PyData} {j : Nat} {v : V}, DqAll H b vs ds → vs[j]? = some v → ∃ d, d ∈ ds ∧ Dq H b v d
  | _, _, _, _, .nil, e => by simp at e
  | _, _, 0, _, .cons h _, e => by
    simp at e
    subst e
    exact ⟨_, List.mem_cons_self, h⟩
  | _, _, j + 1, _, .cons _ t, e => by
    obtain ⟨d, m, h⟩ := DqAll.get t (j := j) (by simpa using e)
    exact ⟨d, List.mem_cons_of_mem _ m, h⟩
/-! ### what is fine to be shown -/
structure Fine (d : PyData) : Prop where
  show_ : d.showable = true
  len : d.shown.length ≤ 20000
  deep : d.depth ≤ 3
def okS (z : Str) : Prop := z.length ≤ 1000 ∧ ∀ c ∈ z.cps.toList, c < 128
theorem okS.repr {z : Str} (h : okS z) : (reprText z).length ≤ 10010 := by
  have := StrLaws.reprText_len z fun c hc => Nat.lt_of_lt_of_le (h.2 c hc) (by decide)
  have := h.1
  omega
theorem Fine.str {z : Str} (h : okS z) : Fine (.str z) := ⟨by simp [PyData.showable], by simp only [PyData.shown]; have := h.repr; omega, by simp [PyData.depth]⟩
theorem Fine.one_tup {z : Str} (h : okS z) : Fine (.tuple [.str z]) := by
  refine ⟨by simp [PyData.showable, PyData.showableAll], ?_, by simp [PyData.depth, PyData.depthAll]⟩
  have e : (PyData.tuple [.str z]).shown = tupleText [reprText z] := by simp [PyData.shown, PyData.shownAll]
  rw [e]
  have hr := h.repr
  have e2 : ∀ x : Str, (tupleText [x]).length = 1 + x.length + 2 := fun x => by
    unfold tupleText
    rw [strLen_append, strLen_append]
    rfl
  rw [e2]
  omega
theorem Fine.one_lst {z : Str} (h : okS z) : Fine (.list [.str z]) := by
  refine ⟨by simp [PyData.showable, PyData.showableAll], ?_, by simp [PyData.depth, PyData.depthAll]⟩
  have e : (PyData.list [.str z]).shown = listText [reprText z] := by simp [PyData.shown, PyData.shownAll]
  rw [e]
  have hr := h.repr
  have e2 : ∀ x : Str, (listText [x]).length = 1 + x.length + 1 := fun x => by
    unfold listText
    rw [strLen_append]
    have e3 : textFrom 0 "[" [x] = ("[" : Str) ++ x := rfl
    rw [e3, strLen_append]
    rfl
  rw [e2]
  omega
theorem Fine.one_dct {z : Str} (h : okS z) : Fine (.dict [(.str z, .int 1)]) := by
  refine ⟨by simp only [PyData.showable, PyData.showableKv]; decide, ?_, by simp [PyData.depth, PyData.depthKv]⟩
  have e : (PyData.dict [(.str z, .int 1)]).shown = dictText [reprText z ++ ": " ++ (toString (1 : Int) : String)] := by simp [PyData.shown, PyData.shownKv]
  rw [e]
  have hr := h.repr
  have e2 : ∀ x : Str, (dictText [x]).length = 1 + x.length + 1 := fun x => by
    unfold dictText
    rw [strLen_append, strLen_append]
    rfl
  have e3 : ((toString (1 : Int) : String) : Str).length = 1 := by decide +kernel
  have e4 : ((": " : String) : Str).length = 2 := by decide +kernel
  rw [e2, strLen_append, strLen_append, e3, e4]
  omega
end Fv


set_option Elab.async false
set_option linter.all false
set_option maxRecDepth 100000
set_option maxHeartbeats 1000000
/-! own errors: what a caught one is an instance of, its fields; defs that are called with it in an except suite -/
namespace Fv
open PySem PySem.Spec PyProof.Rows L2
section
open PySem.W PySem.Calls
variable {prog : Program} {w : World} {A : Around} {E : Value → Shared → Prop} {s : Shared} {K : Frag} {x D : Addr} {ox : Obj} {od : Option Obj}
theorem bound_data {a g : Value} {name : Str} (c : (clsIn K D).isSome = true) (fa : findIn K (.ref D) name = some (some a)) (fg : specialIn K a "__get__" = some (some g)) (ft : takesIn K a = some true) : findObj K D od name = some (.bind g a) := by
  obtain ⟨cd, c⟩ := Option.isSome_iff_exists.mp c
  unfold findObj
  rw [c, Option.bind_some, fa, Option.bind_some]
  simp [fg, ft]
theorem class_of_exc {Q : Option Value → Shared → Prop} (T : ExcC K D) (X : K.In s.heap) (I : InstAt s.heap x ox D od) (h : Q (some (.ref D)) { s with toks := s.toks + 1 }) : wpAny (model prog w) A (getAttr? (.ref x) "__class__") Q E s := by
  have fo : findObj K D od "__class__" = some (.bind (.builtin "getset_descriptor.__get__") (.builtin "object.__class__")) :=
    bound_data (by obtain ⟨cd, e, _⟩ := any_some T.hd; rw [e]; rfl) T.ha T.hn T.ht
  obtain ⟨hp, g, d, t, os⟩ := s
  have M0 := I.type (M := model prog w)
  have M1 := looks_findIn (M := model prog w) X T.hg
  have M2 := looks_findIn (M := model prog w) X T.hk
  have M3 := looks_find (M := model prog w) X I fo
  have sb : Looks (model prog w) hp (isInstance (.ref x) (.type "BaseException")) true := M0.andThen (looks_subIn X T.hs)
  have n2 : (Value.builtin "BaseException.__getattribute__" == Value.builtin "object.__getattribute__") = false := by decide +kernel
  have n1 : (onTheHeap (Value.ref D) && Value.builtin "BaseException.__getattribute__" == Value.builtin "object.__getattribute__") = false := by rw [n2]; rfl
  have n0 : (false && onTheHeap (Value.builtin "BaseException.__getattribute__")) = false := rfl
  unfold getAttr? getAttrBy? getAttrBy
  refine wpAny_bind (wpAny_mkText (wpAny_bind (wpAny_attempt (wpAny_holding (wpAny_bind (M0.at (wpAny_bind (M1.at ?_))))))))
  show wpAny _ _ (ite ((onTheHeap (Value.ref D) && Value.builtin "BaseException.__getattribute__" == Value.builtin "object.__getattribute__") = true) _ _) _ _ _
  rw [n1, if_neg Bool.false_ne_true]
  unfold getAttrByItsOwn hookBefore
  refine wpAny_bind ?_
  have on : onTheHeap (Value.ref D) = true := rfl
  rw [if_pos on]
  refine M2.at (wpAny_bind (wpAny_attempt (wpAny_holding ?_)))
  unfold callGetattribute
  rw [n0, if_neg Bool.false_ne_true]
  unfold boundAndCalled
  rw [PySem.F.excAttr_ValueError.ga.bind (.ref x)]
  refine wpAny_bind (wpAny_pure ?_)
  show wpAny _ _ (call (.builtin "BaseException.__getattribute__") [.ref x, .str "__class__" t]) _ _ _
  refine wpAny_call (codeAny_call_builtin PySem.F.excAttr_ValueError.ga.plain PySem.F.entry_bexc_ga (@check_slot (model prog w) _ _ ⟨hp, g, d, t + 1, os⟩ "BaseException.__getattribute__" "BaseException" "__getattribute__" (.ref x) [.str "__class__" t] [] _ (by decide +kernel) (by decide +kernel) sb (PySem.F.args_bexc_ga (.ref x) (.str "__class__" t)) ?_))
  unfold Builtin.«object.__getattribute__»
  refine wpAny_bind (wpAny_of_eq (a := ((Value.ref x : Value), [Value.str "__class__" t])) (by first | rfl | (simp only [slotArgs]; rfl)) (wpAny_bind (wpAny_pure (wpAny_bind (M0.at (wpAny_bind (M3.at ?_)))))))
  show wpAny _ _ (holding [Value.builtin "object.__class__"] (call (.builtin "getset_descriptor.__get__") [.builtin "object.__class__", .ref x, .ref D]) >>= ret) _ _ _
  refine wpAny_bind (wpAny_holding (wpAny_call (class_get (s := ⟨hp, g, d, t + 1, os⟩) (ox := ox) (od := od) X I T.hm (wpAny_pure ?_))))
  show wpAny _ _ (handedOut (.ref D)) _ _ _
  rw [handedOut_of (v := .ref D) rfl]
  first
    | exact wpAny_pure (wpAny_pure h)
    | exact wpAny_pure h
    | exact wpAny_pure (wpAny_bind (wpAny_pure (wpAny_pure h)))
theorem kit_exc (T : ExcC K D) : KitX K (.ref x) (.ref D) (fun h => ∃ od, InstAt h x ox D od) where
  ty := fun _ _ _ I => I.elim fun _ I => I.type
  it := fun _ _ X _ => by
    obtain ⟨cd, e, _⟩ := any_some T.hd
    unfold clsIn at e
    split at e
    · rename_i ho
      intro A' Q' E' s' k q
      unfold isType loadHead
      exact wpAny_bind (wpAny_loadPart (k _ _ (X _ _ ho)) (wpAny_pure q))
    · cases e
  ne := fun h tp dd its n sl X htp => by
    obtain ⟨cd, e, _⟩ := any_some T.hd
    refine Bool.eq_false_iff.mpr fun q => ?_
    have eq : D = tp := Value.ref.inj (beq_iff_eq.mp q)
    subst eq
    unfold clsIn at e
    split at e
    · rename_i ho
      have z := (X _ _ ho).symm.trans htp
      cases z
    · cases e
  ca := fun X I k => I.elim fun _ I => class_of_exc T X I k
end
end Fv
namespace Fv
open PySem PySem.Spec PyProof.Rows L2
/-- called while an exception, p, is handled: it stands in the state, out of what is tracked -/
structure FnP (P : Program) (w : World) (K : PySem.W.Frag) (mg : Str → Option Value) (base : Heap) (k : Nat) (f : Addr) (fd : FuncData) (ps : List Str) (sp : Addr → Value → Option Addr → Sp) : Prop where
  wide : ∀ a c d xs H Q E, sp a c d xs H Q E → xs.length = ps.length
  go : ∀ (A : Around) (fr : List Env) (s : Shared) (H : Hp) (us : List Value) (xs : List V) (Q : VK) (E : XK) (p : Addr × Obj), L2H.RoomH k A → L2H.PinOk fr H s p → (∃ vs, p.2.data = .fields vs) → Env0 P w K mg base A fr s H →
    (∀ t : Shared, BindsTo t fd ⟨us, []⟩ (ps.zip us)) → Vals xs us → sp p.1 p.2.cls p.2.dict xs H Q E → codeAny (model P w) A (.call (.ref f) ⟨us, []⟩) (CR CX0 fr P w H s Q E) s
section
variable {P : Program} {w : World} {K : PySem.W.Frag} {mg : Str → Option Value} {base : Heap}
theorem okP {x qual : Str} {st : Stmt} {f : Addr} {fd : FuncData} {N ps : List Str} {k : Nat} {sp : Addr → Value → Option Addr → Sp} (F : Fun K x qual st f fd) (S : FnScope N ps (defScope st)) (wide : ∀ a c d xs H Q E, sp a c d xs H Q E → xs.length = ps.length)
    (body : ∀ (cdv : Value) (A : Around) (fr : List Env) (s : Shared) (H : Hp) (xs : List V) (Q : VK) (E : XK) (p : Addr × Obj), L2H.RoomH k (A.deeper (envOfC qual (defScope st) s.heap.objs.size f cdv)) → (∃ vs, p.2.data = .fields vs) → sp p.1 p.2.cls p.2.dict xs H Q E →
      ∃ t, PSs (L2H.cxH CX0 P w K mg base N qual (defScope st) f cdv A fr s H E p).nox (defBody st) t ∧ t { nx := fun _ H' => Q .non H', rt := Q } (start N xs) H) : FnP P w K mg base (k + 1) f fd ps sp := by
  obtain ⟨oc, od, kV, doc, pm, an, cdv, ct, osl, rfl, lk, hcd⟩ := F.ex
  refine ⟨wide, fun A fr s H us xs Q E p hr pin hf e0 hb r hs => ?_⟩
  have old : ∀ b o, base.get? b = some o → s.heap.get? b = some o := fun b o e => (e0.bs b o e).1
  have inK : K.In s.heap := e0.mod.kin.keeps old
  have kinds : ∀ y ∈ ps.zip us, (defScope st).names.lookup y.1 = some .local ∨ ((defScope st).names.lookup y.1 = some .cell ∧ ((cellsFrom (s.heap.objs.size + 1) (defScope st).names []).lookup y.1).isSome = true) := by
    rintro ⟨n, v⟩ hy
    rcases S.par n (List.of_mem_zip hy).1 with q | q
    · exact Or.inl q
    · exact Or.inr ⟨q, PySem.W.cellsFrom_some _ _ _ (Or.inl q)⟩
  refine codeAny_call_function hr.depth (inK _ _ lk) rfl S.co S.gen rfl (PySem.W.codeRec_of inK hcd) (hb _ _ _ _ _ ?_)
  refine wpAny_newFunctionEnv_cells S.kind kinds fun env he s1 ic => ?_
  subst he
  refine ⟨(e0.mod.nolimit.keeps old).keeps ic.toInCall.keep, codeAny_func ?_⟩
  obtain ⟨t, ht, hq⟩ := body cdv A fr s H xs Q E p (hr.deeper _) hf hs
  have I := L2H.inv_startH (CX := CX0) (E := E) S pin e0 (wide _ _ _ _ _ _ _ hs) r ic
  refine wpAny_mono (ht.nox.run [] s1 (start N xs) H _ I hq) (fun fl s' z => ?_) fun _ _ z => z
  cases fl with
  | ret u =>
    obtain ⟨v, σ', H', J, rv, q⟩ := z
    exact ⟨v, H', J.os, J.bare, J.base, J.hok, rv, q⟩
  | next =>
    obtain ⟨σ', H', J, q⟩ := z
    exact ⟨V.non, H', J.os, J.bare, J.base, J.hok, rfl, q⟩
  | brk =>
    obtain ⟨_, _, _, q⟩ := z
    exact q.elim
  | cont =>
    obtain ⟨_, _, _, q⟩ := z
    exact q.elim
end
section
variable {X : Cx} {k : Nat} {f : Addr} {fd : FuncData} {ps : List Str} {sp : Addr → Value → Option Addr → Sp} {x : Str} {q0 pos : Pos} {e : Expr} {es : List Expr} {t : TA} {a0 : Addr} {oe0 : Obj} {cls0 : Value} {d0 : Option Addr}
theorem pe_callP (F : FnP X.prog X.w X.K X.mg X.base k f fd ps sp) (hr : L2H.RoomH k X.A) (hp : (a0, oe0) ∈ X.pn) (hz : Zc cls0 d0 oe0) (hf : ∃ vs, oe0.data = .fields vs) (hg : Gl X x) (hm : X.mg x = some (.ref f)) (hk : PySem.W.keepIn X.K (.ref f) = true) (hbs : BindG fd ps)
    (ha : PA X (e :: es) t) (hdb : (x == ("__debug__" : Str)) = false := by decide) (he : starEach (e :: es) X.env = (false, eval e X.env) :: starEach es X.env := by rfl) (hpl : (backTo pos (starEach es X.env)).any (·.1) = false := by rfl) :
    PE X (.Call (.Name x q0) (e :: es) [] pos) (fun σ H Q => t σ H fun vs H1 => sp a0 cls0 d0 vs H1 Q E0) := by
  refine ⟨fun pins s σ H Q I h => wpAny_Call_Name_kw (ld_glob I hg hm ?_ hdb)⟩
  refine PySem.W.callWith_K (h₀ := X.base) I.ok.mod.kin hk (thn (ha.run pos pins s σ H _ I h) fun us s1 ⟨vs, H1, I1, r, q⟩ => ⟨I1.kIn, ?_⟩) he hpl
  have hl : us.length = ps.length := by rw [← r.length]; exact F.wide _ _ _ _ _ _ _ q
  have P1 := I1.pin (a0, oe0) (List.mem_append_left _ hp)
  have pin : L2H.PinOk X.stack H1 s1 (a0, oe0) := ⟨P1.1, P1.2.1, fun m => (List.mem_cons.mp (I1.stkSub a0 m)).elim P1.2.2.1 P1.2.2.2.1, P1.2.2.2.2⟩
  refine wpAny_call (codeAny_mono (F.go X.A X.stack s1 H1 us vs Q E0 (a0, oe0) hr pin hf I1.env0 (hbs us hl) r (by rw [hz.1, hz.2]; exact q)) fun res s' hq => ?_)
  cases res with
  | error e => exact False.elim hq
  | ok fl =>
    cases fl with
    | ret u => exact I1.after hq
    | next => exact False.elim hq
    | brk => exact False.elim hq
    | cont => exact False.elim hq
/-- what an exception bears: its class, its own dict (if any) tracked -/
def Bears (H : Hp) (oe : Obj) (D : Addr) (d : Option (Addr × List (Str × V))) : Prop :=
  oe.cls = .ref D ∧ (∃ vs, oe.data = .fields vs) ∧ match d with
    | none => oe.dict = none
    | some (dd, fs) => oe.dict = some dd ∧ H dd = some (.xd fs)
theorem bears_at {pins : List (Addr × Obj)} {σ : L2.St} {H : Hp} {s : Shared} {oe : Obj} {a D : Addr} {d : Option (Addr × List (Str × V))} (I : Inv X pins σ H s) (hp : (a, oe) ∈ X.pn) (B : Bears H oe D d) : ∃ od, PySem.W.InstAt s.heap a oe D od := by
  obtain ⟨c, ⟨vs, hv⟩, hd⟩ := B
  have g := (I.pin (a, oe) (List.mem_append_left _ hp)).1
  cases d with
  | none =>
    refine ⟨none, g, c, by unfold PySem.W.notCls; rw [hv] <;> rfl, ?_⟩
    have hd : oe.dict = none := hd
    rw [hd]
    trivial
  | some d =>
    obtain ⟨dd, fs⟩ := d
    obtain ⟨h1, h2⟩ := hd
    obtain ⟨mA, ⟨o, es, ep, ho, r⟩, _⟩ := (show ObjOk X.prog X.w H s.heap dd (.xd fs) from I.hok dd _ h2)
    exact ⟨some o, g, c, by unfold PySem.W.notCls; rw [hv] <;> rfl, by rw [h1]; exact ho⟩
/-- isinstance(e, c), e the pinned exception -/
def rIsP (K : PySem.W.Frag) (a : Addr) (oe : Obj) : List V → Hp → VK → Prop := fun xs H Q => ∃ (D : Addr) (d : Option (Addr × List (Str × V))) (c : V) (u : Value) (b : Bool), xs = [.ref a, c] ∧ Bears H oe D d ∧ ExcC K D ∧ ClsV c u ∧ PySem.W.kitOne K (.ref D) u = some b ∧ Q (.bl b) H
theorem call_isP {a : Addr} {oe : Obj} (hp : (a, oe) ∈ X.pn) : CallR X (.builtin "isinstance") (rIsP X.K a oe) := by
  intro pins s σ H xs us Q I r h
  obtain ⟨D, d, c, u, b, rfl, B, C, k, e, q⟩ := h
  cases r with
  | cons rx rr =>
    cases rr with
    | cons rt rr =>
      cases rr
      cases rx
      have ec := k.eq rt
      subst ec
      exact PySem.W.kia_one (kit_exc C) I.kIn (bears_at I hp B) e (fun z => nomatch z) fun tk => ⟨.bl b, H, I.tok tk, rfl, q⟩
/-- e.f, e the pinned exception -/
def tXfP (K : PySem.W.Frag) (a : Addr) (oe : Obj) (n : Str) (te : TE) : TE := fun σ H Q => te σ H fun x H1 => x = .ref a ∧ ∃ (C dd : Addr) (fs : List (Str × V)) (v : V), Bears H1 oe C (some (dd, fs)) ∧ XfC K C ∧ PySem.W.findIn K (.ref C) n = some none ∧ fs.lookup n = some v ∧ Q v H1
theorem pe_xfP {a : Addr} {oe : Obj} {n : Str} {te : TE} (hp : (a, oe) ∈ X.pn) (he : PE X e te) (hb : attributeBase e n X.env (eval e X.env) = eval e X.env := by rfl) : PE X (.Attribute e n pos) (tXfP X.K a oe n te) := by
  refine ⟨fun pins s σ H Q I h => attr_of hb (thn (he.run pins s σ H _ I h) fun u s1 hh => ?_)⟩
  obtain ⟨x, H1, I1, rx, rfl, C, dd, fs, v, ⟨c1, ⟨vs, c2⟩, c3, c4⟩, T, hno, l, q⟩ := hh
  obtain rfl : u = Value.ref a := rx
  have g := (I1.pin (a, oe) (List.mem_append_left _ hp)).1
  obtain ⟨mA, hns, hr⟩ := (show ObjOk X.prog X.w H1 s1.heap dd (.xd fs) from I1.hok dd _ c4)
  obtain ⟨od, ho, hl⟩ := lookIn_ns hns
  obtain ⟨u, hu, ru⟩ := RelO.some_of (v := v) (o := mA n) (by rw [← l]; exact hr n)
  have J : PySem.W.InstAt s1.heap a oe C (some od) := ⟨g, c1, by unfold PySem.W.notCls; rw [c2] <;> rfl, by rw [c3]; exact ho⟩
  exact HandSPX.exc_get I1.kIn J T.ga T.gg T.exC (PySem.W.findObj_own T.hdC hno rfl (by rw [hl, hu])) (handed_of ru) ⟨v, H1, I1.tok _, ru, q⟩
/-- X(), X an own class without __init__ -/
theorem pmk_bare {C : Addr} {bmB : List Value} {B newId initId : String} (F : ExcBaseFacts B newId initId bmB) (q : PySem.W.excIn X.K C bmB newId = true) (gC : X.mg x = some (.ref C)) (kC : PySem.W.keepIn X.K (.ref C) = true) (r : Raises X (.ref C)) (hg : Gl X x)
    (hdb : (x == ("__debug__" : Str)) = false := by decide) : PMk X (.Call (.Name x q0) [] [] pos) (fun _ H Q => Q (.ref C) none H) := by
  intro pins s σ H Q I h
  refine wpAny_Call_Name_kw (ld_glob I hg gC ?_ hdb)
  refine PySem.W.callWith_K0 I.kIn kC ?_
  obtain ⟨bm, N, nm, qn, bs, hdct, sn, sub, ab, col, dd, k0, k1, k2, k3, k5, mN, hC, hN, hni, T⟩ := exc_obj I.kIn q
  exact wpAny_call_exc_subT F T hC hN hni (fun h' e hm => mk_of I hm r h (I.hok.gone hm.new)) (by show 0 ≤ sizeLine; exact Nat.zero_le _)
end
end Fv


set_option Elab.async false
set_option linter.all false
set_option maxRecDepth 100000
set_option maxHeartbeats 1000000
namespace Fv
open PySem PySem.Spec PyProof.Rows L2
/-- a value that is compared at once: flat, or one object -/
def Plain (v : V) : Prop := flatB v = true ∨ ∃ c, v = .ref c
theorem same_items {P : Program} {w : World} {A : Around} {s : Shared} : ∀ {xs : List V} {us ws : List Value}, (∀ v ∈ xs, Plain v) → Vals xs us → Vals xs ws → ∀ j (h1 : j < us.length) (h2 : j < ws.length), SeqAt.EqAt A s us[j] ws[j] true
  | _, _, _, _, .nil, .nil, j, h1, _ => absurd h1 (Nat.not_lt_zero j)
  | v :: xs, _, _, h, .cons a t, .cons b u, 0, _, _ => by
    rcases h v List.mem_cons_self with f | ⟨c, rfl⟩
    · exact eqAt_same a b f
    · cases a
      cases b
      exact SeqAt.EqAt.same _
  | v :: xs, _, _, h, .cons a t, .cons b u, j + 1, h1, h2 => same_items (P := P) (w := w) (fun x hx => h x (List.mem_cons_of_mem _ hx)) t u j (Nat.lt_of_succ_lt_succ h1) (Nat.lt_of_succ_lt_succ h2)
def rNeSame (K : PySem.W.Frag) : R2 := fun x y H Q => ∃ (a b : Addr) (xs : List V), x = .ref a ∧ y = .ref b ∧ SqL K H a xs ∧ SqL K H b xs ∧ (∀ v ∈ xs, Plain v) ∧ Q (.bl false) H
section
variable {X : Cx}
theorem op_neSame (hu : X.A.units + 64 < cLine) : OpR X (compareOp .NotEq) (rNeSame X.K) := by
  intro pins s σ H x y v u Q I rx ry h
  obtain ⟨a, b, xs, rfl, rfl, ha, hb, hp, q⟩ := h
  cases rx
  cases ry
  obtain ⟨us, r1, p1, _⟩ := I.list ha
  obtain ⟨ws, r2, p2, _⟩ := I.list hb
  have hsz : us.toArray.size = ws.toArray.size := by rw [List.size_toArray, List.size_toArray, ← r1.length, ← r2.length]
  have he : ∀ j (j1 : j < us.toArray.size) (j2 : j < ws.toArray.size), SeqAt.EqAt X.A.in1 s us.toArray[j] ws.toArray[j] ((fun _ => true) j) := fun j j1 j2 => by
    have := same_items (P := X.prog) (w := X.w) (A := X.A.in1) (s := s) hp r1 r2 j (by simpa using j1) (by simpa using j2)
    simpa using this
  have ne := SeqAt.RcNeAt.lists p1.isList p2.isList hsz (by omega) he
  refine ne X.prog X.w _ _ ?_
  rw [show ((List.range us.toArray.size).all fun _ => true) = true from List.all_eq_true.mpr fun _ _ => rfl]
  exact ⟨.bl false, H, I, rfl, q⟩
/-- lists put together, cut: new lists at none of the first places -/
def rCatB : R2 := fun x y H Q => ∃ (l b : Addr) (xs zs : List V), x = .ref l ∧ y = .ref b ∧ H l = some (.lst xs) ∧ H b = some (.lst zs) ∧ xs.length + zs.length ≤ sizeLine ∧ ∀ p, H p = none → p ≠ sysModules → Q (.ref p) (upd H p (.lst (xs ++ zs)))
theorem op_catB : OpR X (binaryOp .Add) rCatB := by
  intro pins s σ H x y v u Q I rx ry h
  obtain ⟨l, b, xs, zs, rfl, rfl, e1, e2, hz, q⟩ := h
  cases rx
  cases ry
  obtain ⟨_, us, n, r, _, g⟩ := I.lstM e1
  obtain ⟨_, ws, m, r2, _, g2⟩ := I.lstM e2
  have hl := r.length
  have hl2 := r2.length
  refine PySem.P.add_list g g2 ?_ (by rw [List.size_toArray, List.size_toArray]; omega)
  rw [show us.toArray ++ ws.toArray = (us ++ ws).toArray from by simp]
  exact ⟨.ref _, _, I.lnew (t' := s.toks) (r.append r2) (by rw [List.length_append]; omega), rfl, q _ I.fresh (Nat.ne_of_gt I.big)⟩
def rSlB (K : PySem.W.Frag) : V → Option Int → Option Int → Hp → VK → Prop := fun x lo hi H Q => ∃ (a : Addr) (xs : List V), x = .ref a ∧ SqL K H a xs ∧ ∀ p, H p = none → p ≠ sysModules → Q (.ref p) (upd H p (.lst (cutV xs lo hi)))
theorem sl_listB : SlR X (rSlB X.K) := by
  intro pins s σ H x v vl vu lo hi sl Q I rx hs pl pu h
  obtain ⟨a, xs, rfl, hx, q⟩ := h
  cases rx
  obtain ⟨us, r, pt, hz⟩ := I.list hx
  have hlen := r.length
  refine ⟨"list", _, slot_list_getitem.lookup, pt.isList.typeIs, wpAny_getItem_list_slice pt.isList hs pl pu .none (by simp) ?_ (by rw [List.size_toArray]; omega)⟩
  rw [slicePick_cut, ← hlen]
  have J : Inv X pins σ (upd H s.heap.objs.size (.lst (cutV xs lo hi))) { s with heap := s.heap.push { cls := .type "list", data := .seq ((us.drop (HT.sIx xs.length 0 lo)).take (HT.sIx xs.length xs.length hi - HT.sIx xs.length 0 lo)).toArray } } :=
    I.laid (t' := s.toks) (fun b ob q => Heap.get?_push_of_some _ q) (Nat.le_refl _) ⟨Nat.le_trans (cutV_length xs lo hi) hz, _, 0, (r.drop _).take _, Heap.get?_push_size _ rfl⟩
  exact ⟨.ref _, _, J, rfl, q _ I.fresh (Nat.ne_of_gt I.big)⟩
end
end Fv


set_option Elab.async false
set_option linter.all false
set_option maxRecDepth 100000
set_option maxHeartbeats 1000000
namespace Fv
open PySem PySem.Spec PyProof.Rows L2
def top (i : Nat) : Stmt := PySem.Challenge.pw_farapart_k12_errors_kept.main.body.getD i (.Pass ⟨0, 0, 0, 0⟩)
abbrev sBag : Stmt := top 25
abbrev sTake : Stmt := top 26
/-! ### the bag -/
def bagV (p s : Int) (i : Nat) (c : Addr) : HO := .lst [.int p, .int s, .int i, .ref c]
structure BagIs (H : Hp) (b c : Addr) (cs : List Int) (p s : Int) (i : Nat) : Prop where
  at_ : H b = some (bagV p s i c)
  cells : H c = some (.lst (cs.map V.int))
  ne : c ≠ b
  p0 : 0 ≤ p
  s0 : 0 ≤ s
  cs0 : ∀ z ∈ cs, 0 ≤ z
def Bag (H : Hp) (b : Addr) : Prop := ∃ c cs p s i, BagIs H b c cs p s i
def BagAt (H : Hp) (b c : Addr) : Prop := ∃ cs p s i, BagIs H b c cs p s i
theorem BagAt.bag {H : Hp} {b c : Addr} (h : BagAt H b c) : Bag H b := ⟨c, h⟩
theorem BagIs.same {H : Hp} {b c d : Addr} {cs : List Int} {p s : Int} {i : Nat} (B : BagIs H b c cs p s i) (h : BagAt H b d) : d = c := by
  obtain ⟨cs', p', s', i', B'⟩ := h
  have e := B'.at_.symm.trans B.at_
  unfold bagV at e
  simp only [Option.some.injEq, HO.lst.injEq, List.cons.injEq, V.ref.injEq, and_true] at e
  exact e.2.2.2
theorem BagAt.put {H : Hp} {b c D : Addr} {o : HO} (h : BagAt H b c) (nb : D ≠ b) (nc : D ≠ c) : BagAt (upd H D o) b c := by
  obtain ⟨cs, p, s, i, B⟩ := h
  exact ⟨cs, p, s, i, by rw [upd_ne nb.symm]; exact B.at_, by rw [upd_ne nc.symm]; exact B.cells, B.ne, B.p0, B.s0, B.cs0⟩
theorem BagAt.new {H : Hp} {b c D : Addr} {o : HO} (h : BagAt H b c) (n : H D = none) : BagAt (upd H D o) b c ∧ D ≠ b ∧ D ≠ c := by
  obtain ⟨cs, p, s, i, B⟩ := id h
  have n1 := (ne_of_none B.at_ n).symm
  have n2 := (ne_of_none B.cells n).symm
  exact ⟨h.put n1 n2, n1, n2⟩
def Keep (b : Addr) (H H' : Hp) : Prop := ∀ a o, a ≠ b → H a = some o → H' a = some o
theorem Keep.refl {b : Addr} {H : Hp} : Keep b H H := fun _ _ _ e => e
theorem Keep.trans {b : Addr} {H H1 H2 : Hp} (h : Keep b H H1) (k : Keep b H1 H2) : Keep b H H2 := fun a o n e => k a o n (h a o n e)
theorem Keep.upd {b : Addr} {H : Hp} {o : HO} : Keep b H (upd H b o) := fun a u n e => by rw [upd_ne n]; exact e
theorem Keep.new {b p : Addr} {H : Hp} {o : HO} (n : H p = none) : Keep b H (L2.upd H p o) := fun a u _ e => by rw [upd_ne (ne_of_none e n)]; exact e
theorem Bag.new {b p : Addr} {H : Hp} {o : HO} (B : Bag H b) (n : H p = none) : Bag (upd H p o) b := by
  obtain ⟨c, cs, q, s, i, B⟩ := B
  exact ⟨c, cs, q, s, i, by rw [upd_ne (ne_of_none B.at_ n)]; exact B.at_, by rw [upd_ne (ne_of_none B.cells n)]; exact B.cells, B.ne, B.p0, B.s0, B.cs0⟩
theorem BagIs.set {H : Hp} {b c : Addr} {cs : List Int} {p s p' s' : Int} {i i' : Nat} (B : BagIs H b c cs p s i) (hp : 0 ≤ p') (hs : 0 ≤ s') : BagIs (upd H b (bagV p' s' i' c)) b c cs p' s' i' :=
  ⟨upd_same, by rw [upd_ne B.ne]; exact B.cells, B.ne, hp, hs, B.cs0⟩
theorem cutK {t u : TS} {D : Ends} {σ : L2.St} {H : Hp} (P : L2.St → Hp → Prop) (k : ∀ σ' H', P σ' H' → u D σ' H') (h : (∀ σ' H', P σ' H' → u D σ' H') → tSeq t u D σ H) : tSeq t u D σ H := h k
theorem asgC {v : V} {i : Nat} {u : TS} {D : Ends} {σ : L2.St} {H : Hp} (h : u D (σ.set i (some v)) H) : tSeq (tAsg (tC v) (gName i)) u D σ H := h
theorem nz1 : (1000000007 : Int) ≠ 0 := by decide
theorem nz2 : (998244353 : Int) ≠ 0 := by decide
theorem nz3 : (2147483647 : Int) ≠ 0 := by decide
theorem modN {a m : Int} (ha : 0 ≤ a) (hm : 0 < m) : ∃ r : Nat, a.fmod m = (r : Int) ∧ (r : Int) < m := by
  have e : a.fmod m = a % m := Int.fmod_eq_emod_of_nonneg a (by omega)
  have h0 : 0 ≤ a % m := Int.emod_nonneg a (by omega)
  have h1 : a % m < m := Int.emod_lt_of_pos a hm
  exact ⟨(a % m).toNat, by rw [e]; omega, by omega⟩
section
variable {P : Program} {w : World} {K : PySem.W.Frag} {mg : Str → Option Value} {base : Heap}
def spTake : Sp := fun vs H Q _ => ∃ (b : Addr) (m : Int), vs = [.ref b, .int m] ∧ Bag H b ∧ 0 < m ∧ m ≤ 1000000 ∧ ∀ (r : Nat) (H' : Hp), (r : Int) < m → Bag H' b → Keep b H H' → (∀ c, BagAt H b c → BagAt H' b c) → Q (.int r) H'
theorem scT : FnScope ["_law_bag_here", "_law_many", "_law_cell", "_law_mixed", "_law_value", "_law_begin", "_law_second"] ["_law_bag_here", "_law_many"] (defScope sTake) := ⟨rfl, rfl, rfl, by decide +kernel, rfl, by decide +kernel, by decide +kernel⟩
theorem ok_take {f : Addr} {fd : FuncData} (F : Fun K "_law_take" "_law_take" sTake f fd) (mi : mg "int" = none) (ml : mg "len" = none) : FnOk P w K mg base CX0 1 f fd ["_law_bag_here", "_law_many"] spTake := by
  refine F.ok scT (fun vs H Q E h => ?_) (fun cdv A outer s H vs Q E hr h => ?_)
  · obtain ⟨b, m, rfl, _⟩ := h
    rfl
  · obtain ⟨b, m, rfl, B, m0, m1, q⟩ := h
    refine ⟨_, pss_cons (ps_if (pt_cmpR op_eq (pe_ix ix_list (pv 0) pe_int (fun _ _ => rfl)) pe_int (nomark _))
        (pss_cons (ps_set (i := 2) scT.nd rfl (.inl rfl) pe_int)
        (pss_cons (ps_if (pt_cmpR op_lt (pe_ix ix_list (pv 0) pe_int (fun _ _ => rfl)) (pe_callB call_len_seq (by rfl) ml PySem.boot_len (pa_cons (pe_ix ix_list (pv 0) pe_int (fun _ _ => rfl)) pa_nil)) (nomark _))
          (pss_one (ps_set (i := 2) scT.nd rfl (.inl rfl) (pe_ix ix_list (pe_ix ix_list (pv 0) pe_int (fun _ _ => rfl)) (pe_ix ix_list (pv 0) pe_int (fun _ _ => rfl)) (fun _ _ => rfl)))) pss_nil)
        (pss_cons (ps_augS (pv 0) pe_int pget_list pe_int ip_add set_list)
        (pss_cons (ps_if (pt_cmpR op_ge (pv 2) pe_int (nomark _)) (pss_one (ps_asg (pv 2) (pg_sub (pv 0) pe_int set_list))) pss_nil)
        (pss_cons (ps_set (i := 3) scT.nd rfl (.inl rfl) (pe_op op_add (pe_op op_add (pe_op op_mul (pe_ix ix_list (pv 0) pe_int (fun _ _ => rfl)) pe_int) (pe_op op_modN (pe_callTy call_int1 (by rfl) mi (by decide +kernel) (pa_cons (pv 2) pa_nil)) pe_int))
          (pe_op op_mul pe_int (pe_ix ix_list (pv 0) pe_int (fun _ _ => rfl)))))
        (pss_one (ps_asg (pe_op op_modN (pe_callTy call_int1 (by rfl) mi (by decide +kernel) (pa_cons (pv 3) pa_nil)) pe_int) (pg_sub (pv 0) pe_int set_list)))))))) pss_nil)
      (pss_cons (ps_if (pt_cmpR op_gt (pe_ix ix_list (pv 0) pe_int (fun _ _ => rfl)) pe_int (nomark _))
        (pss_cons (ps_set (i := 4) scT.nd rfl (.inl rfl) (pe_op op_modN (pe_callTy call_int1 (by rfl) mi (by decide +kernel) (pa_cons (pe_ix ix_list (pv 0) pe_int (fun _ _ => rfl)) pa_nil)) (pv 1)))
        (pss_cons (ps_asg (pe_op op_fdivN (pe_ix ix_list (pv 0) pe_int (fun _ _ => rfl)) (pv 1)) (pg_sub (pv 0) pe_int set_list))
        (pss_one (ps_ret (pv 4))))) pss_nil)
      (pss_cons (ps_set (i := 5) scT.nd rfl (.inl rfl) (pe_op op_modN (pe_callTy call_int1 (by rfl) mi (by decide +kernel) (pa_cons (pe_op op_mul (pe_op op_add (pe_ix ix_list (pv 0) pe_int (fun _ _ => rfl)) pe_int) pe_int) pa_nil)) pe_int))
      (pss_cons (ps_set (i := 6) scT.nd rfl (.inl rfl) (pe_op op_modN (pe_callTy call_int1 (by rfl) mi (by decide +kernel) (pa_cons (pe_op op_mul (pe_op op_modN (pe_callTy call_int1 (by rfl) mi (by decide +kernel) (pa_cons (pe_op op_mul (pv 5) (pv 5)) pa_nil)) pe_int) pe_int) pa_nil)) pe_int))
      (pss_cons (ps_if (pt_cmpR op_gt (pv 1) pe_int (nomark _)) (pss_one ps_never) pss_nil)
      (pss_one (ps_ret (pe_op op_modN (pe_callTy call_int1 (by rfl) mi (by decide +kernel) (pa_cons (pe_op op_fdivN (pv 6) pe_int) pa_nil)) (pv 1)))))))), ?_⟩
    refine cutK (fun σ' H' => ∃ c x : Option V, σ' = [some (.ref b), some (.int m), c, x, none, none, none] ∧ Bag H' b ∧ Keep b H H' ∧ ∀ c, BagAt H b c → BagAt H' b c) ?_ (fun k => ?_)
    · rintro σ' H' ⟨c, x, rfl, B', kp, st⟩
      obtain ⟨cc, cs, p, s, i, B'⟩ := B'
      have hb : SqL K H' b [.int p, .int s, .int i, .ref cc] := SqL.of B'.at_
      have mne : m ≠ 0 := by omega
      refine ⟨_, rfl, b, _, _, _, rfl, rfl, hb, atI_nat (j := 0) rfl, _, _, rfl, rfl, _, rfl, ite2 (fun e => ?_) (fun e => ?_)⟩
      · obtain ⟨r, er, r1⟩ := modN B'.p0 m0
        refine ⟨_, rfl, b, _, _, _, rfl, rfl, hb, atI_nat (j := 0) rfl, .inl ⟨_, rfl, _, rfl, _, _, rfl, rfl, mne, ?_⟩⟩
        refine ⟨_, rfl, b, _, _, _, rfl, rfl, hb, atI_nat (j := 0) rfl, _, rfl, _, _, rfl, rfl, ⟨mne, by omega⟩, _, rfl, b, _, _, _, rfl, rfl, B'.at_, rfl, ?_⟩
        refine ⟨_, rfl, ?_⟩
        show Q (V.int (p.fmod m)) _
        rw [er]
        have Bd : BagIs (upd H' b (bagV (p.fdiv m) s i cc)) b cc cs (p.fdiv m) s i := B'.set (Int.fdiv_nonneg B'.p0 (by omega)) B'.s0
        refine q r _ r1 ⟨cc, cs, _, _, _, Bd⟩ (kp.trans Keep.upd) fun c hc => ?_
        rw [B'.same (st c hc)]
        exact ⟨cs, _, _, _, Bd⟩
      · obtain ⟨g, eg, g1⟩ := modN (a := (s + 1) * 39373) (m := 1000000007) (by have := B'.s0; omega) (by decide)
        refine ⟨_, rfl, b, _, _, _, rfl, rfl, hb, atI_nat (j := 1) rfl, _, _, rfl, rfl, _, _, rfl, rfl, .inr ⟨by decide, by decide⟩, .inl ⟨_, rfl, _, _, rfl, rfl, nz1, ?_⟩⟩
        dsimp only
        rw [eg]
        obtain ⟨g2, eg2, g3⟩ := modN (a := (g : Int) * g) (m := 998244353) (Int.mul_nonneg (by omega) (by omega)) (by decide)
        refine ⟨_, rfl, _, rfl, _, _, rfl, rfl, .inl ⟨by omega, by omega⟩, .inl ⟨_, rfl, _, _, rfl, rfl, nz2, ?_⟩⟩
        dsimp only
        rw [eg2]
        obtain ⟨g4, eg4, g5⟩ := modN (a := (g2 : Int) * 30011) (m := 998244353) (by omega) (by decide)
        refine ⟨_, _, rfl, rfl, .inr ⟨by decide, by decide⟩, .inl ⟨_, rfl, _, _, rfl, rfl, nz2, ?_⟩⟩
        dsimp only
        rw [eg4]
        refine ⟨_, rfl, _, _, rfl, rfl, _, rfl, ite2 (fun e => ?_) (fun e => ?_)⟩
        · exact absurd (of_decide_eq_true e) (by omega)
        · obtain ⟨r, er, r1⟩ := modN (a := (g4 : Int).fdiv 7) (m := m) (Int.fdiv_nonneg (by omega) (by decide)) m0
          refine ⟨_, rfl, _, _, rfl, rfl, ⟨by decide, by decide⟩, .inl ⟨_, rfl, _, rfl, _, _, rfl, rfl, mne, ?_⟩⟩
          show Q (V.int (((g4 : Int).fdiv 7).fmod m)) _
          rw [er]
          exact q r _ r1 ⟨cc, cs, p, s, i, B'⟩ kp st
    · obtain ⟨cc, cs, p, s, i, B⟩ := B
      have hb : SqL K H b [.int p, .int s, .int i, .ref cc] := SqL.of B.at_
      refine ⟨_, rfl, b, _, _, _, rfl, rfl, hb, atI_nat (j := 0) rfl, rfl, _, rfl, ite2 (fun e => ?_) (fun e => ?_)⟩
      · -- what follows the reading of the cell
        refine asgC ?_
        refine cutK (fun σ' H' => ∃ z : Int, 0 ≤ z ∧ σ' = [some (.ref b), some (.int m), some (.int z), none, none, none, none] ∧ H' = H) ?_ (fun k2 => ?_)
        · rintro σ' H' ⟨z, z0, rfl, rfl⟩
          refine ⟨_, rfl, b, _, 2, _, rfl, rfl, hb, rfl, _, _, rfl, rfl, b, _, _, _, rfl, rfl, B.at_, rfl, ?_⟩
          have B1 : BagIs (upd H' b (bagV p s (i + 1) cc)) b cc cs p s (i + 1) := B.set B.p0 B.s0
          dsimp only
          refine cutK (fun σ1 H1 => σ1 = [some (.ref b), some (.int m), some (.int z), none, none, none, none] ∧ Keep b H' H1 ∧ ∃ p', BagIs H1 b cc cs p' s (i + 1)) ?_ (fun k3 => ?_)
          · rintro σ1 H1 ⟨rfl, kp, p', B2⟩
            have hb2 : SqL K H1 b [.int p', .int s, .int ((i + 1 : Nat) : Int), .ref cc] := SqL.of B2.at_
            refine ⟨_, rfl, b, _, _, _, rfl, rfl, hb2, atI_nat (j := 1) rfl, _, _, rfl, rfl, .inr ⟨by decide, by decide⟩, _, rfl, .inl ⟨_, rfl, _, _, rfl, rfl, nz3, ?_⟩⟩
            obtain ⟨g, eg, g1⟩ := modN (a := z) (m := 2147483647) z0 (by decide)
            dsimp only
            rw [eg]
            refine ⟨_, _, rfl, rfl, _, rfl, b, _, _, _, rfl, rfl, hb2, atI_nat (j := 2) rfl, _, _, rfl, rfl, .inl ⟨by decide, by decide⟩, _, _, rfl, rfl, ?_⟩
            obtain ⟨g2, eg2, g3⟩ := modN (a := s * 48271 + (g : Int) + 7919 * ((i + 1 : Nat) : Int)) (m := 2147483647) (by have := B.s0; omega) (by decide)
            refine ⟨_, rfl, .inl ⟨_, rfl, _, _, rfl, rfl, nz3, ?_⟩⟩
            dsimp only
            rw [eg2]
            refine ⟨_, rfl, b, _, _, _, rfl, rfl, B2.at_, rfl, ?_⟩
            exact k _ _ ⟨_, _, rfl, ⟨cc, cs, p', _, i + 1, B2.set (i' := i + 1) B2.p0 (Int.natCast_nonneg g2)⟩, kp.trans Keep.upd, fun c hc => by
              rw [B.same hc]
              exact ⟨cs, p', _, i + 1, B2.set (i' := i + 1) B2.p0 (Int.natCast_nonneg g2)⟩⟩
          · refine ⟨_, rfl, _, _, rfl, rfl, _, rfl, ite2 (fun e => ?_) (fun e => ?_)⟩
            · exact ⟨_, rfl, _, rfl, b, _, _, _, rfl, rfl, B1.at_, rfl, k3 _ _ ⟨rfl, Keep.upd.trans Keep.upd, z, B1.set (i' := i + 1) z0 B1.s0⟩⟩
            · exact k3 _ _ ⟨rfl, Keep.upd, p, B1⟩
        · refine ⟨_, rfl, b, _, _, _, rfl, rfl, hb, atI_nat (j := 2) rfl, _, rfl, b, _, _, _, rfl, rfl, hb, atI_nat (j := 3) rfl, cc, cs.map V.int, rfl, .inl (SqL.of B.cells), _, _, rfl, rfl, _, rfl, ite2 (fun e => ?_) (fun e => ?_)⟩
          · have hi : i < cs.length := by
              have := of_decide_eq_true e
              rw [List.length_map] at this
              omega
            have gi : (cs.map V.int)[i]? = some (.int cs[i]) := by
              rw [List.getElem?_map, List.getElem?_eq_getElem hi]
              rfl
            refine ⟨_, rfl, b, _, _, _, rfl, rfl, hb, atI_nat (j := 3) rfl, _, rfl, b, _, _, _, rfl, rfl, hb, atI_nat (j := 2) rfl, cc, _, _, _, rfl, rfl, SqL.of B.cells, atI_nat gi, ?_⟩
            exact k2 _ _ ⟨cs[i], B.cs0 _ (List.getElem_mem hi), rfl, rfl⟩
          · exact k2 _ _ ⟨0, by decide, rfl, rfl⟩
      · exact k _ _ ⟨none, none, rfl, ⟨cc, cs, p, s, i, B⟩, Keep.refl, fun _ h => h⟩
end
end Fv


set_option Elab.async false
set_option linter.all false
set_option maxRecDepth 100000
set_option maxHeartbeats 1000000
namespace Fv
open PySem PySem.Spec PyProof.Rows L2
section
variable {P : Program} {w : World} {K : PySem.W.Frag} {mg : Str → Option Value} {base : Heap}
def spBag (K : PySem.W.Frag) : Sp := fun vs H Q _ => ∃ (a : Addr) (ns : List Int), vs = [.ref a] ∧ SqL K H a (ns.map V.int) ∧ ns.length ≤ 63 ∧ ∀ (b : Addr) (H' : Hp), Bag H' b → Same H H' → Q (.ref b) H'
theorem scB : FnScope ["_law_script", "_law_cell"] ["_law_script"] (defScope sBag) := ⟨rfl, rfl, rfl, by decide +kernel, rfl, by decide +kernel, by decide +kernel⟩
theorem ok_bag {f : Addr} {fd : FuncData} (F : Fun K "_law_bag" "_law_bag" sBag f fd) (ma : mg "abs" = none) : FnOk P w K mg base CX0 1 f fd ["_law_script"] (spBag K) := by
  refine F.ok scB (fun vs H Q E h => ?_) (fun cdv A outer s H vs Q E hr h => ?_)
  · obtain ⟨b, m, rfl, _⟩ := h
    rfl
  · obtain ⟨a, ns, rfl, hS, hlen, q⟩ := h
    refine ⟨_, pss_one (ps_ret (pe_lst (pa_cons pe_int (pa_cons pe_int (pa_cons pe_int (pa_cons
      (pe_lc (own := [("_law_cell", 1)]) (g := gName 1) (tt := tYes) rfl scB.nd (pi_list (pe_slice sl_list (pv 0) po_none (po_some pe_int))) (blkOk_by (N := ["_law_script", "_law_cell"]) (sc := defScope sBag) (by decide +kernel))
        (fun _ _ _ _ _ => pg_name (i := 1) scB.nd rfl (Or.inl rfl)) (fun _ _ _ _ _ => pts_nil) (fun _ _ _ _ _ => pe_callB call_abs (by rfl) ma (by decide +kernel) (pa_cons (pv 1) pa_nil))) pa_nil)))))), ?_⟩
    refine ⟨_, rfl, _, rfl, a, ns.map V.int, rfl, hS, fun p np => ?_⟩
    have cut : cutV (ns.map V.int) none (some 63) = ns.map V.int := by
      unfold cutV
      rw [HT.sIx_none, show HT.sIx (ns.map V.int).length (ns.map V.int).length (some 63) = min 63 (ns.map V.int).length from HT.sIx_nat _ _ 63, List.drop_zero, List.length_map, List.take_of_length_le (by rw [List.length_map]; omega)]
    rw [cut]
    refine ⟨p, rfl, ⟨_, SqL.of upd_same⟩, fun D hD => ?_⟩
    have pD : p ≠ D := fun e => by rw [← e, upd_same] at hD; cases hD
    refine lc_list (K := K) (a := p) (xs := ns.map V.int) (fun i H1 => (∀ b o, H b = some o → H1 b = some o) ∧ H1 p = some (.lst (ns.map V.int)) ∧ H1 D = some (.lst ((ns.take i).map fun z => V.int (if z < 0 then -z else z)))) ?_ (fun i H1 _ h => SqL.of h.2.1) ?_ ?_
    · exact ⟨fun b o e => by rw [upd_ne (ne_of_none (by rw [upd_ne (ne_of_none e np)]; exact e) hD), upd_ne (ne_of_none e np)]; exact e, by rw [upd_ne pD]; exact upd_same, upd_same⟩
    · rintro i y H1 hi ⟨s1, e1, e2⟩
      obtain ⟨z, hz, rfl⟩ : ∃ z, ns[i]? = some z ∧ y = V.int z := by
        rw [List.getElem?_map] at hi
        cases e : ns[i]? with
        | none => rw [e] at hi; cases hi
        | some z => rw [e] at hi; exact ⟨z, rfl, (Option.some.inj hi).symm⟩
      have hn : i < ns.length := (List.getElem?_eq_some_iff.mp hz).1
      refine ⟨rfl, _, rfl, z, rfl, _, e2, ?_, ?_⟩
      · rw [List.length_map, List.length_take]
        exact small1000 (by omega)
      · refine ⟨fun b o e => ?_, by rw [upd_ne pD]; exact e1, ?_⟩
        · have : b ≠ D := ne_of_none (H := upd H p (.lst (ns.map V.int))) (by rw [upd_ne (ne_of_none e np)]; exact e) hD
          rw [upd_ne this]
          exact s1 b o e
        · rw [upd_same, List.take_add_one, hz, List.map_append]
          rfl
    · rintro H1 ⟨s1, e1, e2⟩
      refine ⟨by show 4 ≤ sizeLine; decide, fun b nb => ?_⟩
      rw [List.length_map, List.take_length] at e2
      refine q b _ ⟨D, ns.map fun z => if z < 0 then -z else z, 0, 1234567891, 0, ?_⟩ fun c o e => by rw [upd_ne (ne_of_none (s1 c o e) nb)]; exact s1 c o e
      refine ⟨upd_same, ?_, ne_of_none e2 nb, by decide, by decide, fun z hz => ?_⟩
      · rw [upd_ne (ne_of_none e2 nb), e2, List.map_map]
        rfl
      · obtain ⟨x, _, rfl⟩ := List.mem_map.mp hz
        split <;> omega
end
end Fv


set_option Elab.async false
set_option linter.all false
set_option maxRecDepth 100000
set_option maxHeartbeats 1000000
namespace Fv
open PySem PySem.Spec PyProof.Rows L2
def shortD : PyData → Prop := fun _ => True
theorem same_upd {H : Hp} {p : Addr} {o : HO} (h : H p = none) : Same H (upd H p o) := fun b x e => by
  rw [upd_ne (ne_of_none e h)]
  exact e
theorem Dq.plain {H : Hp} {b : Addr} {v : V} {d : PyData} (h : Dq H b v d) : Plain v := by
  cases h <;> first | exact .inl rfl | exact .inr ⟨_, rfl⟩
theorem Fine.line {d : PyData} (h : Fine d) : d.shown.length ≤ sizeLine := Nat.le_trans h.len (by decide)
theorem Fine.low {d : PyData} (h : Fine d) : d.depth ≤ 20 := Nat.le_trans h.deep (by decide)
end Fv


set_option Elab.async false
set_option linter.all false
set_option maxRecDepth 100000
set_option maxHeartbeats 2000000
namespace Fv
open PySem PySem.Spec PyProof.Rows L2
abbrev sOdd : Stmt := top 28
def ten (n : Nat) : Int := 10 ^ n
theorem int_zeros : ∀ n : Nat, n < 40 → PySem.intText? ("1" ++ zeros n) = some (ten n) ∧ (("1" : Str) ++ zeros n).length ≤ 640 := by decide +kernel
def oddD (n : Nat) (nm : Str) : List PyData := [.int 0, .int 1, .int (-1), .int (ten n), .int (-(ten n)), .bool true, .bool false, .none, .str "", .str "a", .str nm, .str (nm ++ "z"), .str "abcdefgh",
  .str "abcdefghi", .str "A", .str "a1", .str "a b",
  .str "plain", .str "high", .str "low", .str "Plain", .list [], .tuple [], .dict [], .list [.int 1], .tuple [.int 0], .tuple [.str nm], .dict [(.str nm, .int 1)], .list [.str nm], .tuple [.str "", .str "", .int 0]]
def NameOk (z : Str) : Prop := z.length ≤ 100 ∧ ∀ c ∈ z.cps.toList, c < 128
theorem NameOk.ok {z : Str} (h : NameOk z) : okS z := ⟨by have := h.1; omega, h.2⟩
theorem NameOk.more {z : Str} (h : NameOk z) : okS (z ++ "z") := by
  refine ⟨?_, ?_⟩
  · have e : ("z" : Str).length = 1 := by decide +kernel
    rw [strLen_append, e]
    have := h.1
    omega
  · intro c hc
    have e : (z ++ "z" : Str).cps.toList = z.cps.toList ++ ("z" : Str).cps.toList := by
      show (z.cps ++ _).toList = _
      simp
    rw [e] at hc
    rcases List.mem_append.mp hc with q | q
    · exact h.2 c q
    · have : ∀ c ∈ ("z" : Str).cps.toList, c < 128 := by decide +kernel
      exact this c q
def okB (z : Str) : Bool := decide (z.length ≤ 1000) && z.cps.toList.all fun c => decide (c < 128)
theorem okS_of {z : Str} (h : okB z = true) : okS z := by
  unfold okB at h
  simp only [Bool.and_eq_true, decide_eq_true_eq, List.all_eq_true] at h
  exact h
theorem fine_ten : ∀ n : Nat, n < 40 → (PyData.int (ten n)).showable = true ∧ (PyData.int (ten n)).shown.length ≤ 20000 ∧ (PyData.int (-(ten n))).showable = true ∧ (PyData.int (-(ten n))).shown.length ≤ 20000 := by decide +kernel
def Nice (d : PyData) : Prop := Fine d ∧ shortD d
theorem nice_str {z : Str} (h : okS z) : Nice (.str z) := ⟨Fine.str h, True.intro⟩
theorem fine_dec {d : PyData} (h : (d.showable && decide (d.shown.length ≤ 20000) && decide (d.depth ≤ 3)) = true) : Fine d := by
  simp only [Bool.and_eq_true, decide_eq_true_eq] at h
  exact ⟨h.1.1, h.1.2, h.2⟩
theorem odd_nice {n : Nat} {nm : Str} (hn : n < 40) (h : NameOk nm) : ∀ d ∈ oddD n nm, Nice d := by
  obtain ⟨t1, t2, t3, t4⟩ := fine_ten n hn
  intro d hd
  unfold oddD at hd
  simp only [List.mem_cons, List.not_mem_nil, or_false] at hd
  rcases hd with rfl | rfl | rfl | rfl | rfl | rfl | rfl | rfl | rfl | rfl | rfl | rfl | rfl | rfl | rfl | rfl | rfl | rfl | rfl | rfl | rfl | rfl | rfl | rfl | rfl | rfl | rfl | rfl | rfl | rfl
  · exact ⟨fine_dec (by decide +kernel), True.intro⟩
  · exact ⟨fine_dec (by decide +kernel), True.intro⟩
  · exact ⟨fine_dec (by decide +kernel), True.intro⟩
  · exact ⟨⟨t1, t2, by simp [PyData.depth]⟩, True.intro⟩
  · exact ⟨⟨t3, t4, by simp [PyData.depth]⟩, True.intro⟩
  · exact ⟨fine_dec (by decide +kernel), True.intro⟩
  · exact ⟨fine_dec (by decide +kernel), True.intro⟩
  · exact ⟨fine_dec (by decide +kernel), True.intro⟩
  · (refine nice_str (okS_of ?_); decide +kernel)
  · (refine nice_str (okS_of ?_); decide +kernel)
  · exact nice_str h.ok
  · exact nice_str h.more
  · (refine nice_str (okS_of ?_); decide +kernel)
  · (refine nice_str (okS_of ?_); decide +kernel)
  · (refine nice_str (okS_of ?_); decide +kernel)
  · (refine nice_str (okS_of ?_); decide +kernel)
  · (refine nice_str (okS_of ?_); decide +kernel)
  · (refine nice_str (okS_of ?_); decide +kernel)
  · (refine nice_str (okS_of ?_); decide +kernel)
  · (refine nice_str (okS_of ?_); decide +kernel)
  · (refine nice_str (okS_of ?_); decide +kernel)
  · exact ⟨fine_dec (by decide +kernel), True.intro⟩
  · exact ⟨fine_dec (by decide +kernel), True.intro⟩
  · exact ⟨fine_dec (by decide +kernel), True.intro⟩
  · exact ⟨fine_dec (by decide +kernel), True.intro⟩
  · exact ⟨fine_dec (by decide +kernel), True.intro⟩
  · exact ⟨Fine.one_tup h.ok, True.intro⟩
  · exact ⟨Fine.one_dct h.ok, True.intro⟩
  · exact ⟨Fine.one_lst h.ok, True.intro⟩
  · exact ⟨fine_dec (by decide +kernel), True.intro⟩
end Fv


set_option Elab.async false
set_option linter.all false
set_option maxRecDepth 100000
set_option maxHeartbeats 4000000
namespace Fv
open PySem PySem.Spec PyProof.Rows L2
def odd17 (n : Nat) (nm : Str) : List V := [.int 0, .int 1, .int (-1), .int (ten n), .int (-ten n), .bl true, .bl false, .non, .str "", .str "a", .str nm, .str (nm ++ "z"), .str "abcdefgh", .str "abcdefghi", .str "A", .str "a1", .str "a b"]
def spOdd : Sp := fun vs H Q _ => ∃ (b : Addr) (nm : Str), vs = [.ref b, .str nm] ∧ Bag H b ∧ NameOk nm ∧ ∀ (v : V) (d : PyData) (H' : Hp), Dq H' b v d → Nice d → Bag H' b → Keep b H H' → (∀ c, BagAt H b c → BagAt H' b c) → Q v H'
theorem item {H Hf : Hp} {p b a : Addr} {o : HO} (n : H a = none) (hp : ∃ u, H p = some u) (hb : ∃ u, H b = some u) (k : Keep p (upd H a o) Hf) : Hf a = some o ∧ a ≠ b := by
  obtain ⟨u, hp⟩ := hp
  obtain ⟨u', hb⟩ := hb
  exact ⟨k a o (ne_of_none hp n).symm upd_same, (ne_of_none hb n).symm⟩
theorem there {H H' : Hp} {a : Addr} (k : Same H H') (h : ∃ u, H a = some u) : ∃ u, H' a = some u := by
  obtain ⟨u, h⟩ := h
  exact ⟨u, k _ _ h⟩
theorem same_twice {H : Hp} {a : Addr} {o u : HO} (n : H a = none) : Same H (upd (upd H a o) a u) := fun c v e => by
  have z := ne_of_none e n
  rw [upd_ne z, upd_ne z]
  exact e
def odd30 (n : Nat) (nm : Str) (a1 a2 a3 a4 a5 a6 a7 a8 a9 : Addr) : List V := [.int 0, .int 1, .int (-1), .int (ten n), .int (-ten n), .bl true, .bl false, .non, .str "", .str "a", .str nm, .str (nm ++ "z"), .str "abcdefgh", .str "abcdefghi", .str "A", .str "a1", .str "a b",
  .str "plain", .str "high", .str "low", .str "Plain", .ref a1, .ref a2, .ref a3, .ref a4, .ref a5, .ref a6, .ref a7, .ref a8, .ref a9]
theorem odd_all {H : Hp} {b : Addr} {n : Nat} {nm : Str} {a1 a2 a3 a4 a5 a6 a7 a8 a9 : Addr} (g1 : H a1 = some (.lst [])) (b1 : a1 ≠ b) (m1 : a1 ≠ sysModules) (g2 : H a2 = some (.tup [])) (b2 : a2 ≠ b) (g3 : H a3 = some (.dK [])) (b3 : a3 ≠ b) (g4 : H a4 = some (.lst [.int 1])) (b4 : a4 ≠ b) (m4 : a4 ≠ sysModules)
    (g5 : H a5 = some (.tup [.int 0])) (b5 : a5 ≠ b) (g6 : H a6 = some (.tup [.str nm])) (b6 : a6 ≠ b) (g7 : H a7 = some (.dK [(Sum.inr nm, .int 1)])) (b7 : a7 ≠ b) (g8 : H a8 = some (.lst [.str nm])) (b8 : a8 ≠ b) (m8 : a8 ≠ sysModules) (g9 : H a9 = some (.tup [.str "", .str "", .int 0])) (b9 : a9 ≠ b) :
    DqAll H b (odd30 n nm a1 a2 a3 a4 a5 a6 a7 a8 a9) (oddD n nm) :=
  .cons (.int _) (.cons (.int _) (.cons (.int _) (.cons (.int _) (.cons (.int _) (.cons (.bl _) (.cons (.bl _) (.cons .non (.cons (.str _) (.cons (.str _) (.cons (.str _) (.cons (.str _) (.cons (.str _)
    (.cons (.str _) (.cons (.str _) (.cons (.str _) (.cons (.str _) (.cons (.str _) (.cons (.str _) (.cons (.str _) (.cons (.str _)
    (.cons (.lst g1 b1 m1 .nil) (.cons (.tup g2 b2 .nil) (.cons (.dct g3 b3 .nil .nil) (.cons (.lst g4 b4 m4 (.cons (.int _) .nil)) (.cons (.tup g5 b5 (.cons (.int _) .nil)) (.cons (.tup g6 b6 (.cons (.str _) .nil))
    (.cons (.dct g7 b7 (.cons (.str _) .nil) (.cons (.int _) .nil)) (.cons (.lst g8 b8 m8 (.cons (.str _) .nil)) (.cons (.tup g9 b9 (.cons (.str _) (.cons (.str _) (.cons (.int _) .nil)))) .nil)))))))))))))))))))))))))))))
theorem Keep.same {p : Addr} {H H' : Hp} (s : Same H H') : Keep p H H' := fun a o _ e => s a o e
theorem Bag.at_b {H : Hp} {b : Addr} (B : Bag H b) : ∃ o, H b = some o := by
  obtain ⟨c, cs, p, s, i, B⟩ := B
  exact ⟨_, B.at_⟩
theorem BagAt.same {H H' : Hp} {b c : Addr} (B : BagAt H b c) (k : Same H H') : BagAt H' b c := by
  obtain ⟨cs, p, s, i, B⟩ := B
  exact ⟨cs, p, s, i, k _ _ B.at_, k _ _ B.cells, B.ne, B.p0, B.s0, B.cs0⟩
theorem Bag.same {H H' : Hp} {b : Addr} (B : Bag H b) (k : Same H H') : Bag H' b := by
  obtain ⟨c, cs, p, s, i, B⟩ := B
  exact ⟨c, cs, p, s, i, k _ _ B.at_, k _ _ B.cells, B.ne, B.p0, B.s0, B.cs0⟩
section
variable {P : Program} {w : World} {K : PySem.W.Frag} {mg : Str → Option Value} {base : Heap}
theorem scO : FnScope ["_law_bag_here", "_law_name", "_law_wide", "_law_plain"] ["_law_bag_here", "_law_name"] (defScope sOdd) := ⟨rfl, rfl, rfl, by decide +kernel, rfl, by decide +kernel, by decide +kernel⟩
theorem ok_odd {f fT : Addr} {fd fdT : FuncData} (F : Fun K "_law_odd" "_law_odd" sOdd f fd) (GT : FnOk P w K mg base CX0 1 fT fdT ["_law_bag_here", "_law_many"] spTake) (bT : Binds K fdT ["_law_bag_here", "_law_many"] []) (mT : mg "_law_take" = some (.ref fT)) (kT : PySem.W.keepIn K (.ref fT) = true)
    (mi : mg "int" = none) (ml : mg "len" = none) : FnOk P w K mg base CX0 2 f fd ["_law_bag_here", "_law_name"] spOdd := by
  refine F.ok scO (fun vs H Q E h => ?_) (fun cdv A outer s H vs Q E hr h => ?_)
  · obtain ⟨b, nm, rfl, _⟩ := h
    rfl
  · obtain ⟨b, nm, rfl, B, hnm, q⟩ := h
    refine ⟨_, pss_cons (ps_set (i := 2) scO.nd rfl (.inl rfl) (pe_callTy call_int_str (by rfl) mi (by decide +kernel) (pa_cons (pe_op op_add_str pe_str (pe_op op_zeros pe_str (pe_call GT hr (by rfl) mT kT bT .nil pass0 (pa_cons (pv 0) (pa_cons pe_int pa_nil))))) pa_nil)))
      (pss_cons (ps_set (i := 3) scO.nd rfl (.inl rfl) (pe_lstB (pa_cons pe_int (pa_cons pe_int (pa_cons (pe_un un_neg pe_int) (pa_cons (pv 2) (pa_cons (pe_un un_neg (pv 2)) (pa_cons pe_bl (pa_cons pe_bl (pa_cons pe_non (pa_cons pe_str (pa_cons pe_str (pa_cons (pv 1) (pa_cons (pe_op op_add_str (pv 1) pe_str) (pa_cons pe_str pa_nil)))))))))))))))
      (pss_cons (ps_aug (i := 3) scO.nd rfl (.inl rfl) (pe_lstB (pa_cons pe_str (pa_cons pe_str (pa_cons pe_str (pa_cons pe_str pa_nil))))) iop_ext)
      (pss_cons (ps_aug (i := 3) scO.nd rfl (.inl rfl) (pe_lstB (pa_cons pe_str (pa_cons pe_str (pa_cons pe_str (pa_cons pe_str (pa_cons (pe_lstB pa_nil) (pa_cons (pe_tup pa_nil) (pa_cons pe_dnewK (pa_cons (pe_lstB (pa_cons pe_int pa_nil)) (pa_cons (pe_tup (pa_cons pe_int pa_nil)) (pa_cons (pe_tup (pa_cons (pv 1) pa_nil))
          (pa_cons (pe_disp (pps_cons (pv 1) pe_int pps_nil) (by rfl) (by rfl) (fun z => by cases z) (by decide)) (pa_cons (pe_lstB (pa_cons (pv 1) pa_nil)) (pa_cons (pe_tup (pa_cons pe_str (pa_cons pe_str (pa_cons pe_int pa_nil)))) pa_nil)))))))))))))) iop_ext)
      (pss_one (ps_ret (pe_ix ix_list (pv 3) (pe_call GT hr (by rfl) mT kT bT .nil pass0 (pa_cons (pv 0) (pa_cons (pe_callB call_len_seq (by rfl) ml PySem.boot_len (pa_cons (pv 3) pa_nil)) pa_nil))) (fun _ _ => rfl))))))), ?_⟩
    refine ⟨_, rfl, b, 40, rfl, B, by decide, by decide, fun n H1 hn B1 k1 gs1 => ?_⟩
    have hn' : n < 40 := by omega
    obtain ⟨it, il⟩ := int_zeros n hn'
    refine ⟨n, rfl, rfl, by omega, _, _, rfl, rfl, Nat.le_trans (by rw [← strLen_append]; exact il) (by decide), _, _, rfl, it, il, ?_⟩
    refine ⟨_, rfl, _, rfl, _, rfl, _, rfl, _, rfl, _, rfl, _, _, rfl, rfl, ?_, by show 13 ≤ sizeLine; decide, fun p np mp => ?_⟩
    · have h1 := hnm.1
      have h2 : ("z" : Str).length = 1 := by decide +kernel
      have h3 : 101 ≤ sizeLine := by decide
      rw [h2]
      omega
    have pb : p ≠ b := by
      obtain ⟨o, e⟩ := B1.at_b
      exact (ne_of_none e np).symm
    dsimp only
    refine cutK (fun σ' H2 => σ' = [some (.ref b), some (.str nm), some (.int (ten n)), some (.ref p)] ∧ Same H1 H2 ∧ H2 p = some (.lst (odd17 n nm))) ?_ (fun k => ?_)
    · rintro σ' H2 ⟨rfl, s2, hp⟩
      have B2 : Bag H2 b := B1.same s2
      obtain ⟨ob, hb⟩ := B2.at_b
      refine ⟨_, rfl, Nat.zero_le _, fun a1 n1 m1 => ?_⟩
      refine ⟨Nat.zero_le _, fun a2 n2 => ?_⟩
      refine fun a3 n3 => ?_
      refine ⟨by show 1 ≤ sizeLine; decide, fun a4 n4 m4 => ?_⟩
      refine ⟨by show 1 ≤ sizeLine; decide, fun a5 n5 => ?_⟩
      refine ⟨_, rfl, by show 1 ≤ sizeLine; decide, fun a6 n6 => ?_⟩
      refine fun a7 n7 => ?_
      refine ⟨_, rfl, upd_same, [(Sum.inr nm, .int 1)], rfl, by show 1 ≤ 15; decide, ?_⟩
      refine ⟨_, rfl, by show 1 ≤ sizeLine; decide, fun a8 n8 m8 => ?_⟩
      refine ⟨by show 3 ≤ sizeLine; decide, fun a9 n9 => ?_⟩
      refine ⟨by show 13 ≤ sizeLine; decide, fun p3 n10 _ => ?_⟩
      have t1 := same_upd (o := .lst []) n1
      have t2 := same_upd (o := .tup []) n2
      have t3 := same_upd (o := .dK []) n3
      have t4 := same_upd (o := .lst [.int 1]) n4
      have t5 := same_upd (o := .tup [.int 0]) n5
      have t6 := same_upd (o := .tup [.str nm]) n6
      have t7 := same_twice (o := .dK []) (u := .dK [(Sum.inr nm, .int 1)]) n7
      have t8 := same_upd (o := .lst [.str nm]) n8
      have t9 := same_upd (o := .tup [.str "", .str "", .int 0]) n9
      have t10 := same_upd (o := .lst [.str "plain", .str "high", .str "low", .str "Plain", .ref a1, .ref a2, .ref a3, .ref a4, .ref a5, .ref a6, .ref a7, .ref a8, .ref a9]) n10
      have p0 : ∃ u, H2 p = some u := ⟨_, hp⟩
      have p1 := there t1 p0
      have p2 := there t2 p1
      have p3' := there t3 p2
      have p4 := there t4 p3'
      have p5 := there t5 p4
      have p6 := there t6 p5
      have p7 := there t7 p6
      have p8 := there t8 p7
      have c0 : ∃ u, H2 b = some u := ⟨_, hb⟩
      have c1 := there t1 c0
      have c2 := there t2 c1
      have c3 := there t3 c2
      have c4 := there t4 c3
      have c5 := there t5 c4
      have c6 := there t6 c5
      have c7 := there t7 c6
      have c8 := there t8 c7
      have hp9 := t9 _ _ (t8 _ _ (t7 _ _ (t6 _ _ (t5 _ _ (t4 _ _ (t3 _ _ (t2 _ _ (t1 _ _ hp))))))))
      have pp3 := ne_of_none hp9 n10
      refine ⟨p, p3, _, _, rfl, rfl, by rw [upd_ne pp3]; exact hp9, upd_same, by show 30 ≤ sizeLine; decide, ?_⟩
      have K9 : Keep p _ (upd _ p (.lst (odd30 n nm a1 a2 a3 a4 a5 a6 a7 a8 a9))) := (Keep.same (p := p) t10).trans Keep.upd
      have K8 := (Keep.same (p := p) t9).trans K9
      have K7 := (Keep.same (p := p) t8).trans K8
      have K6 := (Keep.same (p := p) t7).trans K7
      have K5 := (Keep.same (p := p) t6).trans K6
      have K4 := (Keep.same (p := p) t5).trans K5
      have K3 := (Keep.same (p := p) t4).trans K4
      have K2 := (Keep.same (p := p) t3).trans K3
      have K1 := (Keep.same (p := p) t2).trans K2
      have K0 := (Keep.same (p := p) t1).trans K1
      obtain ⟨g1, b1⟩ := item n1 p0 c0 K1
      obtain ⟨g2, b2⟩ := item n2 p1 c1 K2
      obtain ⟨g3, b3⟩ := item n3 p2 c2 K3
      obtain ⟨g4, b4⟩ := item n4 p3' c3 K4
      obtain ⟨g5, b5⟩ := item n5 p4 c4 K5
      obtain ⟨g6, b6⟩ := item n6 p5 c5 K6
      have b7 : a7 ≠ b := by
        obtain ⟨u, e⟩ := c6
        exact (ne_of_none e n7).symm
      have g7 := K7 a7 _ (by
        obtain ⟨u, e⟩ := p6
        exact (ne_of_none e n7).symm) upd_same
      obtain ⟨g8, b8⟩ := item n8 p7 c7 K8
      obtain ⟨g9, b9⟩ := item n9 p8 c8 K9
      have sf : Same H1 _ := fun a o e => K0 a o (ne_of_none e np) (s2 a o e)
      have Bf := B1.same sf
      refine ⟨_, rfl, _, rfl, _, rfl, p, _, rfl, .inl (SqL.of upd_same), b, 30, rfl, Bf, by decide, by decide, fun r H' r1 B' k' gs2 => ?_⟩
      have hD := odd_all (n := n) (nm := nm) g1 b1 m1 g2 b2 g3 b3 g4 b4 m4 g5 b5 g6 b6 g7 b7 g8 b8 m8 g9 b9
      have hr30 : r < (odd30 n nm a1 a2 a3 a4 a5 a6 a7 a8 a9).length := by show r < 30; omega
      obtain ⟨d, md, dq⟩ := hD.get (List.getElem?_eq_getElem hr30)
      refine ⟨p, odd30 n nm a1 a2 a3 a4 a5 a6 a7 a8 a9, r, _, rfl, rfl, SqL.of (k' p _ pb upd_same), atI_nat (List.getElem?_eq_getElem hr30), ?_⟩
      refine q _ d H' (dq.mono k') (odd_nice hn' hnm d md) B' ((k1.trans (Keep.same sf)).trans k') fun c hc => gs2 c ((gs1 c hc).same sf)
    · refine ⟨_, rfl, by show 4 ≤ sizeLine; decide, fun p2 np2 _ => ?_⟩
      have pp2 : p ≠ p2 := ne_of_none upd_same np2
      refine ⟨p, p2, _, _, rfl, rfl, by rw [upd_ne pp2]; exact upd_same, upd_same, by show 17 ≤ sizeLine; decide, ?_⟩
      refine k _ _ ⟨rfl, fun a o e => ?_, upd_same⟩
      have z1 : a ≠ p := ne_of_none e np
      have z2 : a ≠ p2 := ne_of_none (by rw [upd_ne z1]; exact e) np2
      rw [upd_ne z1, upd_ne z2, upd_ne z1]
      exact e
end
end Fv


set_option Elab.async false
set_option linter.all false
set_option maxRecDepth 100000
set_option maxHeartbeats 1000000
namespace Fv
open PySem PySem.Spec PyProof.Rows L2
/-! ### what an own error's __init__ leaves -/
def spI1 (C : Addr) (f : Str) : Sp := fun vs H Q _ => ∃ (a : Addr) (y : V), vs = [.ref a, y] ∧ H a = some (exo a C none) ∧ ∀ dx, H dx = none → dx ≠ a → Q .non (upd (upd H dx (exd dx [(f, y)])) a (exo a C (some dx)))
def spI2 (C : Addr) (f g : Str) : Sp := fun vs H Q _ => ∃ (a : Addr) (y z : V), vs = [.ref a, y, z] ∧ H a = some (exo a C none) ∧ ∀ dx, H dx = none → dx ≠ a → Q .non (upd (upd (upd H dx (exd dx [(f, y)])) a (exo a C (some dx))) dx (exd dx [(g, z), (f, y)]))
theorem let_go {H : Hp} {a dx C : Addr} {fs : List (Str × V)} {o o1 o2 : HO} (na : H a = none) (ne : dx ≠ a) : upd (del (upd (upd (upd H a o) dx o1) a o2) a) dx (.xd fs) = upd H dx (.xd fs) := by
  funext b
  by_cases hb : b = dx
  · rw [hb, upd_same, upd_same]
  · rw [upd_ne hb, upd_ne hb]
    by_cases h2 : b = a
    · rw [h2, del_same, na]
    · rw [del_ne h2, upd_ne h2, upd_ne hb, upd_ne h2]
theorem let_go2 {H : Hp} {a dx C : Addr} {fs : List (Str × V)} {o o1 o2 o3 : HO} (na : H a = none) (ne : dx ≠ a) : upd (del (upd (upd (upd (upd H a o) dx o1) a o2) dx o3) a) dx (.xd fs) = upd H dx (.xd fs) := by
  funext b
  by_cases hb : b = dx
  · rw [hb, upd_same, upd_same]
  · rw [upd_ne hb, upd_ne hb]
    by_cases h2 : b = a
    · rw [h2, del_same, na]
    · rw [del_ne h2, upd_ne hb, upd_ne h2, upd_ne hb, upd_ne h2]
structure Own1 (P : Program) (w : World) (K : PySem.W.Frag) (mg : Str → Option Value) (base : Heap) (x f : Str) (C : Addr) : Prop where
  ox : OexC K C
  gC : mg x = some (.ref C)
  made : ∃ (fI : Addr) (fd : FuncData) (ps : List Str), PySem.W.findIn K (.ref C) "__init__" = some (some (.ref fI)) ∧ PySem.W.typeIn K (.ref fI) = some (.type "function") ∧ FnOk P w K mg base CX0 1 fI fd ps (spI1 C f) ∧ Binds K fd ps []
structure Own2 (P : Program) (w : World) (K : PySem.W.Frag) (mg : Str → Option Value) (base : Heap) (x f g : Str) (C : Addr) : Prop where
  ox : OexC K C
  gC : mg x = some (.ref C)
  made : ∃ (fI : Addr) (fd : FuncData) (ps : List Str), PySem.W.findIn K (.ref C) "__init__" = some (some (.ref fI)) ∧ PySem.W.typeIn K (.ref fI) = some (.type "function") ∧ FnOk P w K mg base CX0 1 fI fd ps (spI2 C f g) ∧ Binds K fd ps []
structure Own0 (K : PySem.W.Frag) (mg : Str → Option Value) (x : Str) (C : Addr) : Prop where
  ex : PySem.W.excIn K C [.type "ValueError", .type "Exception", .type "BaseException", .type "object"] "ValueError.__new__" = true
  gC : mg x = some (.ref C)
  kC : PySem.W.keepIn K (.ref C) = true
  bC : PySem.W.subIn K (.ref C) (.type "BaseException") = some true
  tC : PySem.W.typeIn K (.ref C) = some (.type "type")
def tR1 (C : Addr) (f : Str) (te : TE) : L2.St → Hp → XK → Prop := fun σ H Q => te σ H fun y H1 => ∀ d, H1 d = none → Q (.ref C) (some d) (upd H1 d (.xd [(f, y)]))
def tR2 (C : Addr) (f g : Str) (te tu : TE) : L2.St → Hp → XK → Prop := fun σ H Q => te σ H fun y H1 => tu σ H1 fun z H2 => ∀ d, H2 d = none → Q (.ref C) (some d) (upd H2 d (.xd [(g, z), (f, y)]))
section
variable {X : Cx} {x f g : Str} {C : Addr} {e e2 : Expr} {i j : Nat} {q0 pos : Pos}
theorem PMk.imp {e : Expr} {t t' : L2.St → Hp → XK → Prop} (h : PMk X e t) (k : ∀ σ H Q, t' σ H Q → t σ H Q) : PMk X e t' := fun pins s σ H Q I q => h pins s σ H Q I (k σ H Q q)
theorem pmk1 (O : Own1 X.prog X.w X.K X.mg X.base x f C) (hr : Room 2 X.A) (hg : Gl X x) (ha : PA X [e] (tCons (tVar i) tNil)) (hdb : (x == ("__debug__" : Str)) = false := by decide) (he : starEach [e] X.env = (false, eval e X.env) :: starEach [] X.env := by rfl) (hpl : (backTo pos (starEach [] X.env)).any (·.1) = false := by rfl) :
    PMk X (.Call (.Name x q0) [e] [] pos) (tR1 C f (tVar i)) := by
  obtain ⟨fI, fd, ps, iC, tI, F, b⟩ := O.made
  refine PMk.imp (pmk_oex O.ox iC tI F hr b .nil pass0 hg O.gC ha hdb he hpl) fun σ H Q h => ?_
  obtain ⟨y, ey, h⟩ := h
  refine ⟨y, ey, by show 1 ≤ 1000; decide, fun a na => ⟨a, y, rfl, upd_same, fun dx nd ne => ⟨rfl, dx, [(f, y)], upd_same, ?_, ?_, ?_⟩⟩⟩
  · rw [upd_ne ne, upd_same]
  · rw [upd_ne ne] at nd
    exact nd
  · rw [let_go (C := C) na ne]
    rw [upd_ne ne] at nd
    exact h dx nd
theorem pmk2 (O : Own2 X.prog X.w X.K X.mg X.base x f g C) (hr : Room 2 X.A) (hg : Gl X x) (ha : PA X [e, e2] (tCons (tVar i) (tCons (tVar j) tNil))) (hdb : (x == ("__debug__" : Str)) = false := by decide) (he : starEach [e, e2] X.env = (false, eval e X.env) :: starEach [e2] X.env := by rfl) (hpl : (backTo pos (starEach [e2] X.env)).any (·.1) = false := by rfl) :
    PMk X (.Call (.Name x q0) [e, e2] [] pos) (tR2 C f g (tVar i) (tVar j)) := by
  obtain ⟨fI, fd, ps, iC, tI, F, b⟩ := O.made
  refine PMk.imp (pmk_oex O.ox iC tI F hr b .nil pass0 hg O.gC ha hdb he hpl) fun σ H Q h => ?_
  obtain ⟨y, ey, z, ez, h⟩ := h
  refine ⟨y, ey, z, ez, by show 2 ≤ 1000; decide, fun a na => ⟨a, y, z, rfl, upd_same, fun dx nd ne => ⟨rfl, dx, [(g, z), (f, y)], ?_, upd_same, ?_, ?_⟩⟩⟩
  · rw [upd_ne ne.symm, upd_same]
  · rw [upd_ne ne] at nd
    exact nd
  · rw [let_go2 (C := C) na ne]
    rw [upd_ne ne] at nd
    exact h dx nd
theorem pmk0 (O : Own0 X.K X.mg x C) (hg : Gl X x) (hdb : (x == ("__debug__" : Str)) = false := by decide) : PMk X (.Call (.Name x q0) [] [] pos) (fun _ H Q => Q (.ref C) none H) :=
  pmk_bare PySem.F.excBase_ValueError O.ex O.gC O.kC (raises_own O.bC O.tC) hg hdb
end
section
variable {P : Program} {w : World} {K : PySem.W.Frag} {mg : Str → Option Value} {base : Heap}
theorem scI1 : FnScope ["self", "place"] ["self", "place"] (defScope (inClass (top 2) 0)) := ⟨rfl, rfl, rfl, by decide +kernel, rfl, by decide +kernel, by decide +kernel⟩
theorem ok_i0 {f C : Addr} {fd : FuncData} (F : Fun K "__init__" "Wrong.__init__" (inClass (top 2) 0) f fd) (O : OexC K C) (no : PySem.W.findIn K (.ref C) "place" = some none) : FnOk P w K mg base CX0 1 f fd ["self", "place"] (spI1 C "place") := by
  refine F.ok scI1 (fun vs H Q E h => ?_) (fun cdv A outer s H vs Q E hr h => ?_)
  · obtain ⟨a, y, rfl, _⟩ := h
    rfl
  · obtain ⟨a, y, rfl, ha, q⟩ := h
    exact ⟨_, pss_one (ps_ost (pv 0) (pv 1)), _, rfl, _, rfl, a, C, rfl, O, no, .inl ⟨ha, q⟩⟩
end
end Fv


set_option Elab.async false
set_option linter.all false
set_option maxRecDepth 100000
set_option maxHeartbeats 2000000
namespace Fv
open PySem PySem.Spec PyProof.Rows L2
abbrev sOne : Stmt := top 29
abbrev sNone : Stmt := top 30
section
variable {P : Program} {w : World} {K : PySem.W.Frag} {mg : Str → Option Value} {base : Heap}
theorem scJ0 : FnScope ["self", "place"] ["self", "place"] (defScope (inClass (top 2) 0)) := ⟨rfl, rfl, rfl, by decide +kernel, rfl, by decide +kernel, by decide +kernel⟩
theorem own_0 {f C : Addr} {fd : FuncData} (F : Fun K "__init__" "Wrong.__init__" (inClass (top 2) 0) f fd) (O : OexC K C) (no : PySem.W.findIn K (.ref C) "place" = some none) (gC : mg "Wrong" = some (.ref C)) (iC : PySem.W.findIn K (.ref C) "__init__" = some (some (.ref f))) (tI : PySem.W.typeIn K (.ref f) = some (.type "function")) : Own1 P w K mg base "Wrong" "place" C := by
  refine ⟨O, gC, f, fd, ["self", "place"], iC, tI, F.ok scJ0 (fun vs H Q E h => ?_) (fun cdv A outer s H vs Q E hr h => ?_), F.binds fun _ _ _ _ _ _ us hl => match us, hl with | [_, _], _ => rfl⟩
  · obtain ⟨a, y, rfl, _⟩ := h
    rfl
  · obtain ⟨a, y, rfl, ha, q⟩ := h
    exact ⟨_, pss_one (ps_ost (pv 0) (pv 1)), _, rfl, _, rfl, a, C, rfl, O, no, .inl ⟨ha, q⟩⟩
theorem scJ1 : FnScope ["self", "name"] ["self", "name"] (defScope (inClass (top 3) 0)) := ⟨rfl, rfl, rfl, by decide +kernel, rfl, by decide +kernel, by decide +kernel⟩
theorem own_1 {f C : Addr} {fd : FuncData} (F : Fun K "__init__" "NoName.__init__" (inClass (top 3) 0) f fd) (O : OexC K C) (no : PySem.W.findIn K (.ref C) "name" = some none) (gC : mg "NoName" = some (.ref C)) (iC : PySem.W.findIn K (.ref C) "__init__" = some (some (.ref f))) (tI : PySem.W.typeIn K (.ref f) = some (.type "function")) : Own1 P w K mg base "NoName" "name" C := by
  refine ⟨O, gC, f, fd, ["self", "name"], iC, tI, F.ok scJ1 (fun vs H Q E h => ?_) (fun cdv A outer s H vs Q E hr h => ?_), F.binds fun _ _ _ _ _ _ us hl => match us, hl with | [_, _], _ => rfl⟩
  · obtain ⟨a, y, rfl, _⟩ := h
    rfl
  · obtain ⟨a, y, rfl, ha, q⟩ := h
    exact ⟨_, pss_one (ps_ost (pv 0) (pv 1)), _, rfl, _, rfl, a, C, rfl, O, no, .inl ⟨ha, q⟩⟩
theorem scJ2 : FnScope ["self", "name"] ["self", "name"] (defScope (inClass (top 4) 0)) := ⟨rfl, rfl, rfl, by decide +kernel, rfl, by decide +kernel, by decide +kernel⟩
theorem own_2 {f C : Addr} {fd : FuncData} (F : Fun K "__init__" "BadKind.__init__" (inClass (top 4) 0) f fd) (O : OexC K C) (no : PySem.W.findIn K (.ref C) "name" = some none) (gC : mg "BadKind" = some (.ref C)) (iC : PySem.W.findIn K (.ref C) "__init__" = some (some (.ref f))) (tI : PySem.W.typeIn K (.ref f) = some (.type "function")) : Own1 P w K mg base "BadKind" "name" C := by
  refine ⟨O, gC, f, fd, ["self", "name"], iC, tI, F.ok scJ2 (fun vs H Q E h => ?_) (fun cdv A outer s H vs Q E hr h => ?_), F.binds fun _ _ _ _ _ _ us hl => match us, hl with | [_, _], _ => rfl⟩
  · obtain ⟨a, y, rfl, _⟩ := h
    rfl
  · obtain ⟨a, y, rfl, ha, q⟩ := h
    exact ⟨_, pss_one (ps_ost (pv 0) (pv 1)), _, rfl, _, rfl, a, C, rfl, O, no, .inl ⟨ha, q⟩⟩
theorem scJ3 : FnScope ["self", "place"] ["self", "place"] (defScope (inClass (top 5) 0)) := ⟨rfl, rfl, rfl, by decide +kernel, rfl, by decide +kernel, by decide +kernel⟩
theorem own_3 {f C : Addr} {fd : FuncData} (F : Fun K "__init__" "NoPlace.__init__" (inClass (top 5) 0) f fd) (O : OexC K C) (no : PySem.W.findIn K (.ref C) "place" = some none) (gC : mg "NoPlace" = some (.ref C)) (iC : PySem.W.findIn K (.ref C) "__init__" = some (some (.ref f))) (tI : PySem.W.typeIn K (.ref f) = some (.type "function")) : Own1 P w K mg base "NoPlace" "place" C := by
  refine ⟨O, gC, f, fd, ["self", "place"], iC, tI, F.ok scJ3 (fun vs H Q E h => ?_) (fun cdv A outer s H vs Q E hr h => ?_), F.binds fun _ _ _ _ _ _ us hl => match us, hl with | [_, _], _ => rfl⟩
  · obtain ⟨a, y, rfl, _⟩ := h
    rfl
  · obtain ⟨a, y, rfl, ha, q⟩ := h
    exact ⟨_, pss_one (ps_ost (pv 0) (pv 1)), _, rfl, _, rfl, a, C, rfl, O, no, .inl ⟨ha, q⟩⟩
theorem scJ4 : FnScope ["self", "index"] ["self", "index"] (defScope (inClass (top 6) 0)) := ⟨rfl, rfl, rfl, by decide +kernel, rfl, by decide +kernel, by decide +kernel⟩
theorem own_4 {f C : Addr} {fd : FuncData} (F : Fun K "__init__" "NoWay.__init__" (inClass (top 6) 0) f fd) (O : OexC K C) (no : PySem.W.findIn K (.ref C) "index" = some none) (gC : mg "NoWay" = some (.ref C)) (iC : PySem.W.findIn K (.ref C) "__init__" = some (some (.ref f))) (tI : PySem.W.typeIn K (.ref f) = some (.type "function")) : Own1 P w K mg base "NoWay" "index" C := by
  refine ⟨O, gC, f, fd, ["self", "index"], iC, tI, F.ok scJ4 (fun vs H Q E h => ?_) (fun cdv A outer s H vs Q E hr h => ?_), F.binds fun _ _ _ _ _ _ us hl => match us, hl with | [_, _], _ => rfl⟩
  · obtain ⟨a, y, rfl, _⟩ := h
    rfl
  · obtain ⟨a, y, rfl, ha, q⟩ := h
    exact ⟨_, pss_one (ps_ost (pv 0) (pv 1)), _, rfl, _, rfl, a, C, rfl, O, no, .inl ⟨ha, q⟩⟩
theorem scJ5 : FnScope ["self", "name"] ["self", "name"] (defScope (inClass (top 7) 0)) := ⟨rfl, rfl, rfl, by decide +kernel, rfl, by decide +kernel, by decide +kernel⟩
theorem own_5 {f C : Addr} {fd : FuncData} (F : Fun K "__init__" "NoProc.__init__" (inClass (top 7) 0) f fd) (O : OexC K C) (no : PySem.W.findIn K (.ref C) "name" = some none) (gC : mg "NoProc" = some (.ref C)) (iC : PySem.W.findIn K (.ref C) "__init__" = some (some (.ref f))) (tI : PySem.W.typeIn K (.ref f) = some (.type "function")) : Own1 P w K mg base "NoProc" "name" C := by
  refine ⟨O, gC, f, fd, ["self", "name"], iC, tI, F.ok scJ5 (fun vs H Q E h => ?_) (fun cdv A outer s H vs Q E hr h => ?_), F.binds fun _ _ _ _ _ _ us hl => match us, hl with | [_, _], _ => rfl⟩
  · obtain ⟨a, y, rfl, _⟩ := h
    rfl
  · obtain ⟨a, y, rfl, ha, q⟩ := h
    exact ⟨_, pss_one (ps_ost (pv 0) (pv 1)), _, rfl, _, rfl, a, C, rfl, O, no, .inl ⟨ha, q⟩⟩
theorem scJ6 : FnScope ["self", "name"] ["self", "name"] (defScope (inClass (top 11) 0)) := ⟨rfl, rfl, rfl, by decide +kernel, rfl, by decide +kernel, by decide +kernel⟩
theorem own_6 {f C : Addr} {fd : FuncData} (F : Fun K "__init__" "NotFar.__init__" (inClass (top 11) 0) f fd) (O : OexC K C) (no : PySem.W.findIn K (.ref C) "name" = some none) (gC : mg "NotFar" = some (.ref C)) (iC : PySem.W.findIn K (.ref C) "__init__" = some (some (.ref f))) (tI : PySem.W.typeIn K (.ref f) = some (.type "function")) : Own1 P w K mg base "NotFar" "name" C := by
  refine ⟨O, gC, f, fd, ["self", "name"], iC, tI, F.ok scJ6 (fun vs H Q E h => ?_) (fun cdv A outer s H vs Q E hr h => ?_), F.binds fun _ _ _ _ _ _ us hl => match us, hl with | [_, _], _ => rfl⟩
  · obtain ⟨a, y, rfl, _⟩ := h
    rfl
  · obtain ⟨a, y, rfl, ha, q⟩ := h
    exact ⟨_, pss_one (ps_ost (pv 0) (pv 1)), _, rfl, _, rfl, a, C, rfl, O, no, .inl ⟨ha, q⟩⟩
theorem scJ7 : FnScope ["self", "row"] ["self", "row"] (defScope (inClass (top 12) 0)) := ⟨rfl, rfl, rfl, by decide +kernel, rfl, by decide +kernel, by decide +kernel⟩
theorem own_7 {f C : Addr} {fd : FuncData} (F : Fun K "__init__" "BadRow.__init__" (inClass (top 12) 0) f fd) (O : OexC K C) (no : PySem.W.findIn K (.ref C) "row" = some none) (gC : mg "BadRow" = some (.ref C)) (iC : PySem.W.findIn K (.ref C) "__init__" = some (some (.ref f))) (tI : PySem.W.typeIn K (.ref f) = some (.type "function")) : Own1 P w K mg base "BadRow" "row" C := by
  refine ⟨O, gC, f, fd, ["self", "row"], iC, tI, F.ok scJ7 (fun vs H Q E h => ?_) (fun cdv A outer s H vs Q E hr h => ?_), F.binds fun _ _ _ _ _ _ us hl => match us, hl with | [_, _], _ => rfl⟩
  · obtain ⟨a, y, rfl, _⟩ := h
    rfl
  · obtain ⟨a, y, rfl, ha, q⟩ := h
    exact ⟨_, pss_one (ps_ost (pv 0) (pv 1)), _, rfl, _, rfl, a, C, rfl, O, no, .inl ⟨ha, q⟩⟩
theorem scJ8 : FnScope ["self", "row"] ["self", "row"] (defScope (inClass (top 13) 0)) := ⟨rfl, rfl, rfl, by decide +kernel, rfl, by decide +kernel, by decide +kernel⟩
theorem own_8 {f C : Addr} {fd : FuncData} (F : Fun K "__init__" "NotSo.__init__" (inClass (top 13) 0) f fd) (O : OexC K C) (no : PySem.W.findIn K (.ref C) "row" = some none) (gC : mg "NotSo" = some (.ref C)) (iC : PySem.W.findIn K (.ref C) "__init__" = some (some (.ref f))) (tI : PySem.W.typeIn K (.ref f) = some (.type "function")) : Own1 P w K mg base "NotSo" "row" C := by
  refine ⟨O, gC, f, fd, ["self", "row"], iC, tI, F.ok scJ8 (fun vs H Q E h => ?_) (fun cdv A outer s H vs Q E hr h => ?_), F.binds fun _ _ _ _ _ _ us hl => match us, hl with | [_, _], _ => rfl⟩
  · obtain ⟨a, y, rfl, _⟩ := h
    rfl
  · obtain ⟨a, y, rfl, ha, q⟩ := h
    exact ⟨_, pss_one (ps_ost (pv 0) (pv 1)), _, rfl, _, rfl, a, C, rfl, O, no, .inl ⟨ha, q⟩⟩
theorem scJ9 : FnScope ["self", "most"] ["self", "most"] (defScope (inClass (top 14) 0)) := ⟨rfl, rfl, rfl, by decide +kernel, rfl, by decide +kernel, by decide +kernel⟩
theorem own_9 {f C : Addr} {fd : FuncData} (F : Fun K "__init__" "TooMany.__init__" (inClass (top 14) 0) f fd) (O : OexC K C) (no : PySem.W.findIn K (.ref C) "most" = some none) (gC : mg "TooMany" = some (.ref C)) (iC : PySem.W.findIn K (.ref C) "__init__" = some (some (.ref f))) (tI : PySem.W.typeIn K (.ref f) = some (.type "function")) : Own1 P w K mg base "TooMany" "most" C := by
  refine ⟨O, gC, f, fd, ["self", "most"], iC, tI, F.ok scJ9 (fun vs H Q E h => ?_) (fun cdv A outer s H vs Q E hr h => ?_), F.binds fun _ _ _ _ _ _ us hl => match us, hl with | [_, _], _ => rfl⟩
  · obtain ⟨a, y, rfl, _⟩ := h
    rfl
  · obtain ⟨a, y, rfl, ha, q⟩ := h
    exact ⟨_, pss_one (ps_ost (pv 0) (pv 1)), _, rfl, _, rfl, a, C, rfl, O, no, .inl ⟨ha, q⟩⟩
theorem scJ10 : FnScope ["self", "many"] ["self", "many"] (defScope (inClass (top 17) 0)) := ⟨rfl, rfl, rfl, by decide +kernel, rfl, by decide +kernel, by decide +kernel⟩
theorem own_10 {f C : Addr} {fd : FuncData} (F : Fun K "__init__" "NoEntry.__init__" (inClass (top 17) 0) f fd) (O : OexC K C) (no : PySem.W.findIn K (.ref C) "many" = some none) (gC : mg "NoEntry" = some (.ref C)) (iC : PySem.W.findIn K (.ref C) "__init__" = some (some (.ref f))) (tI : PySem.W.typeIn K (.ref f) = some (.type "function")) : Own1 P w K mg base "NoEntry" "many" C := by
  refine ⟨O, gC, f, fd, ["self", "many"], iC, tI, F.ok scJ10 (fun vs H Q E h => ?_) (fun cdv A outer s H vs Q E hr h => ?_), F.binds fun _ _ _ _ _ _ us hl => match us, hl with | [_, _], _ => rfl⟩
  · obtain ⟨a, y, rfl, _⟩ := h
    rfl
  · obtain ⟨a, y, rfl, ha, q⟩ := h
    exact ⟨_, pss_one (ps_ost (pv 0) (pv 1)), _, rfl, _, rfl, a, C, rfl, O, no, .inl ⟨ha, q⟩⟩
theorem scJ11 : FnScope ["self", "most"] ["self", "most"] (defScope (inClass (top 19) 0)) := ⟨rfl, rfl, rfl, by decide +kernel, rfl, by decide +kernel, by decide +kernel⟩
theorem own_11 {f C : Addr} {fd : FuncData} (F : Fun K "__init__" "Full.__init__" (inClass (top 19) 0) f fd) (O : OexC K C) (no : PySem.W.findIn K (.ref C) "most" = some none) (gC : mg "Full" = some (.ref C)) (iC : PySem.W.findIn K (.ref C) "__init__" = some (some (.ref f))) (tI : PySem.W.typeIn K (.ref f) = some (.type "function")) : Own1 P w K mg base "Full" "most" C := by
  refine ⟨O, gC, f, fd, ["self", "most"], iC, tI, F.ok scJ11 (fun vs H Q E h => ?_) (fun cdv A outer s H vs Q E hr h => ?_), F.binds fun _ _ _ _ _ _ us hl => match us, hl with | [_, _], _ => rfl⟩
  · obtain ⟨a, y, rfl, _⟩ := h
    rfl
  · obtain ⟨a, y, rfl, ha, q⟩ := h
    exact ⟨_, pss_one (ps_ost (pv 0) (pv 1)), _, rfl, _, rfl, a, C, rfl, O, no, .inl ⟨ha, q⟩⟩
theorem scJ12 : FnScope ["self", "deed"] ["self", "deed"] (defScope (inClass (top 20) 0)) := ⟨rfl, rfl, rfl, by decide +kernel, rfl, by decide +kernel, by decide +kernel⟩
theorem own_12 {f C : Addr} {fd : FuncData} (F : Fun K "__init__" "Refused.__init__" (inClass (top 20) 0) f fd) (O : OexC K C) (no : PySem.W.findIn K (.ref C) "deed" = some none) (gC : mg "Refused" = some (.ref C)) (iC : PySem.W.findIn K (.ref C) "__init__" = some (some (.ref f))) (tI : PySem.W.typeIn K (.ref f) = some (.type "function")) : Own1 P w K mg base "Refused" "deed" C := by
  refine ⟨O, gC, f, fd, ["self", "deed"], iC, tI, F.ok scJ12 (fun vs H Q E h => ?_) (fun cdv A outer s H vs Q E hr h => ?_), F.binds fun _ _ _ _ _ _ us hl => match us, hl with | [_, _], _ => rfl⟩
  · obtain ⟨a, y, rfl, _⟩ := h
    rfl
  · obtain ⟨a, y, rfl, ha, q⟩ := h
    exact ⟨_, pss_one (ps_ost (pv 0) (pv 1)), _, rfl, _, rfl, a, C, rfl, O, no, .inl ⟨ha, q⟩⟩
theorem scJ13 : FnScope ["self", "name", "index"] ["self", "name", "index"] (defScope (inClass (top 8) 0)) := ⟨rfl, rfl, rfl, by decide +kernel, rfl, by decide +kernel, by decide +kernel⟩
theorem own_13 {f C : Addr} {fd : FuncData} (F : Fun K "__init__" "BadCall.__init__" (inClass (top 8) 0) f fd) (O : OexC K C) (no : PySem.W.findIn K (.ref C) "name" = some none) (no2 : PySem.W.findIn K (.ref C) "index" = some none) (gC : mg "BadCall" = some (.ref C)) (iC : PySem.W.findIn K (.ref C) "__init__" = some (some (.ref f))) (tI : PySem.W.typeIn K (.ref f) = some (.type "function")) : Own2 P w K mg base "BadCall" "name" "index" C := by
  refine ⟨O, gC, f, fd, ["self", "name", "index"], iC, tI, F.ok scJ13 (fun vs H Q E h => ?_) (fun cdv A outer s H vs Q E hr h => ?_), F.binds fun _ _ _ _ _ _ us hl => match us, hl with | [_, _, _], _ => rfl⟩
  · obtain ⟨a, y, z, rfl, _⟩ := h
    rfl
  · obtain ⟨a, y, z, rfl, ha, q⟩ := h
    refine ⟨_, pss_cons (ps_ost (pv 0) (pv 1)) (pss_one (ps_ost (pv 0) (pv 2))), _, rfl, _, rfl, a, C, rfl, O, no, .inl ⟨ha, fun dx nd ne => ?_⟩⟩
    exact ⟨_, rfl, _, rfl, a, C, rfl, O, no2, .inr ⟨dx, [("name", y)], upd_same, by rw [upd_ne ne]; exact upd_same, by show 1 ≤ 900; decide, q dx nd ne⟩⟩
/-- the fields of the k-th error -/
def flds (k : Nat) (x y : V) : List (Str × V) := match k with
  | 0 => [("place", x)]
  | 1 => [("name", x)]
  | 2 => [("name", x)]
  | 3 => [("place", x)]
  | 4 => [("index", x)]
  | 5 => [("name", x)]
  | 6 => [("name", x)]
  | 7 => [("row", x)]
  | 8 => [("row", x)]
  | 9 => [("most", x)]
  | 10 => [("many", x)]
  | 11 => [("most", x)]
  | 12 => [("deed", x)]
  | 13 => [("index", y), ("name", x)]
  | _ => []
/-- the classes by their numbers -/
structure Errs (P : Program) (w : World) (K : PySem.W.Frag) (mg : Str → Option Value) (base : Heap) (cs : Nat → Addr) : Prop where
  o0 : Own1 P w K mg base "Wrong" "place" (cs 0)
  o1 : Own1 P w K mg base "NoName" "name" (cs 1)
  o2 : Own1 P w K mg base "BadKind" "name" (cs 2)
  o3 : Own1 P w K mg base "NoPlace" "place" (cs 3)
  o4 : Own1 P w K mg base "NoWay" "index" (cs 4)
  o5 : Own1 P w K mg base "NoProc" "name" (cs 5)
  o6 : Own1 P w K mg base "NotFar" "name" (cs 6)
  o7 : Own1 P w K mg base "BadRow" "row" (cs 7)
  o8 : Own1 P w K mg base "NotSo" "row" (cs 8)
  o9 : Own1 P w K mg base "TooMany" "most" (cs 9)
  o10 : Own1 P w K mg base "NoEntry" "many" (cs 10)
  o11 : Own1 P w K mg base "Full" "most" (cs 11)
  o12 : Own1 P w K mg base "Refused" "deed" (cs 12)
  o13 : Own2 P w K mg base "BadCall" "name" "index" (cs 13)
  o14 : Own0 K mg "NoStart" (cs 14)
  o15 : Own0 K mg "Unlike" (cs 15)
  o16 : Own0 K mg "Never" (cs 16)
  o17 : Own0 K mg "Endless" (cs 17)
  o18 : Own0 K mg "NoDeed" (cs 18)
  o19 : Own0 K mg "Nothing" (cs 19)
  o20 : Own0 K mg "NoText" (cs 20)
  o21 : Own0 K mg "NoCommand" (cs 21)
def spOne (cs : Nat → Addr) : Sp := fun vs H _ E => ∃ (k : Nat) (x y : V), vs = [.int k, x, y] ∧ k < 14 ∧ ∀ d, H d = none → E (.ref (cs k)) (some d) (upd H d (.xd (flds k x y)))
theorem scK1 : FnScope ["_law_k", "_law_one", "_law_two"] ["_law_k", "_law_one", "_law_two"] (defScope sOne) := ⟨rfl, rfl, rfl, by decide +kernel, rfl, by decide +kernel, by decide +kernel⟩
theorem ok_one {f : Addr} {fd : FuncData} {cs : Nat → Addr} (F : Fun K "_law_raise_one" "_law_raise_one" sOne f fd) (O : Errs P w K mg base cs) : FnOk P w K mg base (L2.CX P w) 3 f fd ["_law_k", "_law_one", "_law_two"] (spOne cs) := by
  refine F.okX scK1 (fun vs H Q E h => ?_) (fun cdv A outer s H vs Q E hr h => ?_)
  · obtain ⟨k, x, y, rfl, _⟩ := h
    rfl
  · obtain ⟨k, x, y, rfl, hk, q⟩ := h
    refine ⟨_, pss_cons (ps_if (pt_cmpR op_eq (pv 0) pe_int (nomark _)) (pss_one (ps_raise (W := fun cls d _ H => E cls d H) rfl (takes_of rfl rfl rfl rfl) (pmk1 O.o0 hr (by rfl) (pa_cons (pv 1) pa_nil)))) pss_nil)
      (pss_cons (ps_if (pt_cmpR op_eq (pv 0) pe_int (nomark _)) (pss_one (ps_raise (W := fun cls d _ H => E cls d H) rfl (takes_of rfl rfl rfl rfl) (pmk1 O.o1 hr (by rfl) (pa_cons (pv 1) pa_nil)))) pss_nil)
      (pss_cons (ps_if (pt_cmpR op_eq (pv 0) pe_int (nomark _)) (pss_one (ps_raise (W := fun cls d _ H => E cls d H) rfl (takes_of rfl rfl rfl rfl) (pmk1 O.o2 hr (by rfl) (pa_cons (pv 1) pa_nil)))) pss_nil)
      (pss_cons (ps_if (pt_cmpR op_eq (pv 0) pe_int (nomark _)) (pss_one (ps_raise (W := fun cls d _ H => E cls d H) rfl (takes_of rfl rfl rfl rfl) (pmk1 O.o3 hr (by rfl) (pa_cons (pv 1) pa_nil)))) pss_nil)
      (pss_cons (ps_if (pt_cmpR op_eq (pv 0) pe_int (nomark _)) (pss_one (ps_raise (W := fun cls d _ H => E cls d H) rfl (takes_of rfl rfl rfl rfl) (pmk1 O.o4 hr (by rfl) (pa_cons (pv 1) pa_nil)))) pss_nil)
      (pss_cons (ps_if (pt_cmpR op_eq (pv 0) pe_int (nomark _)) (pss_one (ps_raise (W := fun cls d _ H => E cls d H) rfl (takes_of rfl rfl rfl rfl) (pmk1 O.o5 hr (by rfl) (pa_cons (pv 1) pa_nil)))) pss_nil)
      (pss_cons (ps_if (pt_cmpR op_eq (pv 0) pe_int (nomark _)) (pss_one (ps_raise (W := fun cls d _ H => E cls d H) rfl (takes_of rfl rfl rfl rfl) (pmk1 O.o6 hr (by rfl) (pa_cons (pv 1) pa_nil)))) pss_nil)
      (pss_cons (ps_if (pt_cmpR op_eq (pv 0) pe_int (nomark _)) (pss_one (ps_raise (W := fun cls d _ H => E cls d H) rfl (takes_of rfl rfl rfl rfl) (pmk1 O.o7 hr (by rfl) (pa_cons (pv 1) pa_nil)))) pss_nil)
      (pss_cons (ps_if (pt_cmpR op_eq (pv 0) pe_int (nomark _)) (pss_one (ps_raise (W := fun cls d _ H => E cls d H) rfl (takes_of rfl rfl rfl rfl) (pmk1 O.o8 hr (by rfl) (pa_cons (pv 1) pa_nil)))) pss_nil)
      (pss_cons (ps_if (pt_cmpR op_eq (pv 0) pe_int (nomark _)) (pss_one (ps_raise (W := fun cls d _ H => E cls d H) rfl (takes_of rfl rfl rfl rfl) (pmk1 O.o9 hr (by rfl) (pa_cons (pv 1) pa_nil)))) pss_nil)
      (pss_cons (ps_if (pt_cmpR op_eq (pv 0) pe_int (nomark _)) (pss_one (ps_raise (W := fun cls d _ H => E cls d H) rfl (takes_of rfl rfl rfl rfl) (pmk1 O.o10 hr (by rfl) (pa_cons (pv 1) pa_nil)))) pss_nil)
      (pss_cons (ps_if (pt_cmpR op_eq (pv 0) pe_int (nomark _)) (pss_one (ps_raise (W := fun cls d _ H => E cls d H) rfl (takes_of rfl rfl rfl rfl) (pmk1 O.o11 hr (by rfl) (pa_cons (pv 1) pa_nil)))) pss_nil)
      (pss_cons (ps_if (pt_cmpR op_eq (pv 0) pe_int (nomark _)) (pss_one (ps_raise (W := fun cls d _ H => E cls d H) rfl (takes_of rfl rfl rfl rfl) (pmk1 O.o12 hr (by rfl) (pa_cons (pv 1) pa_nil)))) pss_nil)
      (pss_one (ps_if (pt_cmpR op_eq (pv 0) pe_int (nomark _)) (pss_one (ps_raise (W := fun cls d _ H => E cls d H) rfl (takes_of rfl rfl rfl rfl) (pmk2 O.o13 hr (by rfl) (pa_cons (pv 1) (pa_cons (pv 2) pa_nil))))) pss_nil)))))))))))))), ?_⟩
    refine ⟨_, rfl, rfl, _, rfl, ite2 (fun e => ?_) (fun e0 => ?_)⟩
    · have hk : k = 0 := by
        have := V.int.inj (of_decide_eq_true e)
        omega
      subst hk
      exact ⟨_, rfl, fun d nd => q d nd⟩
    have n0 : k ≠ 0 := fun z => e0 (by rw [z]; exact decide_eq_true rfl)
    refine ⟨_, rfl, rfl, _, rfl, ite2 (fun e => ?_) (fun e1 => ?_)⟩
    · have hk : k = 1 := by
        have := V.int.inj (of_decide_eq_true e)
        omega
      subst hk
      exact ⟨_, rfl, fun d nd => q d nd⟩
    have n1 : k ≠ 1 := fun z => e1 (by rw [z]; exact decide_eq_true rfl)
    refine ⟨_, rfl, rfl, _, rfl, ite2 (fun e => ?_) (fun e2 => ?_)⟩
    · have hk : k = 2 := by
        have := V.int.inj (of_decide_eq_true e)
        omega
      subst hk
      exact ⟨_, rfl, fun d nd => q d nd⟩
    have n2 : k ≠ 2 := fun z => e2 (by rw [z]; exact decide_eq_true rfl)
    refine ⟨_, rfl, rfl, _, rfl, ite2 (fun e => ?_) (fun e3 => ?_)⟩
    · have hk : k = 3 := by
        have := V.int.inj (of_decide_eq_true e)
        omega
      subst hk
      exact ⟨_, rfl, fun d nd => q d nd⟩
    have n3 : k ≠ 3 := fun z => e3 (by rw [z]; exact decide_eq_true rfl)
    refine ⟨_, rfl, rfl, _, rfl, ite2 (fun e => ?_) (fun e4 => ?_)⟩
    · have hk : k = 4 := by
        have := V.int.inj (of_decide_eq_true e)
        omega
      subst hk
      exact ⟨_, rfl, fun d nd => q d nd⟩
    have n4 : k ≠ 4 := fun z => e4 (by rw [z]; exact decide_eq_true rfl)
    refine ⟨_, rfl, rfl, _, rfl, ite2 (fun e => ?_) (fun e5 => ?_)⟩
    · have hk : k = 5 := by
        have := V.int.inj (of_decide_eq_true e)
        omega
      subst hk
      exact ⟨_, rfl, fun d nd => q d nd⟩
    have n5 : k ≠ 5 := fun z => e5 (by rw [z]; exact decide_eq_true rfl)
    refine ⟨_, rfl, rfl, _, rfl, ite2 (fun e => ?_) (fun e6 => ?_)⟩
    · have hk : k = 6 := by
        have := V.int.inj (of_decide_eq_true e)
        omega
      subst hk
      exact ⟨_, rfl, fun d nd => q d nd⟩
    have n6 : k ≠ 6 := fun z => e6 (by rw [z]; exact decide_eq_true rfl)
    refine ⟨_, rfl, rfl, _, rfl, ite2 (fun e => ?_) (fun e7 => ?_)⟩
    · have hk : k = 7 := by
        have := V.int.inj (of_decide_eq_true e)
        omega
      subst hk
      exact ⟨_, rfl, fun d nd => q d nd⟩
    have n7 : k ≠ 7 := fun z => e7 (by rw [z]; exact decide_eq_true rfl)
    refine ⟨_, rfl, rfl, _, rfl, ite2 (fun e => ?_) (fun e8 => ?_)⟩
    · have hk : k = 8 := by
        have := V.int.inj (of_decide_eq_true e)
        omega
      subst hk
      exact ⟨_, rfl, fun d nd => q d nd⟩
    have n8 : k ≠ 8 := fun z => e8 (by rw [z]; exact decide_eq_true rfl)
    refine ⟨_, rfl, rfl, _, rfl, ite2 (fun e => ?_) (fun e9 => ?_)⟩
    · have hk : k = 9 := by
        have := V.int.inj (of_decide_eq_true e)
        omega
      subst hk
      exact ⟨_, rfl, fun d nd => q d nd⟩
    have n9 : k ≠ 9 := fun z => e9 (by rw [z]; exact decide_eq_true rfl)
    refine ⟨_, rfl, rfl, _, rfl, ite2 (fun e => ?_) (fun e10 => ?_)⟩
    · have hk : k = 10 := by
        have := V.int.inj (of_decide_eq_true e)
        omega
      subst hk
      exact ⟨_, rfl, fun d nd => q d nd⟩
    have n10 : k ≠ 10 := fun z => e10 (by rw [z]; exact decide_eq_true rfl)
    refine ⟨_, rfl, rfl, _, rfl, ite2 (fun e => ?_) (fun e11 => ?_)⟩
    · have hk : k = 11 := by
        have := V.int.inj (of_decide_eq_true e)
        omega
      subst hk
      exact ⟨_, rfl, fun d nd => q d nd⟩
    have n11 : k ≠ 11 := fun z => e11 (by rw [z]; exact decide_eq_true rfl)
    refine ⟨_, rfl, rfl, _, rfl, ite2 (fun e => ?_) (fun e12 => ?_)⟩
    · have hk : k = 12 := by
        have := V.int.inj (of_decide_eq_true e)
        omega
      subst hk
      exact ⟨_, rfl, fun d nd => q d nd⟩
    have n12 : k ≠ 12 := fun z => e12 (by rw [z]; exact decide_eq_true rfl)
    refine ⟨_, rfl, rfl, _, rfl, ite2 (fun e => ?_) (fun e13 => ?_)⟩
    · have hk : k = 13 := by
        have := V.int.inj (of_decide_eq_true e)
        omega
      subst hk
      exact ⟨_, rfl, _, rfl, fun d nd => q d nd⟩
    have n13 : k ≠ 13 := fun z => e13 (by rw [z]; exact decide_eq_true rfl)
    omega
def spNone (cs : Nat → Addr) : Sp := fun vs H _ E => ∃ k : Nat, vs = [.int k] ∧ 14 ≤ k ∧ k < 22 ∧ E (.ref (cs k)) none H
theorem scK2 : FnScope ["_law_k"] ["_law_k"] (defScope sNone) := ⟨rfl, rfl, rfl, by decide +kernel, rfl, by decide +kernel, by decide +kernel⟩
theorem ok_none {f : Addr} {fd : FuncData} {cs : Nat → Addr} (F : Fun K "_law_raise_none" "_law_raise_none" sNone f fd) (O : Errs P w K mg base cs) : FnOk P w K mg base (L2.CX P w) 3 f fd ["_law_k"] (spNone cs) := by
  refine F.okX scK2 (fun vs H Q E h => ?_) (fun cdv A outer s H vs Q E hr h => ?_)
  · obtain ⟨k, rfl, _⟩ := h
    rfl
  · obtain ⟨k, rfl, k14, hk, q⟩ := h
    refine ⟨_, pss_cons (ps_if (pt_cmpR op_eq (pv 0) pe_int (nomark _)) (pss_one (ps_raise (W := fun cls d _ H => E cls d H) rfl (takes_of rfl rfl rfl rfl) (pmk0 O.o14 (by rfl)))) pss_nil)
      (pss_cons (ps_if (pt_cmpR op_eq (pv 0) pe_int (nomark _)) (pss_one (ps_raise (W := fun cls d _ H => E cls d H) rfl (takes_of rfl rfl rfl rfl) (pmk0 O.o15 (by rfl)))) pss_nil)
      (pss_cons (ps_if (pt_cmpR op_eq (pv 0) pe_int (nomark _)) (pss_one (ps_raise (W := fun cls d _ H => E cls d H) rfl (takes_of rfl rfl rfl rfl) (pmk0 O.o16 (by rfl)))) pss_nil)
      (pss_cons (ps_if (pt_cmpR op_eq (pv 0) pe_int (nomark _)) (pss_one (ps_raise (W := fun cls d _ H => E cls d H) rfl (takes_of rfl rfl rfl rfl) (pmk0 O.o17 (by rfl)))) pss_nil)
      (pss_cons (ps_if (pt_cmpR op_eq (pv 0) pe_int (nomark _)) (pss_one (ps_raise (W := fun cls d _ H => E cls d H) rfl (takes_of rfl rfl rfl rfl) (pmk0 O.o18 (by rfl)))) pss_nil)
      (pss_cons (ps_if (pt_cmpR op_eq (pv 0) pe_int (nomark _)) (pss_one (ps_raise (W := fun cls d _ H => E cls d H) rfl (takes_of rfl rfl rfl rfl) (pmk0 O.o19 (by rfl)))) pss_nil)
      (pss_cons (ps_if (pt_cmpR op_eq (pv 0) pe_int (nomark _)) (pss_one (ps_raise (W := fun cls d _ H => E cls d H) rfl (takes_of rfl rfl rfl rfl) (pmk0 O.o20 (by rfl)))) pss_nil)
      (pss_one (ps_if (pt_cmpR op_eq (pv 0) pe_int (nomark _)) (pss_one (ps_raise (W := fun cls d _ H => E cls d H) rfl (takes_of rfl rfl rfl rfl) (pmk0 O.o21 (by rfl)))) pss_nil)))))))), ?_⟩
    refine ⟨_, rfl, rfl, _, rfl, ite2 (fun e => ?_) (fun e14 => ?_)⟩
    · have hk : k = 14 := by
        have := V.int.inj (of_decide_eq_true e)
        omega
      subst hk
      exact q
    have n14 : k ≠ 14 := fun z => e14 (by rw [z]; exact decide_eq_true rfl)
    refine ⟨_, rfl, rfl, _, rfl, ite2 (fun e => ?_) (fun e15 => ?_)⟩
    · have hk : k = 15 := by
        have := V.int.inj (of_decide_eq_true e)
        omega
      subst hk
      exact q
    have n15 : k ≠ 15 := fun z => e15 (by rw [z]; exact decide_eq_true rfl)
    refine ⟨_, rfl, rfl, _, rfl, ite2 (fun e => ?_) (fun e16 => ?_)⟩
    · have hk : k = 16 := by
        have := V.int.inj (of_decide_eq_true e)
        omega
      subst hk
      exact q
    have n16 : k ≠ 16 := fun z => e16 (by rw [z]; exact decide_eq_true rfl)
    refine ⟨_, rfl, rfl, _, rfl, ite2 (fun e => ?_) (fun e17 => ?_)⟩
    · have hk : k = 17 := by
        have := V.int.inj (of_decide_eq_true e)
        omega
      subst hk
      exact q
    have n17 : k ≠ 17 := fun z => e17 (by rw [z]; exact decide_eq_true rfl)
    refine ⟨_, rfl, rfl, _, rfl, ite2 (fun e => ?_) (fun e18 => ?_)⟩
    · have hk : k = 18 := by
        have := V.int.inj (of_decide_eq_true e)
        omega
      subst hk
      exact q
    have n18 : k ≠ 18 := fun z => e18 (by rw [z]; exact decide_eq_true rfl)
    refine ⟨_, rfl, rfl, _, rfl, ite2 (fun e => ?_) (fun e19 => ?_)⟩
    · have hk : k = 19 := by
        have := V.int.inj (of_decide_eq_true e)
        omega
      subst hk
      exact q
    have n19 : k ≠ 19 := fun z => e19 (by rw [z]; exact decide_eq_true rfl)
    refine ⟨_, rfl, rfl, _, rfl, ite2 (fun e => ?_) (fun e20 => ?_)⟩
    · have hk : k = 20 := by
        have := V.int.inj (of_decide_eq_true e)
        omega
      subst hk
      exact q
    have n20 : k ≠ 20 := fun z => e20 (by rw [z]; exact decide_eq_true rfl)
    refine ⟨_, rfl, rfl, _, rfl, ite2 (fun e => ?_) (fun e21 => ?_)⟩
    · have hk : k = 21 := by
        have := V.int.inj (of_decide_eq_true e)
        omega
      subst hk
      exact q
    have n21 : k ≠ 21 := fun z => e21 (by rw [z]; exact decide_eq_true rfl)
    omega
end
end Fv


set_option Elab.async false
set_option linter.all false
set_option maxRecDepth 100000
set_option maxHeartbeats 2000000
namespace Fv
open PySem PySem.Spec PyProof.Rows L2
abbrev sCls : Stmt := top 31
def fnames : List Str := ["place", "name", "index", "row", "most", "many", "deed"]
structure Caught (K : PySem.W.Frag) (mg : Str → Option Value) (cs : Nat → Addr) (AE : Addr) : Prop where
  ec : ∀ k, k < 22 → ExcC K (cs k)
  kt : ∀ k, k < 22 → ∀ j, j < 22 → PySem.W.kitOne K (.ref (cs k)) (.ref (cs j)) = some (decide (j = k))
  ka : ∀ k, k < 22 → PySem.W.kitOne K (.ref (cs k)) (.ref AE) = some true
  kv : ∀ k, k < 22 → PySem.W.kitOne K (.ref (cs k)) (.type "ValueError") = some true
  kl : ∀ k, k < 22 → PySem.W.kitOne K (.ref (cs k)) (.type "LookupError") = some false
  no : ∀ k, k < 22 → ∀ f ∈ fnames, PySem.W.findIn K (.ref (cs k)) f = some none
  em : ∀ k, k < 22 → PySem.W.exmOne K (.ref (cs k)) (.ref AE) = some true
  gA : mg "ApartError" = some (.ref AE)
  gV : mg "ValueError" = none
  gL : mg "LookupError" = none
theorem xf_of {K : PySem.W.Frag} {C : Addr} (h : ExcC K C) : XfC K C := ⟨h.hg, h.hk, h.hs, h.hd⟩
def bl (k j : Nat) : V := .bl (decide (j = k))
def blsT (k : Nat) : List V := (List.range 22).map (bl k) ++ [.bl true, .bl true, .bl false]
/-- the error's class is the k-th, its dict's fields are fs -/
def OfK (cs : Nat → Addr) (k : Nat) (cls : Value) (d : Option Addr) (fs : List (Str × V)) (H : Hp) : Prop := cls = .ref (cs k) ∧ ((k < 14 ∧ ∃ dd, d = some dd ∧ H dd = some (.xd fs)) ∨ (14 ≤ k ∧ d = none))
theorem OfK.same {cs : Nat → Addr} {k : Nat} {cls : Value} {d : Option Addr} {fs : List (Str × V)} {H H' : Hp} (h : OfK cs k cls d fs H) (s : ∀ c o, H c = some o → H' c = some o) : OfK cs k cls d fs H' := by
  obtain ⟨h1, h2⟩ := h
  refine ⟨h1, ?_⟩
  rcases h2 with ⟨a, dd, b, c⟩ | h2
  · exact .inl ⟨a, dd, b, s _ _ c⟩
  · exact .inr h2
theorem OfK.bears {cs : Nat → Addr} {k : Nat} {oe : Obj} {fs : List (Str × V)} {H : Hp} (h : OfK cs k oe.cls oe.dict fs H) (hf : ∃ vs, oe.data = .fields vs) : ∃ D, Bears H oe (cs k) D := by
  obtain ⟨h1, h2⟩ := h
  rcases h2 with ⟨a, dd, b, c⟩ | ⟨a, b⟩
  · exact ⟨some (dd, fs), h1, hf, b, c⟩
  · exact ⟨none, h1, hf, b⟩
def spCls (cs : Nat → Addr) : Addr → Value → Option Addr → Sp := fun a cls d vs H Q _ => ∃ (k : Nat) (fs : List (Str × V)), vs = [.ref a] ∧ k < 22 ∧ OfK cs k cls d fs H ∧ ∀ H' q, Same H H' → H q = none → q ≠ sysModules → H' q = some (.lst (blsT k)) → Q (.ref q) H'
section
variable {P : Program} {w : World} {K : PySem.W.Frag} {mg : Str → Option Value} {base : Heap}
theorem scC : FnScope ["_law_e", "_law_found"] ["_law_e"] (defScope sCls) := ⟨rfl, rfl, rfl, by decide +kernel, rfl, by decide +kernel, by decide +kernel⟩
theorem ok_cls {f AE : Addr} {fd : FuncData} {cs : Nat → Addr} (F : Fun K "_law_classes" "_law_classes" sCls f fd) (O : Errs P w K mg base cs) (T : Caught K mg cs AE) (mq : mg "isinstance" = none) : FnP P w K mg base 1 f fd ["_law_e"] (spCls cs) := by
  refine okP F scC (fun a c d vs H Q E h => ?_) (fun cdv A fr s H vs Q E p hr hf h => ?_)
  · obtain ⟨k, fs, rfl, _⟩ := h
    rfl
  · obtain ⟨k, fs, rfl, hk, hO, q⟩ := h
    have hp : (p.1, p.2) ∈ (L2H.cxH CX0 P w K mg base ["_law_e", "_law_found"] "_law_classes" (defScope sCls) f cdv A fr s H E p).nox.pn := List.mem_cons_self
    refine ⟨_, pss_cons (ps_set (i := 1) scC.nd rfl (.inl rfl) (pe_lstB (pa_cons (pe_callB (call_isP hp) (by rfl) mq (by decide +kernel) (pa_cons (pv 0) (pa_cons (pe_glob (v := .ref (cs 0)) (by rfl) O.o0.gC rfl) pa_nil))) (pa_cons (pe_callB (call_isP hp) (by rfl) mq (by decide +kernel) (pa_cons (pv 0) (pa_cons (pe_glob (v := .ref (cs 1)) (by rfl) O.o1.gC rfl) pa_nil))) (pa_cons (pe_callB (call_isP hp) (by rfl) mq (by decide +kernel) (pa_cons (pv 0) (pa_cons (pe_glob (v := .ref (cs 2)) (by rfl) O.o2.gC rfl) pa_nil))) pa_nil)))))
      (pss_cons (ps_aug (i := 1) scC.nd rfl (.inl rfl) (pe_lstB (pa_cons (pe_callB (call_isP hp) (by rfl) mq (by decide +kernel) (pa_cons (pv 0) (pa_cons (pe_glob (v := .ref (cs 3)) (by rfl) O.o3.gC rfl) pa_nil))) (pa_cons (pe_callB (call_isP hp) (by rfl) mq (by decide +kernel) (pa_cons (pv 0) (pa_cons (pe_glob (v := .ref (cs 4)) (by rfl) O.o4.gC rfl) pa_nil))) (pa_cons (pe_callB (call_isP hp) (by rfl) mq (by decide +kernel) (pa_cons (pv 0) (pa_cons (pe_glob (v := .ref (cs 5)) (by rfl) O.o5.gC rfl) pa_nil))) pa_nil)))) iop_ext)
      (pss_cons (ps_aug (i := 1) scC.nd rfl (.inl rfl) (pe_lstB (pa_cons (pe_callB (call_isP hp) (by rfl) mq (by decide +kernel) (pa_cons (pv 0) (pa_cons (pe_glob (v := .ref (cs 6)) (by rfl) O.o6.gC rfl) pa_nil))) (pa_cons (pe_callB (call_isP hp) (by rfl) mq (by decide +kernel) (pa_cons (pv 0) (pa_cons (pe_glob (v := .ref (cs 7)) (by rfl) O.o7.gC rfl) pa_nil))) (pa_cons (pe_callB (call_isP hp) (by rfl) mq (by decide +kernel) (pa_cons (pv 0) (pa_cons (pe_glob (v := .ref (cs 8)) (by rfl) O.o8.gC rfl) pa_nil))) pa_nil)))) iop_ext)
      (pss_cons (ps_aug (i := 1) scC.nd rfl (.inl rfl) (pe_lstB (pa_cons (pe_callB (call_isP hp) (by rfl) mq (by decide +kernel) (pa_cons (pv 0) (pa_cons (pe_glob (v := .ref (cs 9)) (by rfl) O.o9.gC rfl) pa_nil))) (pa_cons (pe_callB (call_isP hp) (by rfl) mq (by decide +kernel) (pa_cons (pv 0) (pa_cons (pe_glob (v := .ref (cs 10)) (by rfl) O.o10.gC rfl) pa_nil))) (pa_cons (pe_callB (call_isP hp) (by rfl) mq (by decide +kernel) (pa_cons (pv 0) (pa_cons (pe_glob (v := .ref (cs 11)) (by rfl) O.o11.gC rfl) pa_nil))) pa_nil)))) iop_ext)
      (pss_cons (ps_aug (i := 1) scC.nd rfl (.inl rfl) (pe_lstB (pa_cons (pe_callB (call_isP hp) (by rfl) mq (by decide +kernel) (pa_cons (pv 0) (pa_cons (pe_glob (v := .ref (cs 12)) (by rfl) O.o12.gC rfl) pa_nil))) (pa_cons (pe_callB (call_isP hp) (by rfl) mq (by decide +kernel) (pa_cons (pv 0) (pa_cons (pe_glob (v := .ref (cs 13)) (by rfl) O.o13.gC rfl) pa_nil))) (pa_cons (pe_callB (call_isP hp) (by rfl) mq (by decide +kernel) (pa_cons (pv 0) (pa_cons (pe_glob (v := .ref (cs 14)) (by rfl) O.o14.gC rfl) pa_nil))) pa_nil)))) iop_ext)
      (pss_cons (ps_aug (i := 1) scC.nd rfl (.inl rfl) (pe_lstB (pa_cons (pe_callB (call_isP hp) (by rfl) mq (by decide +kernel) (pa_cons (pv 0) (pa_cons (pe_glob (v := .ref (cs 15)) (by rfl) O.o15.gC rfl) pa_nil))) (pa_cons (pe_callB (call_isP hp) (by rfl) mq (by decide +kernel) (pa_cons (pv 0) (pa_cons (pe_glob (v := .ref (cs 16)) (by rfl) O.o16.gC rfl) pa_nil))) (pa_cons (pe_callB (call_isP hp) (by rfl) mq (by decide +kernel) (pa_cons (pv 0) (pa_cons (pe_glob (v := .ref (cs 17)) (by rfl) O.o17.gC rfl) pa_nil))) pa_nil)))) iop_ext)
      (pss_cons (ps_aug (i := 1) scC.nd rfl (.inl rfl) (pe_lstB (pa_cons (pe_callB (call_isP hp) (by rfl) mq (by decide +kernel) (pa_cons (pv 0) (pa_cons (pe_glob (v := .ref (cs 18)) (by rfl) O.o18.gC rfl) pa_nil))) (pa_cons (pe_callB (call_isP hp) (by rfl) mq (by decide +kernel) (pa_cons (pv 0) (pa_cons (pe_glob (v := .ref (cs 19)) (by rfl) O.o19.gC rfl) pa_nil))) (pa_cons (pe_callB (call_isP hp) (by rfl) mq (by decide +kernel) (pa_cons (pv 0) (pa_cons (pe_glob (v := .ref (cs 20)) (by rfl) O.o20.gC rfl) pa_nil))) pa_nil)))) iop_ext)
      (pss_cons (ps_aug (i := 1) scC.nd rfl (.inl rfl) (pe_lstB (pa_cons (pe_callB (call_isP hp) (by rfl) mq (by decide +kernel) (pa_cons (pv 0) (pa_cons (pe_glob (v := .ref (cs 21)) (by rfl) O.o21.gC rfl) pa_nil))) pa_nil)) iop_ext)
      (pss_one (ps_ret (pe_op op_catB (pv 1) (pe_lstB (pa_cons (pe_callB (call_isP hp) (by rfl) mq (by decide +kernel) (pa_cons (pv 0) (pa_cons (pe_glob (v := .ref AE) (by rfl) T.gA rfl) pa_nil))) (pa_cons (pe_callB (call_isP hp) (by rfl) mq (by decide +kernel) (pa_cons (pv 0) (pa_cons (pe_bltn (v := .ty "ValueError") (by rfl) T.gV PyProof.Rows.Boot.«ValueError» rfl) pa_nil))) (pa_cons (pe_callB (call_isP hp) (by rfl) mq (by decide +kernel) (pa_cons (pv 0) (pa_cons (pe_bltn (v := .ty "LookupError") (u := .type "LookupError") (by rfl) T.gL (by decide +kernel) rfl) pa_nil))) pa_nil)))))))))))))), ?_⟩
    obtain ⟨D, B⟩ := hO.bears hf
    have ec := T.ec k hk
    have kt := T.kt k hk
    refine ⟨_, rfl, cs k, D, _, _, _, rfl, B, ec, .own _, kt 0 (by decide), _, rfl, cs k, D, _, _, _, rfl, B, ec, .own _, kt 1 (by decide), _, rfl, cs k, D, _, _, _, rfl, B, ec, .own _, kt 2 (by decide), by show 3 ≤ sizeLine; decide, fun q0 n0 m0 => ?_⟩
    have keep : ∀ {H' : Hp}, (∀ c o, H c = some o → H' c = some o) → Bears H' p.2 (cs k) D := fun {H'} s => by
      obtain ⟨b1, b2, b3⟩ := B
      refine ⟨b1, b2, ?_⟩
      cases D with
      | none => exact b3
      | some D => exact ⟨b3.1, s _ _ b3.2⟩
    dsimp only
    have s1 : ∀ c o, H c = some o → (upd H q0 (.lst [bl k 0, bl k 1, bl k 2])) c = some o := fun c o e => same_upd n0 c o e
    have e1 : (upd H q0 (.lst [bl k 0, bl k 1, bl k 2])) q0 = some (.lst ((List.range 3).map (bl k))) := upd_same
    refine cutK (fun σ' H' => σ' = [some (.ref p.1), some (.ref q0)] ∧ (∀ c o, H c = some o → H' c = some o) ∧ H' q0 = some (.lst ((List.range 6).map (bl k)))) ?_ (fun kk => ?_)
    rotate_left
    · refine ⟨_, rfl, _, rfl, cs k, D, _, _, _, rfl, (keep s1), ec, .own _, kt 3 (by decide), _, rfl, cs k, D, _, _, _, rfl, (keep s1), ec, .own _, kt 4 (by decide), _, rfl, cs k, D, _, _, _, rfl, (keep s1), ec, .own _, kt 5 (by decide), by show 3 ≤ sizeLine; decide, fun p1 np _ => ⟨q0, p1, _, _, rfl, rfl, by rw [upd_ne (ne_of_none e1 np)]; exact e1, upd_same, by show 6 ≤ sizeLine; decide, kk _ _ ⟨rfl, fun c o e => ?_, upd_same⟩⟩⟩
      rw [upd_ne (ne_of_none e n0), upd_ne (ne_of_none (s1 c o e) np)]
      exact s1 c o e
    clear s1 e1
    rintro σ' H' ⟨rfl, s1, e1⟩
    refine cutK (fun σ' H' => σ' = [some (.ref p.1), some (.ref q0)] ∧ (∀ c o, H c = some o → H' c = some o) ∧ H' q0 = some (.lst ((List.range 9).map (bl k)))) ?_ (fun kk => ?_)
    rotate_left
    · refine ⟨_, rfl, _, rfl, cs k, D, _, _, _, rfl, (keep s1), ec, .own _, kt 6 (by decide), _, rfl, cs k, D, _, _, _, rfl, (keep s1), ec, .own _, kt 7 (by decide), _, rfl, cs k, D, _, _, _, rfl, (keep s1), ec, .own _, kt 8 (by decide), by show 3 ≤ sizeLine; decide, fun p1 np _ => ⟨q0, p1, _, _, rfl, rfl, by rw [upd_ne (ne_of_none e1 np)]; exact e1, upd_same, by show 9 ≤ sizeLine; decide, kk _ _ ⟨rfl, fun c o e => ?_, upd_same⟩⟩⟩
      rw [upd_ne (ne_of_none e n0), upd_ne (ne_of_none (s1 c o e) np)]
      exact s1 c o e
    clear s1 e1
    rintro σ' H' ⟨rfl, s1, e1⟩
    refine cutK (fun σ' H' => σ' = [some (.ref p.1), some (.ref q0)] ∧ (∀ c o, H c = some o → H' c = some o) ∧ H' q0 = some (.lst ((List.range 12).map (bl k)))) ?_ (fun kk => ?_)
    rotate_left
    · refine ⟨_, rfl, _, rfl, cs k, D, _, _, _, rfl, (keep s1), ec, .own _, kt 9 (by decide), _, rfl, cs k, D, _, _, _, rfl, (keep s1), ec, .own _, kt 10 (by decide), _, rfl, cs k, D, _, _, _, rfl, (keep s1), ec, .own _, kt 11 (by decide), by show 3 ≤ sizeLine; decide, fun p1 np _ => ⟨q0, p1, _, _, rfl, rfl, by rw [upd_ne (ne_of_none e1 np)]; exact e1, upd_same, by show 12 ≤ sizeLine; decide, kk _ _ ⟨rfl, fun c o e => ?_, upd_same⟩⟩⟩
      rw [upd_ne (ne_of_none e n0), upd_ne (ne_of_none (s1 c o e) np)]
      exact s1 c o e
    clear s1 e1
    rintro σ' H' ⟨rfl, s1, e1⟩
    refine cutK (fun σ' H' => σ' = [some (.ref p.1), some (.ref q0)] ∧ (∀ c o, H c = some o → H' c = some o) ∧ H' q0 = some (.lst ((List.range 15).map (bl k)))) ?_ (fun kk => ?_)
    rotate_left
    · refine ⟨_, rfl, _, rfl, cs k, D, _, _, _, rfl, (keep s1), ec, .own _, kt 12 (by decide), _, rfl, cs k, D, _, _, _, rfl, (keep s1), ec, .own _, kt 13 (by decide), _, rfl, cs k, D, _, _, _, rfl, (keep s1), ec, .own _, kt 14 (by decide), by show 3 ≤ sizeLine; decide, fun p1 np _ => ⟨q0, p1, _, _, rfl, rfl, by rw [upd_ne (ne_of_none e1 np)]; exact e1, upd_same, by show 15 ≤ sizeLine; decide, kk _ _ ⟨rfl, fun c o e => ?_, upd_same⟩⟩⟩
      rw [upd_ne (ne_of_none e n0), upd_ne (ne_of_none (s1 c o e) np)]
      exact s1 c o e
    clear s1 e1
    rintro σ' H' ⟨rfl, s1, e1⟩
    refine cutK (fun σ' H' => σ' = [some (.ref p.1), some (.ref q0)] ∧ (∀ c o, H c = some o → H' c = some o) ∧ H' q0 = some (.lst ((List.range 18).map (bl k)))) ?_ (fun kk => ?_)
    rotate_left
    · refine ⟨_, rfl, _, rfl, cs k, D, _, _, _, rfl, (keep s1), ec, .own _, kt 15 (by decide), _, rfl, cs k, D, _, _, _, rfl, (keep s1), ec, .own _, kt 16 (by decide), _, rfl, cs k, D, _, _, _, rfl, (keep s1), ec, .own _, kt 17 (by decide), by show 3 ≤ sizeLine; decide, fun p1 np _ => ⟨q0, p1, _, _, rfl, rfl, by rw [upd_ne (ne_of_none e1 np)]; exact e1, upd_same, by show 18 ≤ sizeLine; decide, kk _ _ ⟨rfl, fun c o e => ?_, upd_same⟩⟩⟩
      rw [upd_ne (ne_of_none e n0), upd_ne (ne_of_none (s1 c o e) np)]
      exact s1 c o e
    clear s1 e1
    rintro σ' H' ⟨rfl, s1, e1⟩
    refine cutK (fun σ' H' => σ' = [some (.ref p.1), some (.ref q0)] ∧ (∀ c o, H c = some o → H' c = some o) ∧ H' q0 = some (.lst ((List.range 21).map (bl k)))) ?_ (fun kk => ?_)
    rotate_left
    · refine ⟨_, rfl, _, rfl, cs k, D, _, _, _, rfl, (keep s1), ec, .own _, kt 18 (by decide), _, rfl, cs k, D, _, _, _, rfl, (keep s1), ec, .own _, kt 19 (by decide), _, rfl, cs k, D, _, _, _, rfl, (keep s1), ec, .own _, kt 20 (by decide), by show 3 ≤ sizeLine; decide, fun p1 np _ => ⟨q0, p1, _, _, rfl, rfl, by rw [upd_ne (ne_of_none e1 np)]; exact e1, upd_same, by show 21 ≤ sizeLine; decide, kk _ _ ⟨rfl, fun c o e => ?_, upd_same⟩⟩⟩
      rw [upd_ne (ne_of_none e n0), upd_ne (ne_of_none (s1 c o e) np)]
      exact s1 c o e
    clear s1 e1
    rintro σ' H' ⟨rfl, s1, e1⟩
    refine cutK (fun σ' H' => σ' = [some (.ref p.1), some (.ref q0)] ∧ (∀ c o, H c = some o → H' c = some o) ∧ H' q0 = some (.lst ((List.range 22).map (bl k)))) ?_ (fun kk => ?_)
    rotate_left
    · refine ⟨_, rfl, _, rfl, cs k, D, _, _, _, rfl, (keep s1), ec, .own _, kt 21 (by decide), by show 1 ≤ sizeLine; decide, fun p1 np _ => ⟨q0, p1, _, _, rfl, rfl, by rw [upd_ne (ne_of_none e1 np)]; exact e1, upd_same, by show 22 ≤ sizeLine; decide, kk _ _ ⟨rfl, fun c o e => ?_, upd_same⟩⟩⟩
      rw [upd_ne (ne_of_none e n0), upd_ne (ne_of_none (s1 c o e) np)]
      exact s1 c o e
    clear s1 e1
    rintro σ' H' ⟨rfl, s1, e1⟩
    refine ⟨_, rfl, _, rfl, cs k, D, _, _, _, rfl, keep s1, ec, .own _, T.ka k hk, _, rfl, cs k, D, _, _, _, rfl, keep s1, ec, .ty "ValueError", T.kv k hk, _, rfl, cs k, D, _, _, _, rfl, keep s1, ec, .ty "LookupError", T.kl k hk, by show 3 ≤ sizeLine; decide, fun p1 np _ => ?_⟩
    refine ⟨q0, p1, _, _, rfl, rfl, by rw [upd_ne (ne_of_none e1 np)]; exact e1, upd_same, by show 25 ≤ sizeLine; decide, fun r nr mr => ?_⟩
    have nr' : H' r = none := by
      cases e : H' r with
      | none => rfl
      | some u =>
        have := same_upd (o := .lst [.bl true, .bl true, .bl false]) np _ _ e
        rw [this] at nr
        cases nr
    refine q _ r (fun c o e => ?_) ?_ mr upd_same
    · rw [upd_ne (ne_of_none (same_upd np _ _ (s1 c o e)) nr)]
      exact same_upd np _ _ (s1 c o e)
    · cases e : H r with
      | none => rfl
      | some u =>
        have := s1 _ _ e
        rw [this] at nr'
        cases nr'
end
end Fv


set_option Elab.async false
set_option linter.all false
set_option maxRecDepth 100000
set_option maxHeartbeats 2000000
namespace Fv
open PySem PySem.Spec PyProof.Rows L2
abbrev sFld : Stmt := top 32
/-- what the fields of the k-th error hold -/
def fldV (k : Nat) (x y : V) : List V := if k < 13 then [x] else if k = 13 then [x, y] else []
def spFld (cs : Nat → Addr) : Addr → Value → Option Addr → Sp := fun a cls d vs H Q _ => ∃ (k : Nat) (x y : V), vs = [.int k, .ref a] ∧ k < 22 ∧ OfK cs k cls d (flds k x y) H ∧ ∀ H' q, Same H H' → H q = none → q ≠ sysModules → H' q = some (.lst (fldV k x y)) → Q (.ref q) H'
theorem OfK.at_ {cs : Nat → Addr} {k : Nat} {oe : Obj} {fs : List (Str × V)} {H : Hp} (h : OfK cs k oe.cls oe.dict fs H) (hf : ∃ vs, oe.data = .fields vs) (hk : k < 14) : ∃ dd, Bears H oe (cs k) (some (dd, fs)) := by
  obtain ⟨h1, h2⟩ := h
  rcases h2 with ⟨a, dd, b, c⟩ | ⟨a, b⟩
  · exact ⟨dd, h1, hf, b, c⟩
  · omega
theorem Bears.same {H H' : Hp} {oe : Obj} {D dd : Addr} {fs : List (Str × V)} (B : Bears H oe D (some (dd, fs))) (s : ∀ c o, H c = some o → H' c = some o) : Bears H' oe D (some (dd, fs)) := ⟨B.1, B.2.1, B.2.2.1, s _ _ B.2.2.2⟩
theorem none_back {H H' : Hp} {a : Addr} (s : Same H H') (n : H' a = none) : H a = none := by
  cases e : H a with
  | none => rfl
  | some u =>
    have := s _ _ e
    rw [this] at n
    cases n
theorem in_two {k : Nat} {i j : Int} (h : inV (.int k) [.int i, .int j] = true) : (k : Int) = i ∨ (k : Int) = j := by
  simp [inV, eqV] at h
  omega
theorem in_one {k : Nat} {i : Int} (h : inV (.int k) [.int i] = true) : (k : Int) = i := by
  simp [inV, eqV] at h
  omega
theorem in_four {k : Nat} {i j m n : Int} (h : inV (.int k) [.int i, .int j, .int m, .int n] = true) : (k : Int) = i ∨ (k : Int) = j ∨ (k : Int) = m ∨ (k : Int) = n := by
  simp [inV, eqV] at h
  omega
theorem not_two {k : Nat} {i j : Int} (h : inV (.int k) [.int i, .int j] = false) : (k : Int) ≠ i ∧ (k : Int) ≠ j := by
  simp [inV, eqV] at h
  omega
theorem not_one {k : Nat} {i : Int} (h : inV (.int k) [.int i] = false) : (k : Int) ≠ i := by
  simp [inV, eqV] at h
  omega
theorem not_four {k : Nat} {i j m n : Int} (h : inV (.int k) [.int i, .int j, .int m, .int n] = false) : (k : Int) ≠ i ∧ (k : Int) ≠ j ∧ (k : Int) ≠ m ∧ (k : Int) ≠ n := by
  simp [inV, eqV] at h
  omega
section
variable {P : Program} {w : World} {K : PySem.W.Frag} {mg : Str → Option Value} {base : Heap}
theorem scF : FnScope ["_law_k", "_law_e"] ["_law_k", "_law_e"] (defScope sFld) := ⟨rfl, rfl, rfl, by decide +kernel, rfl, by decide +kernel, by decide +kernel⟩
theorem ok_fld {f AE : Addr} {fd : FuncData} {cs : Nat → Addr} (F : Fun K "_law_fields" "_law_fields" sFld f fd) (T : Caught K mg cs AE) : FnP P w K mg base 1 f fd ["_law_k", "_law_e"] (spFld cs) := by
  refine okP F scF (fun a c d vs H Q E h => ?_) (fun cdv A fr s H vs Q E p hr hf h => ?_)
  · obtain ⟨k, x, y, rfl, _⟩ := h
    rfl
  · obtain ⟨k, x, y, rfl, hk, hO, q⟩ := h
    have hp : (p.1, p.2) ∈ (L2H.cxH CX0 P w K mg base ["_law_k", "_law_e"] "_law_fields" (defScope sFld) f cdv A fr s H E p).nox.pn := List.mem_cons_self
    have ec := T.ec k hk
    have nf := T.no k hk
    refine ⟨_, pss_cons (ps_if (pt_cmpR op_in_seq (pv 0) (pe_tup (pa_cons pe_int (pa_cons pe_int pa_nil))) (by rfl)) (pss_one (ps_ret (pe_lstB (pa_cons (pe_xfP (n := "place") hp (pv 1)) pa_nil)))) pss_nil)
      (pss_cons (ps_if (pt_cmpR op_in_seq (pv 0) (pe_tup (pa_cons pe_int (pa_cons pe_int (pa_cons pe_int (pa_cons pe_int pa_nil))))) (by rfl)) (pss_one (ps_ret (pe_lstB (pa_cons (pe_xfP (n := "name") hp (pv 1)) pa_nil)))) pss_nil)
      (pss_cons (ps_if (pt_cmpR op_in_seq (pv 0) (pe_tup (pa_cons pe_int pa_nil)) (by rfl)) (pss_one (ps_ret (pe_lstB (pa_cons (pe_xfP (n := "index") hp (pv 1)) pa_nil)))) pss_nil)
      (pss_cons (ps_if (pt_cmpR op_in_seq (pv 0) (pe_tup (pa_cons pe_int (pa_cons pe_int pa_nil))) (by rfl)) (pss_one (ps_ret (pe_lstB (pa_cons (pe_xfP (n := "row") hp (pv 1)) pa_nil)))) pss_nil)
      (pss_cons (ps_if (pt_cmpR op_in_seq (pv 0) (pe_tup (pa_cons pe_int (pa_cons pe_int pa_nil))) (by rfl)) (pss_one (ps_ret (pe_lstB (pa_cons (pe_xfP (n := "most") hp (pv 1)) pa_nil)))) pss_nil)
      (pss_cons (ps_if (pt_cmpR op_in_seq (pv 0) (pe_tup (pa_cons pe_int pa_nil)) (by rfl)) (pss_one (ps_ret (pe_lstB (pa_cons (pe_xfP (n := "many") hp (pv 1)) pa_nil)))) pss_nil)
      (pss_cons (ps_if (pt_cmpR op_in_seq (pv 0) (pe_tup (pa_cons pe_int pa_nil)) (by rfl)) (pss_one (ps_ret (pe_lstB (pa_cons (pe_xfP (n := "deed") hp (pv 1)) pa_nil)))) pss_nil)
      (pss_one (ps_ret (pe_ifExp (pt_cmpR op_eq (pv 0) pe_int (nomark _)) (pe_lstB (pa_cons (pe_xfP (n := "name") hp (pv 1)) (pa_cons (pe_xfP (n := "index") hp (pv 1)) pa_nil))) (pe_lstB pa_nil)))))))))), ?_⟩
    have s0 : Same H H := fun _ _ e => e
    refine ⟨_, rfl, by show 2 ≤ sizeLine; decide, fun t0 nt0 => ⟨t0, [.int 0, .int 3], rfl, .inr (SqT.of upd_same), rfl, rfl, _, rfl, ?_⟩⟩
    have s1 := s0.trans (same_upd (o := .tup [.int 0, .int 3]) nt0)
    cases h0 : inV (.int (k : Int)) [.int 0, .int 3] with
    | true =>
      have hx := in_two h0
      have hx : k = 0 ∨ k = 3 := by omega
      rcases hx with rfl | rfl
      · obtain ⟨dd, B⟩ := hO.at_ hf (by decide)
        refine iteT ⟨_, rfl, rfl, cs 0, dd, _, x, B.same s1, xf_of ec, nf "place" (by decide +kernel), rfl, by show 1 ≤ sizeLine; decide, fun q1 n1 m1 => ?_⟩
        exact q _ q1 (s1.trans (same_upd n1)) (none_back s1 n1) m1 upd_same
      · obtain ⟨dd, B⟩ := hO.at_ hf (by decide)
        refine iteT ⟨_, rfl, rfl, cs 3, dd, _, x, B.same s1, xf_of ec, nf "place" (by decide +kernel), rfl, by show 1 ≤ sizeLine; decide, fun q1 n1 m1 => ?_⟩
        exact q _ q1 (s1.trans (same_upd n1)) (none_back s1 n1) m1 upd_same
    | false =>
      refine iteF ?_
      have g0 := not_two h0
      refine ⟨_, rfl, by show 4 ≤ sizeLine; decide, fun t1 nt1 => ⟨t1, [.int 1, .int 2, .int 5, .int 6], rfl, .inr (SqT.of upd_same), rfl, rfl, _, rfl, ?_⟩⟩
      have s2 := s1.trans (same_upd (o := .tup [.int 1, .int 2, .int 5, .int 6]) nt1)
      cases h1 : inV (.int (k : Int)) [.int 1, .int 2, .int 5, .int 6] with
      | true =>
        have hx := in_four h1
        have hx : k = 1 ∨ k = 2 ∨ k = 5 ∨ k = 6 := by omega
        rcases hx with rfl | rfl | rfl | rfl
        · obtain ⟨dd, B⟩ := hO.at_ hf (by decide)
          refine iteT ⟨_, rfl, rfl, cs 1, dd, _, x, B.same s2, xf_of ec, nf "name" (by decide +kernel), rfl, by show 1 ≤ sizeLine; decide, fun q1 n1 m1 => ?_⟩
          exact q _ q1 (s2.trans (same_upd n1)) (none_back s2 n1) m1 upd_same
        · obtain ⟨dd, B⟩ := hO.at_ hf (by decide)
          refine iteT ⟨_, rfl, rfl, cs 2, dd, _, x, B.same s2, xf_of ec, nf "name" (by decide +kernel), rfl, by show 1 ≤ sizeLine; decide, fun q1 n1 m1 => ?_⟩
          exact q _ q1 (s2.trans (same_upd n1)) (none_back s2 n1) m1 upd_same
        · obtain ⟨dd, B⟩ := hO.at_ hf (by decide)
          refine iteT ⟨_, rfl, rfl, cs 5, dd, _, x, B.same s2, xf_of ec, nf "name" (by decide +kernel), rfl, by show 1 ≤ sizeLine; decide, fun q1 n1 m1 => ?_⟩
          exact q _ q1 (s2.trans (same_upd n1)) (none_back s2 n1) m1 upd_same
        · obtain ⟨dd, B⟩ := hO.at_ hf (by decide)
          refine iteT ⟨_, rfl, rfl, cs 6, dd, _, x, B.same s2, xf_of ec, nf "name" (by decide +kernel), rfl, by show 1 ≤ sizeLine; decide, fun q1 n1 m1 => ?_⟩
          exact q _ q1 (s2.trans (same_upd n1)) (none_back s2 n1) m1 upd_same
      | false =>
        refine iteF ?_
        have g1 := not_four h1
        refine ⟨_, rfl, by show 1 ≤ sizeLine; decide, fun t2 nt2 => ⟨t2, [.int 4], rfl, .inr (SqT.of upd_same), rfl, rfl, _, rfl, ?_⟩⟩
        have s3 := s2.trans (same_upd (o := .tup [.int 4]) nt2)
        cases h2 : inV (.int (k : Int)) [.int 4] with
        | true =>
          have hx := in_one h2
          obtain rfl : k = 4 := by omega
          · obtain ⟨dd, B⟩ := hO.at_ hf (by decide)
            refine iteT ⟨_, rfl, rfl, cs 4, dd, _, x, B.same s3, xf_of ec, nf "index" (by decide +kernel), rfl, by show 1 ≤ sizeLine; decide, fun q1 n1 m1 => ?_⟩
            exact q _ q1 (s3.trans (same_upd n1)) (none_back s3 n1) m1 upd_same
        | false =>
          refine iteF ?_
          have g2 := not_one h2
          refine ⟨_, rfl, by show 2 ≤ sizeLine; decide, fun t3 nt3 => ⟨t3, [.int 7, .int 8], rfl, .inr (SqT.of upd_same), rfl, rfl, _, rfl, ?_⟩⟩
          have s4 := s3.trans (same_upd (o := .tup [.int 7, .int 8]) nt3)
          cases h3 : inV (.int (k : Int)) [.int 7, .int 8] with
          | true =>
            have hx := in_two h3
            have hx : k = 7 ∨ k = 8 := by omega
            rcases hx with rfl | rfl
            · obtain ⟨dd, B⟩ := hO.at_ hf (by decide)
              refine iteT ⟨_, rfl, rfl, cs 7, dd, _, x, B.same s4, xf_of ec, nf "row" (by decide +kernel), rfl, by show 1 ≤ sizeLine; decide, fun q1 n1 m1 => ?_⟩
              exact q _ q1 (s4.trans (same_upd n1)) (none_back s4 n1) m1 upd_same
            · obtain ⟨dd, B⟩ := hO.at_ hf (by decide)
              refine iteT ⟨_, rfl, rfl, cs 8, dd, _, x, B.same s4, xf_of ec, nf "row" (by decide +kernel), rfl, by show 1 ≤ sizeLine; decide, fun q1 n1 m1 => ?_⟩
              exact q _ q1 (s4.trans (same_upd n1)) (none_back s4 n1) m1 upd_same
          | false =>
            refine iteF ?_
            have g3 := not_two h3
            refine ⟨_, rfl, by show 2 ≤ sizeLine; decide, fun t4 nt4 => ⟨t4, [.int 9, .int 11], rfl, .inr (SqT.of upd_same), rfl, rfl, _, rfl, ?_⟩⟩
            have s5 := s4.trans (same_upd (o := .tup [.int 9, .int 11]) nt4)
            cases h4 : inV (.int (k : Int)) [.int 9, .int 11] with
            | true =>
              have hx := in_two h4
              have hx : k = 9 ∨ k = 11 := by omega
              rcases hx with rfl | rfl
              · obtain ⟨dd, B⟩ := hO.at_ hf (by decide)
                refine iteT ⟨_, rfl, rfl, cs 9, dd, _, x, B.same s5, xf_of ec, nf "most" (by decide +kernel), rfl, by show 1 ≤ sizeLine; decide, fun q1 n1 m1 => ?_⟩
                exact q _ q1 (s5.trans (same_upd n1)) (none_back s5 n1) m1 upd_same
              · obtain ⟨dd, B⟩ := hO.at_ hf (by decide)
                refine iteT ⟨_, rfl, rfl, cs 11, dd, _, x, B.same s5, xf_of ec, nf "most" (by decide +kernel), rfl, by show 1 ≤ sizeLine; decide, fun q1 n1 m1 => ?_⟩
                exact q _ q1 (s5.trans (same_upd n1)) (none_back s5 n1) m1 upd_same
            | false =>
              refine iteF ?_
              have g4 := not_two h4
              refine ⟨_, rfl, by show 1 ≤ sizeLine; decide, fun t5 nt5 => ⟨t5, [.int 10], rfl, .inr (SqT.of upd_same), rfl, rfl, _, rfl, ?_⟩⟩
              have s6 := s5.trans (same_upd (o := .tup [.int 10]) nt5)
              cases h5 : inV (.int (k : Int)) [.int 10] with
              | true =>
                have hx := in_one h5
                obtain rfl : k = 10 := by omega
                · obtain ⟨dd, B⟩ := hO.at_ hf (by decide)
                  refine iteT ⟨_, rfl, rfl, cs 10, dd, _, x, B.same s6, xf_of ec, nf "many" (by decide +kernel), rfl, by show 1 ≤ sizeLine; decide, fun q1 n1 m1 => ?_⟩
                  exact q _ q1 (s6.trans (same_upd n1)) (none_back s6 n1) m1 upd_same
              | false =>
                refine iteF ?_
                have g5 := not_one h5
                refine ⟨_, rfl, by show 1 ≤ sizeLine; decide, fun t6 nt6 => ⟨t6, [.int 12], rfl, .inr (SqT.of upd_same), rfl, rfl, _, rfl, ?_⟩⟩
                have s7 := s6.trans (same_upd (o := .tup [.int 12]) nt6)
                cases h6 : inV (.int (k : Int)) [.int 12] with
                | true =>
                  have hx := in_one h6
                  obtain rfl : k = 12 := by omega
                  · obtain ⟨dd, B⟩ := hO.at_ hf (by decide)
                    refine iteT ⟨_, rfl, rfl, cs 12, dd, _, x, B.same s7, xf_of ec, nf "deed" (by decide +kernel), rfl, by show 1 ≤ sizeLine; decide, fun q1 n1 m1 => ?_⟩
                    exact q _ q1 (s7.trans (same_upd n1)) (none_back s7 n1) m1 upd_same
                | false =>
                  refine iteF ?_
                  have g6 := not_one h6
                  refine ⟨_, rfl, rfl, _, rfl, ite2 (fun e => ?_) (fun e => ?_)⟩
                  · obtain rfl : k = 13 := by
                      have := V.int.inj (of_decide_eq_true e)
                      omega
                    obtain ⟨dd, B⟩ := hO.at_ hf (by decide)
                    refine ⟨_, rfl, rfl, cs 13, dd, _, x, B.same s7, xf_of ec, nf "name" (by decide +kernel), rfl, _, rfl, rfl, cs 13, dd, _, y, B.same s7, xf_of ec, nf "index" (by decide +kernel), rfl, by show 2 ≤ sizeLine; decide, fun q1 n1 m1 => ?_⟩
                    exact q _ q1 (s7.trans (same_upd n1)) (none_back s7 n1) m1 upd_same
                  · have hk14 : 14 ≤ k := by
                      have : k ≠ 13 := fun z => e (by rw [z]; exact decide_eq_true rfl)
                      omega
                    have ev : fldV k x y = [] := by
                      unfold fldV
                      rw [if_neg (by omega), if_neg (by omega)]
                    refine ⟨Nat.zero_le _, fun q1 n1 m1 => q _ q1 (s7.trans (same_upd n1)) (none_back s7 n1) m1 (by rw [ev]; exact upd_same)⟩
end
end Fv


set_option Elab.async false
set_option linter.all false
set_option maxRecDepth 100000
set_option maxHeartbeats 2000000
namespace Fv
open PySem PySem.Spec PyProof.Rows L2
abbrev sTaken : Stmt := top 33
def spTaken : Sp := fun vs H Q _ => ∃ (k : Nat) (x y : V), vs = [.int k, x, y] ∧ k < 22 ∧ ∀ (H' : Hp) (p q1 q2 : Addr), Same H H' → H p = none → H q1 = none → H q2 = none → p ≠ sysModules → q1 ≠ sysModules → q2 ≠ sysModules →
  H' p = some (.lst [.ref q1, .ref q2]) → H' q1 = some (.lst (blsT k)) → H' q2 = some (.lst (fldV k x y)) → Q (.ref p) H'
section
variable {P : Program} {w : World} {K : PySem.W.Frag} {mg : Str → Option Value} {base : Heap}
theorem scTk : FnScope ["_law_k", "_law_one", "_law_two", "_law_e"] ["_law_k", "_law_one", "_law_two"] (defScope sTaken) := ⟨rfl, rfl, rfl, by decide +kernel, rfl, by decide +kernel, by decide +kernel⟩
theorem ok_taken {f f1 f2 f3 f4 AE : Addr} {fd fd1 fd2 fd3 fd4 : FuncData} {cs : Nat → Addr} (F : Fun K "_law_taken" "_law_taken" sTaken f fd) (T : Caught K mg cs AE)
    (G1 : FnOk P w K mg base (L2.CX P w) 3 f1 fd1 ["_law_k", "_law_one", "_law_two"] (spOne cs)) (b1 : Binds K fd1 ["_law_k", "_law_one", "_law_two"] []) (m1 : mg "_law_raise_one" = some (.ref f1)) (k1 : PySem.W.keepIn K (.ref f1) = true)
    (G2 : FnOk P w K mg base (L2.CX P w) 3 f2 fd2 ["_law_k"] (spNone cs)) (b2 : Binds K fd2 ["_law_k"] []) (m2 : mg "_law_raise_none" = some (.ref f2)) (k2 : PySem.W.keepIn K (.ref f2) = true)
    (G3 : FnP P w K mg base 1 f3 fd3 ["_law_e"] (spCls cs)) (b3 : BindG fd3 ["_law_e"]) (m3 : mg "_law_classes" = some (.ref f3)) (k3 : PySem.W.keepIn K (.ref f3) = true)
    (G4 : FnP P w K mg base 1 f4 fd4 ["_law_k", "_law_e"] (spFld cs)) (b4 : BindG fd4 ["_law_k", "_law_e"]) (m4 : mg "_law_fields" = some (.ref f4)) (k4 : PySem.W.keepIn K (.ref f4) = true) :
    FnOk P w K mg base CX0 4 f fd ["_law_k", "_law_one", "_law_two"] spTaken := by
  refine F.ok scTk (fun vs H Q E h => ?_) (fun cdv A outer s H vs Q E hr h => ?_)
  · obtain ⟨k, x, y, rfl, _⟩ := h
    rfl
  · obtain ⟨k, x, y, rfl, hk, q⟩ := h
    have rh : ∀ o : Option Value, L2H.RoomH 1 ((cxOf CX0 P w K mg base ["_law_k", "_law_one", "_law_two", "_law_e"] "_law_taken" (defScope sTaken) f cdv A outer s H E).nox.A.mark o) := fun o =>
      L2H.RoomH.mono (j := 1) (k := 3) ⟨hr.dp, hr.un⟩ (by decide)
    refine ⟨_, pss_cons (ps_try_as (i := 3) (Wout := fun _ _ _ _ => False) rfl rfl scTk.nd rfl rfl ⟨rfl, by decide, Or.inl T.gA⟩ takes0
        (fun W pn xe tk _ => pss_cons (ps_if (pt_cmpR op_lt (pv 0) pe_int (nomark _)) (pss_one (ps_expr (by exact (pe_callS G1 hr rfl m1 k1 b1 (fun σ => passAt tk σ) (by exact (pa_cons (pv 0) (pa_cons (pv 1) (pa_cons (pv 2) pa_nil)))))))) pss_nil)
          (pss_one (ps_expr (by exact (pe_callS G2 hr rfl m2 k2 b2 (fun σ => passAt tk σ) (by exact (pa_cons (pv 0) pa_nil)))))))
        (fun a oe cls d pn hz hf => pss_one (ps_ret (pe_lstB (pa_cons (by exact (pe_callP G3 (rh _) List.mem_cons_self hz hf rfl m3 k3 b3 (by exact (pa_cons (pv 3) pa_nil))))
          (pa_cons (by exact (pe_callP G4 (rh _) List.mem_cons_self hz hf rfl m4 k4 b4 (by exact (pa_cons (pv 0) (pa_cons (pv 3) pa_nil))))) pa_nil))))))
      (pss_one (ps_ret (pe_lst pa_nil))), ?_⟩
    refine ⟨_, rfl, _, _, rfl, rfl, _, rfl, ite2 (fun e => ?_) (fun e => ?_)⟩
    · have hk14 : k < 14 := by
        have := of_decide_eq_true e
        omega
      refine ⟨_, rfl, _, rfl, _, rfl, k, x, y, rfl, hk14, fun d nd => ⟨true, T.em k hk, fun _ a na => ?_, fun z => nomatch z⟩⟩
      have s1 := same_upd (o := .xd (flds k x y)) nd
      have oK : OfK cs k (.ref (cs k)) (some d) (flds k x y) (upd H d (.xd (flds k x y))) := ⟨rfl, .inl ⟨hk14, d, rfl, upd_same⟩⟩
      refine ⟨_, rfl, k, _, rfl, hk, oK, fun H2 q1 s2 n1 w1 e1 => ⟨_, rfl, _, rfl, k, x, y, rfl, hk, oK.same s2, fun H3 q2 s3 n2 w2 e2 => ⟨by show 2 ≤ sizeLine; decide, fun p np wp => ?_⟩⟩⟩
      have s13 := (s1.trans s2).trans s3
      have ne1 : q1 ≠ p := ne_of_none (s3 _ _ e1) np
      have ne2 : q2 ≠ p := ne_of_none e2 np
      exact q _ p q1 q2 (s13.trans (same_upd np)) (none_back s13 np) (none_back s1 n1) (none_back (s1.trans s2) n2) wp w1 w2 upd_same (by rw [upd_ne ne1]; exact s3 _ _ e1) (by rw [upd_ne ne2]; exact e2)
    · have hk14 : 14 ≤ k := by
        have : ¬ (k : Int) < 14 := fun z => e (decide_eq_true z)
        omega
      refine ⟨_, rfl, k, rfl, hk14, hk, ⟨true, T.em k hk, fun _ a na => ?_, fun z => nomatch z⟩⟩
      have oK : OfK cs k (.ref (cs k)) none (flds k x y) H := ⟨rfl, .inr ⟨hk14, rfl⟩⟩
      refine ⟨_, rfl, k, _, rfl, hk, oK, fun H2 q1 s2 n1 w1 e1 => ⟨_, rfl, _, rfl, k, x, y, rfl, hk, oK.same s2, fun H3 q2 s3 n2 w2 e2 => ⟨by show 2 ≤ sizeLine; decide, fun p np wp => ?_⟩⟩⟩
      have s13 := s2.trans s3
      have ne1 : q1 ≠ p := ne_of_none (s3 _ _ e1) np
      have ne2 : q2 ≠ p := ne_of_none e2 np
      exact q _ p q1 q2 (s13.trans (same_upd np)) (none_back s13 np) n1 (none_back s2 n2) wp w1 w2 upd_same (by rw [upd_ne ne1]; exact s3 _ _ e1) (by rw [upd_ne ne2]; exact e2)
end
end Fv


set_option Elab.async false
set_option linter.all false
set_option maxRecDepth 100000
set_option maxHeartbeats 4000000
namespace Fv
open PySem PySem.Spec PyProof.Rows L2
abbrev sAlike : Stmt := top 27
abbrev sLaw : Stmt := top 34
structure Shown (d : PyData) : Prop where
  show_ : d.showable = true
  len : d.shown.length ≤ sizeLine
  deep : d.depth ≤ 20
def spAlike (K : PySem.W.Frag) : Sp := fun vs H Q _ => ∃ (b : Addr) (x y : V) (d : PyData) (n : Nat), vs = [x, y] ∧ Dq H b x d ∧ Dq H b y d ∧ Shown d ∧ n ≤ 60 ∧ EqR K H (EqV K H n) x y ∧ Q (.bl true) H
theorem lt0 : (listText []).length = 2 := by decide +kernel
theorem lt1 (x : Str) : (listText [x]).length = 1 + x.length + 1 := by
  unfold listText
  rw [strLen_append]
  have e3 : textFrom 0 "[" [x] = ("[" : Str) ++ x := rfl
  rw [e3, strLen_append]
  rfl
theorem lt2 (x y : Str) : (listText [x, y]).length = 1 + x.length + 2 + y.length + 1 := by
  unfold listText
  rw [strLen_append]
  have e3 : textFrom 0 "[" [x, y] = ("[" : Str) ++ x ++ ", " ++ y := rfl
  have e4 : ((", " : String) : Str).length = 2 := by decide +kernel
  rw [e3, strLen_append, strLen_append, strLen_append, e4]
  rfl
def fldD (k : Nat) (d e : PyData) : List PyData := if k < 13 then [d] else if k = 13 then [d, e] else []
theorem fld_dq {H : Hp} {b : Addr} {k : Nat} {x y : V} {d e : PyData} (hx : Dq H b x d) (hy : Dq H b y e) : DqAll H b (fldV k x y) (fldD k d e) := by
  unfold fldV fldD
  split
  · exact .cons hx .nil
  · split
    · exact .cons hx (.cons hy .nil)
    · exact .nil
theorem fld_plain {k : Nat} {x y : V} (hx : Plain x) (hy : Plain y) : ∀ v ∈ fldV k x y, Plain v := by
  unfold fldV
  intro v hv
  split at hv
  · rw [List.mem_singleton.mp hv]
    exact hx
  · split at hv
    · rcases List.mem_cons.mp hv with z | z
      · rw [z]
        exact hx
      · rw [List.mem_singleton.mp z]
        exact hy
    · cases hv
theorem fld_shown {k : Nat} {d e : PyData} (hd : Fine d) (he : Fine e) : Shown (.list [.list (fldD k d e)]) := by
  have h1 := hd.len
  have h2 := he.len
  have h3 := hd.deep
  have h4 := he.deep
  have big : 50000 ≤ sizeLine := by decide
  unfold fldD
  split
  · refine ⟨by simp [PyData.showable, PyData.showableAll, hd.show_], ?_, by simp [PyData.depth, PyData.depthAll]; omega⟩
    simp only [PyData.shown, PyData.shownAll, lt1]
    omega
  · split
    · refine ⟨by simp [PyData.showable, PyData.showableAll, hd.show_, he.show_], ?_, by simp [PyData.depth, PyData.depthAll]; omega⟩
      simp only [PyData.shown, PyData.shownAll, lt1, lt2]
      omega
    · refine ⟨by simp [PyData.showable, PyData.showableAll], ?_, by simp [PyData.depth, PyData.depthAll]⟩
      simp only [PyData.shown, PyData.shownAll, lt1, lt0]
      omega
theorem same_paired {K : PySem.W.Frag} {H : Hp} : ∀ {xs : List V}, (∀ v ∈ xs, Plain v) → Paired (EqV K H 1) xs xs
  | [], _ => .nil
  | v :: xs, h => .cons (by
      rcases h v List.mem_cons_self with f | ⟨c, rfl⟩
      · exact .inl ⟨rfl, f⟩
      · exact .inr (.inl ⟨c, rfl, rfl⟩)) (same_paired fun x hx => h x (List.mem_cons_of_mem _ hx))
def blsD (k : Nat) : List PyData := (List.range 22).map (fun j => .bool (decide (j = k))) ++ [.bool true, .bool true, .bool false]
theorem bls_dq {H : Hp} {b : Addr} (k : Nat) : DqAll H b (blsT k) (blsD k) := by
  have go : ∀ l : List Bool, DqAll H b (l.map V.bl) (l.map PyData.bool) := by
    intro l
    induction l with
    | nil => exact .nil
    | cons x l ih => exact .cons (.bl x) ih
  have := go ((List.range 22).map (fun j => decide (j = k)) ++ [true, true, false])
  rw [List.map_append, List.map_append, List.map_map, List.map_map] at this
  exact this
theorem bls_shown : ∀ k, k < 22 → Shown (.list (blsD k)) := by
  have h : ∀ k, k < 22 → ((PyData.list (blsD k)).showable && decide ((PyData.list (blsD k)).shown.length ≤ sizeLine) && decide ((PyData.list (blsD k)).depth ≤ 20)) = true := by decide +kernel
  intro k hk
  have := h k hk
  simp only [Bool.and_eq_true, decide_eq_true_eq] at this
  exact ⟨this.1.1, this.1.2, this.2⟩
theorem bls_plain (k : Nat) : ∀ v ∈ blsT k, Plain v := by
  intro v hv
  unfold blsT bl at hv
  rcases List.mem_append.mp hv with z | z
  · obtain ⟨j, _, rfl⟩ := List.mem_map.mp z
    exact .inl rfl
  · simp only [List.mem_cons, List.not_mem_nil, or_false] at z
    rcases z with rfl | rfl | rfl <;> exact .inl rfl
theorem bl_eq (i k : Nat) : V.bl (decide (V.int (0 + (i : Int)) = V.int (k : Int))) = bl k i := by
  unfold bl
  congr 1
  rw [Bool.eq_iff_iff]
  simp only [decide_eq_true_eq, V.int.injEq]
  omega
theorem abcOk : NameOk "abc" := ⟨by decide +kernel, by decide +kernel⟩
def spLaw (K : PySem.W.Frag) : Sp := fun vs H Q _ => ∃ (a : Addr) (ns : List Int), vs = [.ref a] ∧ SqL K H a (ns.map V.int) ∧ ns.length ≤ 63 ∧ ∀ H', Q (.bl true) H'
theorem Keep.dq {b : Addr} {H H' : Hp} {v : V} {d : PyData} (k : Keep b H H') (h : Dq H b v d) : Dq H' b v d := h.mono k
section
variable {P : Program} {w : World} {K : PySem.W.Frag} {mg : Str → Option Value} {base : Heap}
theorem scAl : FnScope ["_law_found", "_law_due"] ["_law_found", "_law_due"] (defScope sAlike) := ⟨rfl, rfl, rfl, by decide +kernel, rfl, by decide +kernel, by decide +kernel⟩
theorem ok_alike {f : Addr} {fd : FuncData} (F : Fun K "_law_alike" "_law_alike" sAlike f fd) (mr : mg "repr" = none) : FnG P w K mg base 1 f fd ["_law_found", "_law_due"] (spAlike K) := by
  refine okG F scAl (fun vs H Q E h => ?_) (fun cdv A outer s H vs Q E hg hr h => ?_)
  · obtain ⟨b, x, y, d, n, rfl, _⟩ := h
    rfl
  · obtain ⟨b, x, y, d, n, rfl, hx, hy, fl, hn, eq, q⟩ := h
    refine ⟨_, pss_one (ps_ret (pe_and (pe_cmpR (op_eqV hr.units) (pv 0) (pv 1) (nomark _))
      (pe_one (pe_cmpR op_eq (pe_callB (call_reprD hg hr.units) (by rfl) mr (by decide +kernel) (pa_cons (pv 0) pa_nil)) (pe_callB (call_reprD hg hr.units) (by rfl) mr (by decide +kernel) (pa_cons (pv 1) pa_nil)) (nomark _))))), ?_⟩
    refine ⟨_, rfl, _, rfl, n, hn, eq, _, rfl, ?_⟩
    refine iteT ⟨_, rfl, b, _, d, rfl, hx, fl.show_, fl.len, fl.deep, _, rfl, b, _, d, rfl, hy, fl.show_, fl.len, fl.deep, rfl, ?_⟩
    show Q (V.bl (decide (V.str d.shown = V.str d.shown))) H
    rw [decide_eq_true rfl]
    exact q
end
end Fv


set_option Elab.async false
set_option linter.all false
set_option maxRecDepth 100000
set_option maxHeartbeats 4000000
namespace Fv
open PySem PySem.Spec PyProof.Rows L2
theorem idx_read {k : Nat} {Q : VK} {σ : L2.St} {H : Hp} (e : σ[3]? = some (some (.int (k : Int)))) (h : ∀ j : Nat, (k = 13 ∧ j = 0 ∨ k < 13 ∧ j = 1 ∨ 14 ≤ k ∧ j = 2) → Q (.int (j : Int)) H) :
    tIf (tTest (tOp rEq (tVar 3) (tC (.int 13)))) (tC (.int 0)) (tIf (tTest (tOp (rI0 fun i j => .bl (decide (i < j))) (tVar 3) (tC (.int 13)))) (tC (.int 1)) (tC (.int 2))) σ H Q := by
  refine ⟨_, e, rfl, _, rfl, ite2 (fun c => ?_) (fun c => ?_)⟩
  · have := V.int.inj (of_decide_eq_true c)
    exact h 0 (.inl ⟨by omega, rfl⟩)
  · have n : k ≠ 13 := fun z => c (by rw [z]; exact decide_eq_true rfl)
    refine ⟨_, e, _, _, rfl, rfl, _, rfl, ite2 (fun c => ?_) (fun c => ?_)⟩
    · have := of_decide_eq_true c
      exact h 1 (.inr (.inl ⟨by omega, rfl⟩))
    · have : ¬ (k : Int) < 13 := fun z => c (decide_eq_true z)
      exact h 2 (.inr (.inr ⟨by omega, rfl⟩))
theorem pick {k j : Nat} {x y : V} {A B C : Addr} (hj : k = 13 ∧ j = 0 ∨ k < 13 ∧ j = 1 ∨ 14 ≤ k ∧ j = 2) {Z : Addr → Prop} (hA : Z A) (hB : Z B) (hC : Z C) {H : Hp} (a : H A = some (.lst [x, y])) (b : H B = some (.lst [x])) (c : H C = some (.lst [])) :
    ∃ D, ([V.ref A, V.ref B, V.ref C] : List V)[j]? = some (.ref D) ∧ H D = some (.lst (fldV k x y)) ∧ Z D := by
  rcases hj with ⟨rfl, rfl⟩ | ⟨h, rfl⟩ | ⟨h, rfl⟩
  · exact ⟨A, rfl, a, hA⟩
  · refine ⟨B, rfl, ?_, hB⟩
    unfold fldV
    rw [if_pos h]
    exact b
  · refine ⟨C, rfl, ?_, hC⟩
    unfold fldV
    rw [if_neg (by omega), if_neg (by omega)]
    exact c
theorem fld_get {k i : Nat} {x y z x' y' : V} (h : (fldV k x y)[i]? = some z) : (i = 0 ∧ z = x ∧ (fldV k x' y')[i]? = some x') ∨ (i = 1 ∧ z = y ∧ (fldV k x' y')[i]? = some y') := by
  unfold fldV at h ⊢
  split at h
  · rename_i hk
    rw [if_pos hk]
    match i, h with
    | 0, h => exact .inl ⟨rfl, (Option.some.inj h).symm, rfl⟩
    | i + 1, h => simp at h
  · rename_i hk
    rw [if_neg hk]
    split at h
    · rename_i h2
      rw [if_pos h2]
      match i, h with
      | 0, h => exact .inl ⟨rfl, (Option.some.inj h).symm, rfl⟩
      | 1, h => exact .inr ⟨rfl, (Option.some.inj h).symm, rfl⟩
      | i + 2, h => simp at h
    · simp at h
theorem fld_len (k : Nat) (x y x' y' : V) : (fldV k x y).length = (fldV k x' y').length := by
  unfold fldV
  split
  · rfl
  · split <;> rfl
theorem cut_one (x y : V) : cutV [x, y] (some 1) none = [y] := rfl
section
variable {P : Program} {w : World} {K : PySem.W.Frag} {mg : Str → Option Value} {base : Heap}
abbrev nLaw : List Str := ["_law_script", "_law_bag_here", "_law_turn", "_law_k", "_law_one", "_law_two", "_law_bare", "_law_looked", "_law_told", "_law_j", "_law_field"]
theorem scLw : FnScope nLaw ["_law_script"] (defScope sLaw) := ⟨rfl, rfl, rfl, by decide +kernel, rfl, by decide +kernel, by decide +kernel⟩
theorem ok_law {f fB fT fO fK fA : Addr} {fd fdB fdT fdO fdK fdA : FuncData} (F : Fun K "law" "law" sLaw f fd)
    (GB : FnOk P w K mg base CX0 1 fB fdB ["_law_script"] (spBag K)) (bB : Binds K fdB ["_law_script"] []) (mB : mg "_law_bag" = some (.ref fB)) (kB : PySem.W.keepIn K (.ref fB) = true)
    (GT : FnOk P w K mg base CX0 1 fT fdT ["_law_bag_here", "_law_many"] spTake) (bT : Binds K fdT ["_law_bag_here", "_law_many"] []) (mT : mg "_law_take" = some (.ref fT)) (kT : PySem.W.keepIn K (.ref fT) = true)
    (GO : FnOk P w K mg base CX0 2 fO fdO ["_law_bag_here", "_law_name"] spOdd) (bO : Binds K fdO ["_law_bag_here", "_law_name"] []) (mO : mg "_law_odd" = some (.ref fO)) (kO : PySem.W.keepIn K (.ref fO) = true)
    (GK : FnOk P w K mg base CX0 4 fK fdK ["_law_k", "_law_one", "_law_two"] spTaken) (bK : Binds K fdK ["_law_k", "_law_one", "_law_two"] []) (mK : mg "_law_taken" = some (.ref fK)) (kK : PySem.W.keepIn K (.ref fK) = true)
    (GA : FnG P w K mg base 1 fA fdA ["_law_found", "_law_due"] (spAlike K)) (bA : BindG fdA ["_law_found", "_law_due"]) (mA : mg "_law_alike" = some (.ref fA)) (kA : PySem.W.keepIn K (.ref fA) = true)
    (mr : mg "range" = none) (ml : mg "len" = none) : FnG P w K mg base 5 f fd ["_law_script"] (spLaw K) := by
  refine okG F scLw (fun vs H Q E h => ?_) (fun cdv A outer s H vs Q E hg hr h => ?_)
  · obtain ⟨a, ns, rfl, _⟩ := h
    rfl
  · obtain ⟨a, ns, rfl, hS, hlen, q⟩ := h
    have hr1 : Room 1 _ := hr.mono (by decide)
    have hr2 : Room 2 _ := hr.mono (by decide)
    refine ⟨_, pss_cons (ps_set (i := 1) scLw.nd rfl (.inl rfl) (pe_call GB hr1 (by rfl) mB kB bB .nil pass0 (pa_cons (pv 0) pa_nil)))
      (pss_cons (ps_for PassesOwn.never rfl (pi_range1 (by rfl) mr (pa_cons pe_int pa_nil)) (pg_name (i := 2) scLw.nd rfl (.inl rfl))
        (pss_cons (ps_set (i := 3) scLw.nd rfl (.inr rfl) (pe_call GT hr1 (by rfl) mT kT bT .nil pass0 (pa_cons (pv 1) (pa_cons pe_int pa_nil))))
        (pss_cons (ps_par (i := 4) (j := 5) rfl scLw.nd rfl rfl (by decide) rfl rfl (pa_cons (pe_lstB (pa_cons (pe_call GO hr2 (by rfl) mO kO bO .nil pass0 (pa_cons (pv 1) (pa_cons pe_str pa_nil))) pa_nil)) (pa_cons (pe_lstB (pa_cons (pe_call GO hr2 (by rfl) mO kO bO .nil pass0 (pa_cons (pv 1) (pa_cons pe_str pa_nil))) pa_nil)) pa_nil)) (by rfl))
        (pss_cons (ps_set (i := 6) scLw.nd rfl (.inl rfl) (pe_call GK hr (by rfl) mK kK bK .nil pass0 (pa_cons (pv 3) (pa_cons (pe_ix ix_list (pv 4) pe_int (fun _ _ => rfl)) (pa_cons (pe_ix ix_list (pv 5) pe_int (fun _ _ => rfl)) pa_nil)))))
        (pss_cons (ps_if (pt_not (pt_val (pe_callG GA hg hr1 (by rfl) mA kA bA (pa_cons (pe_slice sl_listB (pv 6) (po_some pe_int) po_none) (pa_cons (pe_lstB (pa_cons (pe_ix ix_list (pe_lstB (pa_cons (pe_op op_catB (pv 4) (pv 5)) (pa_cons (pv 4) (pa_cons (pe_lstB pa_nil) pa_nil)))) (pe_ifExp (pt_cmpR op_eq (pv 3) pe_int (nomark _)) pe_int (pe_ifExp (pt_cmpR op_lt (pv 3) pe_int (nomark _)) pe_int pe_int)) (fun _ _ => rfl)) pa_nil)) pa_nil))))) (pss_one (ps_ret pe_bl)) pss_nil)
        (pss_cons (ps_set (i := 7) scLw.nd rfl (.inl rfl) (pe_ix ix_list (pe_lstB (pa_cons (pe_lstB (pa_cons (pv 4) (pa_cons (pv 5) pa_nil))) (pa_cons (pe_lstB (pa_cons (pv 4) pa_nil)) (pa_cons (pe_lstB pa_nil) pa_nil)))) (pe_ifExp (pt_cmpR op_eq (pv 3) pe_int (nomark _)) pe_int (pe_ifExp (pt_cmpR op_lt (pv 3) pe_int (nomark _)) pe_int pe_int)) (fun _ _ => rfl)))
        (pss_cons (ps_set (i := 8) scLw.nd rfl (.inl rfl) (pe_call GK hr (by rfl) mK kK bK .nil pass0 (pa_cons (pv 3) (pa_cons (pv 4) (pa_cons (pv 5) pa_nil)))))
        (pss_cons (ps_if (PW.pt (pw_or (pt_cmpR op_ne (pe_callB call_len_seq (by rfl) ml PySem.boot_len (pa_cons (pv 8) pa_nil)) pe_int (nomark _)) (pw_or1 (pt_not (pt_val (pe_callG GA hg hr1 (by rfl) mA kA bA (pa_cons (pe_ix ix_list (pv 8) pe_int (fun _ _ => rfl)) (pa_cons (pe_op op_catB (pe_lc (own := [("_law_j", 9)]) (g := gName 9) (tt := tYes) rfl scLw.nd (pi_range1 (by rfl) mr (pa_cons pe_int pa_nil)) (blkOk_by (N := nLaw) (sc := defScope sLaw) (by decide +kernel)) (fun _ _ _ _ _ => pg_name (i := 9) scLw.nd rfl (Or.inl rfl)) (fun _ _ _ _ _ => pts_nil) (fun _ _ _ _ _ => pe_cmpR op_eq (pv 9) (pv 3) (nomark _))) (pe_lstB (pa_cons pe_bl (pa_cons pe_bl (pa_cons pe_bl pa_nil))))) pa_nil)))))))) (pss_one (ps_ret pe_bl)) pss_nil)
        (pss_cons (ps_if (pt_cmpR (op_neSame hr.units) (pe_ix ix_list (pv 8) pe_int (fun _ _ => rfl)) (pv 7) (nomark _)) (pss_one (ps_ret pe_bl)) pss_nil)
        (pss_cons (ps_expr (pe_bm PySem.F.plainAttrs_list PySem.F.slot_list_append PySem.F.type_list_append mt_append (pv 4) (pa_cons pe_str pa_nil)))
        (pss_cons (ps_expr (pe_bm PySem.F.plainAttrs_list PySem.F.slot_list_append PySem.F.type_list_append mt_append (pv 5) (pa_cons pe_str pa_nil)))
        (pss_one (ps_if (pt_cmpR (op_neSame hr.units) (pe_lc (own := [("_law_field", 10)]) (g := gName 10) (tt := tYes) rfl scLw.nd (pi_list (pe_ix ix_list (pv 8) pe_int (fun _ _ => rfl))) (blkOk_by (N := nLaw) (sc := defScope sLaw) (by decide +kernel)) (fun _ _ _ _ _ => pg_name (i := 10) scLw.nd rfl (Or.inl rfl)) (fun _ _ _ _ _ => pts_nil) (fun _ _ _ _ _ => (pe_ix (r := rIxL K) ix_list (pv 10) (pe_un un_neg pe_int) (fun _ _ => rfl)))) (pe_ix ix_list (pe_lstB (pa_cons (pe_lstB (pa_cons pe_str (pa_cons pe_str pa_nil))) (pa_cons (pe_lstB (pa_cons pe_str pa_nil)) (pa_cons (pe_lstB pa_nil) pa_nil)))) (pe_ifExp (pt_cmpR op_eq (pv 3) pe_int (nomark _)) pe_int (pe_ifExp (pt_cmpR op_lt (pv 3) pe_int (nomark _)) pe_int pe_int)) (fun _ _ => rfl)) (nomark _)) (pss_one (ps_ret pe_bl)) pss_nil)))))))))))))
      (pss_one (ps_ret pe_bl))), ?_⟩
    refine ⟨_, rfl, a, ns, rfl, hS, hlen, fun b H1 B1 s1 => ?_⟩
    refine ⟨8, rfl, by decide, by decide, ?_⟩
    refine for_range (lo := 0) (n := (8 : Int).toNat) (fun i σ H' => ∃ y2 y3 y4 y5 y6 y7 y8 y9 y10 : Option V, σ = [some (.ref a), some (.ref b), y2, y3, y4, y5, y6, y7, y8, y9, y10] ∧ Bag H' b)
      ⟨none, none, none, none, none, none, none, none, none, rfl, B1⟩ ?_ ?_
    · rintro i σ H2 hi ⟨y2, y3, y4, y5, y6, y7, y8, y9, y10, rfl, B2⟩
      refine ⟨_, rfl, b, 22, rfl, B2, by decide, by decide, fun k H3 hk22 B3 k3 _ => ?_⟩
      have hk : k < 22 := by omega
      dsimp only
      refine cutK (fun σ' H' => ∃ (l1 l2 c0 : Addr) (v1 v2 : V) (d1 d2 : PyData), σ' = [some (.ref a), some (.ref b), some (.int (0 + (i : Int))), some (.int k), some (.ref l1), some (.ref l2), y6, y7, y8, y9, y10] ∧ BagAt H' b c0 ∧ H' l1 = some (.lst [v1]) ∧ H' l2 = some (.lst [v2]) ∧
        l1 ≠ l2 ∧ (l1 ≠ b ∧ l1 ≠ c0) ∧ (l2 ≠ b ∧ l2 ≠ c0) ∧ l1 ≠ sysModules ∧ l2 ≠ sysModules ∧ Dq H' b v1 d1 ∧ Dq H' b v2 d2 ∧ Fine d1 ∧ Fine d2) ?_ (fun kk => ?_)
      rotate_left
      · obtain ⟨c0, C3⟩ := B3
        refine ⟨_, rfl, b, "abc", rfl, BagAt.bag C3, abcOk, fun v1 d1 H4 hd1 n1 B4 k4 g4 => ⟨by show 1 ≤ sizeLine; decide, fun l1 nl1 ml1 => ?_⟩⟩
        obtain ⟨C4, l1b, l1c⟩ := BagAt.new (o := .lst [v1]) (g4 _ C3) nl1
        refine ⟨_, rfl, b, "abc", rfl, BagAt.bag C4, abcOk, fun v2 d2 H5 hd2 n2 B5 k5 g5 => ⟨by show 1 ≤ sizeLine; decide, fun l2 nl2 ml2 => ?_⟩⟩
        obtain ⟨C5, l2b, l2c⟩ := BagAt.new (o := .lst [v2]) (g5 _ C4) nl2
        have e1 := k5 _ _ l1b upd_same
        have l12 : l1 ≠ l2 := ne_of_none e1 nl2
        refine ⟨_, _, rfl, ?_⟩
        exact kk _ _ ⟨l1, l2, c0, v1, v2, d1, d2, rfl, C5, by rw [upd_ne l12]; exact e1, upd_same, l12, ⟨l1b, l1c⟩, ⟨l2b, l2c⟩, ml1, ml2, (Keep.new nl2).dq (k5.dq ((Keep.new nl1).dq hd1)), (Keep.new nl2).dq hd2, n1.1, n2.1⟩
      rintro σ' H6 ⟨l1, l2, c0, v1, v2, d1, d2, rfl, C6, g1, g2, l12, ⟨l1b, l1c⟩, ⟨l2b, l2c⟩, m1, m2, q1, q2, f1, f2⟩
      obtain ⟨ob, hb6⟩ := Bag.at_b (BagAt.bag C6)
      -- bare
      refine ⟨_, rfl, _, rfl, l1, _, _, v1, rfl, rfl, SqL.of g1, atI_nat (j := 0) rfl, _, rfl, l2, _, _, v2, rfl, rfl, SqL.of g2, atI_nat (j := 0) rfl, k, v1, v2, rfl, hk, fun H7 p a1 a2 s7 np na1 na2 mp ma1 ma2 ep ea1 ea2 => ?_⟩
      have hb7 := s7 _ _ hb6
      have a2b : a2 ≠ b := (ne_of_none hb6 na2).symm
      dsimp only
      refine cutK (fun σ' H' => σ' = [some (.ref a), some (.ref b), some (.int (0 + (i : Int))), some (.int k), some (.ref l1), some (.ref l2), some (.ref p), y7, y8, y9, y10] ∧ Same H7 H') ?_ (fun kk => ?_)
      rotate_left
      · refine ⟨_, rfl, _, rfl, p, _, rfl, SqL.of ep, fun r1 nr1 mr1 => ?_⟩
        have t1 := same_upd (o := .lst [.ref a2]) nr1
        refine ⟨_, rfl, _, rfl, l1, l2, _, _, rfl, rfl, t1 _ _ (s7 _ _ g1), t1 _ _ (s7 _ _ g2), by show 2 ≤ sizeLine; decide, fun c nc mc => ?_⟩
        have t2 := t1.trans (same_upd (o := .lst [v1, v2]) nc)
        refine ⟨_, rfl, Nat.zero_le _, fun e0 ne0 me0 => ?_⟩
        have t3 := t2.trans (same_upd (o := .lst []) ne0)
        refine ⟨by show 3 ≤ sizeLine; decide, fun L3 nL3 mL3 => idx_read (k := k) rfl fun j hj => ?_⟩
        have t4 := t3.trans (same_upd (o := .lst [.ref c, .ref l1, .ref e0]) nL3)
        have hc4 := (same_upd (o := .lst [.ref c, .ref l1, .ref e0]) nL3) _ _ ((same_upd (o := .lst []) ne0) c _ upd_same)
        have he4 := (same_upd (o := .lst [.ref c, .ref l1, .ref e0]) nL3) e0 _ upd_same
        have cb : c ≠ b := (ne_of_none (t1 _ _ hb7) nc).symm
        have e0b : e0 ≠ b := (ne_of_none (t2 _ _ hb7) ne0).symm
        obtain ⟨D, eD, gD, Db, Dm⟩ := pick (Z := fun z => z ≠ b ∧ z ≠ sysModules) (x := v1) (y := v2) hj ⟨cb, mc⟩ ⟨l1b, m1⟩ ⟨e0b, me0⟩ hc4 (t4 _ _ (s7 _ _ g1)) he4
        refine ⟨L3, _, j, _, rfl, rfl, SqL.of upd_same, atI_nat eD, by show 1 ≤ sizeLine; decide, fun r2 nr2 mr2 => ?_⟩
        have t5 := t4.trans (same_upd (o := .lst [.ref D]) nr2)
        have w5 := same_upd (o := .lst [.ref D]) nr2
        have r1b : r1 ≠ b := (ne_of_none hb7 nr1).symm
        have r2b : r2 ≠ b := (ne_of_none (t4 _ _ hb7) nr2).symm
        have er1 := w5 _ _ ((same_upd (o := .lst [.ref c, .ref l1, .ref e0]) nL3) _ _ ((same_upd (o := .lst []) ne0) _ _ ((same_upd (o := .lst [v1, v2]) nc) r1 _ upd_same)))
        have x1 := (Keep.same (p := b) (s7.trans t5)).dq q1
        have x2 := (Keep.same (p := b) (s7.trans t5)).dq q2
        have fp := fld_plain (k := k) q1.plain q2.plain
        refine ⟨b, .ref r1, .ref r2, .list [.list (fldD k d1 d2)], 2, rfl, .lst er1 r1b mr1 (.cons (.lst (t5 _ _ ea2) a2b ma2 (fld_dq x1 x2)) .nil), .lst upd_same r2b mr2 (.cons (.lst (w5 _ _ gD) Db Dm (fld_dq x1 x2)) .nil), fld_shown f1 f2, by decide,
          .inl ⟨r1, r2, _, _, rfl, rfl, SqL.of er1, SqL.of upd_same, .cons (.inr (.inr (.inl ⟨a2, D, _, _, rfl, rfl, SqL.of (t5 _ _ ea2), SqL.of (w5 _ _ gD), same_paired fp⟩))) .nil⟩, _, rfl, iteF ?_⟩
        exact kk _ _ ⟨rfl, t5⟩
      rintro σ' H8 ⟨rfl, s8⟩
      have g18 := s8 _ _ (s7 _ _ g1)
      have g28 := s8 _ _ (s7 _ _ g2)
      refine cutK (fun σ' H' => ∃ lk : Addr, σ' = [some (.ref a), some (.ref b), some (.int (0 + (i : Int))), some (.int k), some (.ref l1), some (.ref l2), some (.ref p), some (.ref lk), y8, y9, y10] ∧ Same H8 H' ∧ H' lk = some (.lst (fldV k (.ref l1) (.ref l2)))) ?_ (fun kk => ?_)
      rotate_left
      · refine ⟨_, rfl, _, rfl, by show 2 ≤ sizeLine; decide, fun x1 n1 w1 => ⟨_, rfl, by show 1 ≤ sizeLine; decide, fun x2 n2 w2 => ⟨Nat.zero_le _, fun x3 n3 w3 => ⟨by show 3 ≤ sizeLine; decide, fun L3 nL mL => idx_read (k := k) rfl fun j hj => ?_⟩⟩⟩⟩
        have u1 := same_upd (o := .lst [.ref l1, .ref l2]) n1
        have u2 := same_upd (o := .lst [.ref l1]) n2
        have u3 := same_upd (o := .lst []) n3
        have u4 := same_upd (o := .lst [.ref x1, .ref x2, .ref x3]) nL
        obtain ⟨D, eD, gD, _⟩ := pick (Z := fun _ => True) (x := .ref l1) (y := .ref l2) hj True.intro True.intro True.intro (u4 _ _ (u3 _ _ (u2 x1 _ upd_same))) (u4 _ _ (u3 x2 _ upd_same)) (u4 x3 _ upd_same)
        exact ⟨L3, _, j, _, rfl, rfl, SqL.of upd_same, atI_nat eD, kk _ _ ⟨D, rfl, ((u1.trans u2).trans u3).trans u4, gD⟩⟩
      rintro σ' H9 ⟨lk, rfl, s9, elk⟩
      have g19 := s9 _ _ g18
      have g29 := s9 _ _ g28
      have hb9 := s9 _ _ (s8 _ _ hb7)
      refine ⟨_, rfl, _, rfl, _, rfl, k, .ref l1, .ref l2, rfl, hk, fun H10 p' b1 b2 s10 np' nb1 nb2 mp' mb1 mb2 ep' eb1 eb2 => ?_⟩
      have hb10 := s10 _ _ hb9
      have b1b : b1 ≠ b := (ne_of_none hb9 nb1).symm
      dsimp only
      refine cutK (fun σ' H' => σ' = [some (.ref a), some (.ref b), some (.int (0 + (i : Int))), some (.int k), some (.ref l1), some (.ref l2), some (.ref p), some (.ref lk), some (.ref p'), y9, y10] ∧ Same H10 H') ?_ (fun kk => ?_)
      rotate_left
      · refine ⟨_, rfl, p', _, rfl, .inl (SqL.of ep'), rfl, _, rfl, iteF ?_⟩
        refine ⟨_, rfl, p', _, _, _, rfl, rfl, SqL.of ep', atI_nat (j := 0) rfl, ?_⟩
        refine ⟨22, rfl, by decide, by decide, fun Dc hDc => ?_⟩
        refine lc_range (lo := 0) (n := (22 : Int).toNat) (fun i H' => Same H10 H' ∧ H' Dc = some (.lst ((List.range i).map (bl k)))) ⟨same_upd hDc, upd_same⟩ ?_ ?_
        · rintro i H' hi' ⟨s', e'⟩
          refine ⟨rfl, _, rfl, _, rfl, rfl, _, e', ?_, fun c o e => ?_, ?_⟩
          · rw [List.length_map, List.length_range]
            have : i < 22 := hi'
            exact small1000 (by omega)
          · rw [upd_ne (ne_of_none e hDc)]
            exact s' c o e
          · rw [upd_same, List.range_succ, List.map_append, bl_eq]
            rfl
        · rintro H11 ⟨s11, e11⟩
          refine ⟨by show 3 ≤ sizeLine; decide, fun x5 n5 w5 => ?_⟩
          have v5 := same_upd (o := .lst [.bl true, .bl true, .bl false]) n5
          refine ⟨Dc, x5, _, _, rfl, rfl, v5 _ _ e11, upd_same, by show 25 ≤ sizeLine; decide, fun r nr mr => ?_⟩
          have v6 := same_upd (o := .lst (blsT k)) nr
          have rb : r ≠ b := (ne_of_none (v5 _ _ (s11 _ _ hb10)) nr).symm
          have t6 := (s11.trans v5).trans v6
          refine ⟨b, .ref b1, .ref r, .list (blsD k), 1, rfl, .lst (t6 _ _ eb1) b1b mb1 (bls_dq k), .lst upd_same rb mr (bls_dq k), bls_shown k hk, by decide,
            .inl ⟨b1, r, blsT k, blsT k, rfl, rfl, SqL.of (t6 _ _ eb1), SqL.of upd_same, same_paired (bls_plain k)⟩, _, rfl, iteF ?_⟩
          exact kk _ _ ⟨rfl, t6⟩
      rintro σ' H11 ⟨rfl, s11⟩
      have g111 := s11 _ _ (s10 _ _ g19)
      have g211 := s11 _ _ (s10 _ _ g29)
      have ep11 := s11 _ _ ep'
      have eb11 := s11 _ _ eb2
      have p'l1 : p' ≠ l1 := (ne_of_none g19 np').symm
      have p'l2 : p' ≠ l2 := (ne_of_none g29 np').symm
      have b2l1 : b2 ≠ l1 := (ne_of_none g19 nb2).symm
      have b2l2 : b2 ≠ l2 := (ne_of_none g29 nb2).symm
      refine ⟨_, rfl, p', _, _, _, rfl, rfl, SqL.of ep11, atI_nat (j := 1) rfl, _, rfl, b2, lk, _, rfl, rfl, SqL.of eb11, SqL.of (s11 _ _ (s10 _ _ elk)), fld_plain (.inr ⟨_, rfl⟩) (.inr ⟨_, rfl⟩), _, rfl, iteF ?_⟩
      refine ⟨_, rfl, .inl ⟨rfl, _, SqL.of g111⟩, l1, _, _, rfl, rfl, g111, by show 1 < sizeLine; decide, ?_⟩
      have g212 : (upd H11 l1 (.lst ([v1] ++ [.str "more"]))) l2 = some (.lst [v2]) := by rw [upd_ne l12.symm]; exact g211
      refine ⟨_, rfl, .inl ⟨rfl, _, SqL.of g212⟩, l2, _, _, rfl, rfl, g212, by show 1 < sizeLine; decide, ?_⟩
      obtain ⟨H12, e12⟩ : ∃ H12, H12 = upd (upd H11 l1 (.lst ([v1] ++ [.str "more"]))) l2 (.lst ([v2] ++ [.str "again"])) := ⟨_, rfl⟩
      have ep12 : H12 p' = some (.lst [.ref b1, .ref b2]) := by rw [e12, upd_ne p'l2, upd_ne p'l1]; exact ep11
      have eb12 : H12 b2 = some (.lst (fldV k (.ref l1) (.ref l2))) := by rw [e12, upd_ne b2l2, upd_ne b2l1]; exact eb11
      have h1 : H12 l1 = some (.lst ([v1] ++ [.str "more"])) := by rw [e12, upd_ne l12, upd_same]
      have h2 : H12 l2 = some (.lst ([v2] ++ [.str "again"])) := by rw [e12, upd_same]
      have C11 : BagAt H11 b c0 := (((((C6.same s7).same s8).same s9).same s10).same s11)
      have C12 : BagAt H12 b c0 := by
        rw [e12]
        exact (C11.put l1b l1c).put l2b l2c
      dsimp only
      rw [← e12]
      refine ⟨_, rfl, p', _, _, _, rfl, rfl, SqL.of ep12, atI_nat (j := 1) rfl, b2, rfl, ⟨_, SqL.of eb12⟩, fun Dn hDn => ?_⟩
      refine lc_list (K := K) (a := b2) (xs := fldV k (.ref l1) (.ref l2)) (fun i H' => Same H12 H' ∧ H' Dn = some (.lst ((fldV k (.str "more") (.str "again")).take i))) ⟨same_upd hDn, upd_same⟩ (fun i H' _ h => SqL.of (h.1 _ _ eb12)) ?_ ?_
      · rintro i x H' hx ⟨s', eD⟩
        have hlen : ((fldV k (.str "more") (.str "again")).take i).length < sizeLine := by
          rw [List.length_take]
          refine Nat.lt_of_le_of_lt (Nat.min_le_right _ _) ?_
          unfold fldV
          split
          · show 1 < sizeLine
            decide
          · split
            · show 2 < sizeLine
              decide
            · show 0 < sizeLine
              decide
        have w' : ∀ o, Same H12 (upd H' Dn o) := fun o c o' e => by
          rw [upd_ne (ne_of_none e hDn)]
          exact s' c o' e
        rcases fld_get (x' := .str "more") (y' := .str "again") hx with ⟨_, rfl, hg⟩ | ⟨_, rfl, hg⟩
        · refine ⟨rfl, _, rfl, 1, rfl, l1, _, -1, _, rfl, rfl, SqL.of (s' _ _ h1), atI_last [v1] _, _, eD, hlen, w' _, ?_⟩
          rw [upd_same, List.take_add_one, hg]
          rfl
        · refine ⟨rfl, _, rfl, 1, rfl, l2, _, -1, _, rfl, rfl, SqL.of (s' _ _ h2), atI_last [v2] _, _, eD, hlen, w' _, ?_⟩
          rw [upd_same, List.take_add_one, hg]
          rfl
      · rintro H13 ⟨s13, e13⟩
        rw [fld_len k _ _ (.str "more") (.str "again"), List.take_length] at e13
        refine ⟨by show 2 ≤ sizeLine; decide, fun x1 n1 w1 => ⟨by show 1 ≤ sizeLine; decide, fun x2 n2 w2 => ⟨Nat.zero_le _, fun x3 n3 w3 => ⟨by show 3 ≤ sizeLine; decide, fun L3 nL mL => idx_read (k := k) rfl fun j hj => ?_⟩⟩⟩⟩
        have u1 := same_upd (o := .lst [.str "more", .str "again"]) n1
        have u2 := same_upd (o := .lst [.str "more"]) n2
        have u3 := same_upd (o := .lst []) n3
        have u4 := same_upd (o := .lst [.ref x1, .ref x2, .ref x3]) nL
        have uu := ((u1.trans u2).trans u3).trans u4
        obtain ⟨D, eD, gD, _⟩ := pick (Z := fun _ => True) (x := .str "more") (y := .str "again") hj True.intro True.intro True.intro (u4 _ _ (u3 _ _ (u2 x1 _ upd_same))) (u4 _ _ (u3 x2 _ upd_same)) (u4 x3 _ upd_same)
        refine ⟨L3, _, j, _, rfl, rfl, SqL.of upd_same, atI_nat eD, Dn, D, _, rfl, rfl, SqL.of (uu _ _ e13), SqL.of gD, fld_plain (.inl rfl) (.inl rfl), _, rfl, iteF ?_⟩
        exact ⟨_, _, _, _, _, _, _, _, _, rfl, BagAt.bag (C12.same (s13.trans uu))⟩
    · rintro σ H3 ⟨y2, y3, y4, y5, y6, y7, y8, y9, y10, rfl, B3⟩
      exact q H3
end
end Fv


set_option Elab.async false
set_option linter.all false
set_option maxRecDepth 100000
set_option maxHeartbeats 2000000
namespace Fv
open PySem PySem.Spec PyProof.Rows L2
/-- what the written part says of an own class, but for its fields -/
structure ClsF (K : PySem.W.Frag) (AE C : Addr) : Prop where
  tC : PySem.W.typeIn K (.ref C) = some (.type "type")
  kC : PySem.W.keepIn K (.ref C) = true
  m : ∃ cd, PySem.W.clsIn K C = some cd ∧ cd.mro = [.ref C, .ref AE, .type "ValueError", .type "Exception", .type "BaseException", .type "object"] ∧ cd.hasDict = true
  hg : PySem.W.findIn K (.ref C) "__getattribute__" = some (some (.builtin "BaseException.__getattribute__"))
  hk : PySem.W.findIn K (.ref C) "__getattr__" = some none
  ha : PySem.W.findIn K (.ref C) "__class__" = some (some (.builtin "object.__class__"))
  n1 : PySem.W.findIn K (.ref C) "place" = some none
  n2 : PySem.W.findIn K (.ref C) "name" = some none
  n3 : PySem.W.findIn K (.ref C) "index" = some none
  n4 : PySem.W.findIn K (.ref C) "row" = some none
  n5 : PySem.W.findIn K (.ref C) "most" = some none
  n6 : PySem.W.findIn K (.ref C) "many" = some none
  n7 : PySem.W.findIn K (.ref C) "deed" = some none
theorem ClsF.sub {K : PySem.W.Frag} {AE C : Addr} (h : ClsF K AE C) (b : Value) : PySem.W.subIn K (.ref C) b = some (([.ref C, .ref AE, .type "ValueError", .type "Exception", .type "BaseException", .type "object"] : List Value).contains b) := by
  obtain ⟨cd, e, em, _⟩ := h.m
  show (PySem.W.clsIn K C).bind _ = _
  rw [e, Option.bind_some, em]
  rfl
theorem ClsF.dict {K : PySem.W.Frag} {AE C : Addr} (h : ClsF K AE C) : PySem.W.hasDictIn K C = true := by
  obtain ⟨cd, e, _, ed⟩ := h.m
  unfold PySem.W.hasDictIn
  rw [e]
  exact ed
theorem ClsF.exc {K : PySem.W.Frag} {AE C : Addr} (h : ClsF K AE C) (hn : PySem.W.specialIn K (.builtin "object.__class__") "__get__" = some (some (.builtin "getset_descriptor.__get__"))) (ht : PySem.W.takesIn K (.builtin "object.__class__") = some true) : ExcC K C :=
  { hg := h.hg, hk := h.hk, ha := h.ha, hn := hn, ht := ht, hd := h.dict
    hs := by
      rw [h.sub]
      congr 1
    hm := by
      refine (h.sub (.type "object")).trans ?_
      congr 1 }
theorem ClsF.kit_ref {K : PySem.W.Frag} {AE C D : Addr} (h : ClsF K AE C) (hi : (PySem.W.clsIn K D).isSome = true) (ht : PySem.W.typeIn K (.ref D) = some (.type "type")) (b : Bool)
    (hb : b = (decide (D = C) || decide (D = AE))) : PySem.W.kitOne K (.ref C) (.ref D) = some b := by
  unfold PySem.W.kitOne
  by_cases e : D = C
  · subst e
    rw [if_pos (by rw [beq_self_eq_true])]
    rw [hb, decide_eq_true rfl]
    rfl
  · have n : ((Value.ref C : Value) == .ref D) = false := by
      rw [beq_eq_false_iff_ne]
      intro z
      cases z
      exact e rfl
    rw [n, if_neg (by decide)]
    unfold PySem.W.kitCls
    dsimp only
    have e2 : ((PySem.W.clsIn K D).isSome && PySem.W.typeIn K (.ref D) == some (.type "type")) = true := by rw [hi, ht] <;> rfl
    rw [if_pos e2, h.sub, hb]
    congr 1
    rw [decide_eq_false e, Bool.false_or]
    by_cases e3 : D = AE
    · subst e3
      simp [List.contains_cons]
    · rw [decide_eq_false e3]
      have n1 : ((Value.ref D : Value) == .ref C) = false := by
        rw [beq_eq_false_iff_ne]
        intro z
        cases z
        exact e rfl
      have n2 : ((Value.ref D : Value) == .ref AE) = false := by
        rw [beq_eq_false_iff_ne]
        intro z
        cases z
        exact e3 rfl
      have n3 : ∀ T : String, ((Value.ref D : Value) == .type T) = false := fun T => by
        rw [beq_eq_false_iff_ne]
        intro z
        cases z
      simp only [List.contains_cons, n1, n2, n3, Bool.false_or, List.contains_nil]
theorem ClsF.kit_ty {K : PySem.W.Frag} {AE C : Addr} (h : ClsF K AE C) {T : String} (hm : PySem.W.kitMeta T = true) (b : Bool) (hb : b = ([.type "ValueError", .type "Exception", .type "BaseException", .type "object"] : List Value).contains (.type T)) : PySem.W.kitOne K (.ref C) (.type T) = some b := by
  unfold PySem.W.kitOne
  have n : ∀ D : Addr, ((Value.ref D : Value) == .type T) = false := fun D => by
    rw [beq_eq_false_iff_ne]
    intro z
    cases z
  rw [n, if_neg (by decide)]
  unfold PySem.W.kitCls
  dsimp only
  rw [if_pos hm, h.sub, hb]
  congr 1
theorem getD_mem {l : List Addr} {k : Nat} (h : k < l.length) : l.getD k 0 ∈ l := by
  rw [List.getD_eq_getElem?_getD, List.getElem?_eq_getElem h]
  exact List.getElem_mem h
/-- what the written part says of ApartError -/
structure BaseF (K : PySem.W.Frag) (AE : Addr) : Prop where
  tC : PySem.W.typeIn K (.ref AE) = some (.type "type")
  hd : PySem.W.hasDictIn K AE = true
  hs : PySem.W.subIn K (.ref AE) (.type "BaseException") = some true
  hi : PySem.W.isClsIn K AE = true
theorem caught_mk {K : PySem.W.Frag} {mg : Str → Option Value} {AE : Addr} {l : List Addr} (hl : l.length = 22) (nd : (AE :: l).Nodup) (F : ∀ C ∈ l, ClsF K AE C) (B : BaseF K AE)
    (hn : PySem.W.specialIn K (.builtin "object.__class__") "__get__" = some (some (.builtin "getset_descriptor.__get__"))) (ht : PySem.W.takesIn K (.builtin "object.__class__") = some true)
    (gA : mg "ApartError" = some (.ref AE)) (gV : mg "ValueError" = none) (gL : mg "LookupError" = none) : Caught K mg (fun k => l.getD k 0) AE := by
  have at_ : ∀ k, k < 22 → l.getD k 0 ∈ l := fun k hk => getD_mem (by omega)
  have nA : ∀ k, k < 22 → AE ≠ l.getD k 0 := fun k hk z => (List.nodup_cons.mp nd).1 (z ▸ at_ k hk)
  have inj : ∀ k, k < 22 → ∀ j, j < 22 → (l.getD j 0 = l.getD k 0 ↔ j = k) := fun k hk j hj => by
    rw [List.getD_eq_getElem?_getD, List.getD_eq_getElem?_getD, List.getElem?_eq_getElem (by omega : j < l.length), List.getElem?_eq_getElem (by omega : k < l.length)]
    have P := List.pairwise_iff_getElem.mp (List.nodup_cons.mp nd).2
    refine ⟨fun e => ?_, fun e => by subst e; rfl⟩
    rcases Nat.lt_trichotomy j k with g | g | g
    · exact absurd e (P j k (by omega) (by omega) g)
    · exact g
    · exact absurd e.symm (P k j (by omega) (by omega) g)
  exact
  { ec := fun k hk => (F _ (at_ k hk)).exc hn ht
    kt := fun k hk j hj => by
      have G := F _ (at_ j hj)
      obtain ⟨cd, e, _⟩ := G.m
      refine (F _ (at_ k hk)).kit_ref (by rw [e]; rfl) G.tC _ ?_
      rw [decide_eq_false (nA j hj).symm, Bool.or_false]
      exact (decide_eq_decide.mpr (inj k hk j hj)).symm
    ka := fun k hk => by
      refine (F _ (at_ k hk)).kit_ref B.hi B.tC _ ?_
      rw [decide_eq_true (rfl : AE = AE), Bool.or_true]
    kv := fun k hk => (F _ (at_ k hk)).kit_ty (by decide +kernel) _ (by decide +kernel)
    kl := fun k hk => (F _ (at_ k hk)).kit_ty (by decide +kernel) _ (by decide +kernel)
    no := fun k hk f hf => by
      have G := F _ (at_ k hk)
      simp only [fnames, List.mem_cons, List.not_mem_nil, or_false] at hf
      rcases hf with rfl | rfl | rfl | rfl | rfl | rfl | rfl
      · exact G.n1
      · exact G.n2
      · exact G.n3
      · exact G.n4
      · exact G.n5
      · exact G.n6
      · exact G.n7
    em := fun k hk => by
      refine PySem.W.exm_ref B.hs B.hd B.tC ?_
      rw [(F _ (at_ k hk)).sub]
      congr 1
      simp [List.contains_cons]
    gA := gA
    gV := gV
    gL := gL }
end Fv


set_option Elab.async false
set_option linter.all false
set_option maxRecDepth 100000
set_option maxHeartbeats 4000000
namespace Fv
open PySem PySem.Spec PyProof.Rows L2
/-- what the written part says of the __init__ of an own class -/
structure IniF (K : PySem.W.Frag) (C f : Addr) (qual : Str) (st : Stmt) : Prop where
  cls : ∃ nm q N bs bm sn sub ab col dd k0 k1 k2 k3 k5, K.lookup C = some (excClassObj nm q C N bs bm true sn sub ab col dd k0 k1 k2 k3 k5 "ValueError.__new__") ∧ PySem.HandSPX.refsVE bm = true
  sa : PySem.W.findIn K (.ref C) "__setattr__" = some (some (.builtin "object.__setattr__"))
  fi : PySem.W.findIn K (.ref C) "__init__" = some (some (.ref f))
  tI : PySem.W.typeIn K (.ref f) = some (.type "function")
  fn : ∃ fd, Fun K "__init__" qual st f fd
theorem oex_of {K : PySem.W.Frag} {AE C f : Addr} {qual : Str} {st : Stmt} (h : ClsF K AE C) (i : IniF K C f qual st) : OexC K C :=
  { cls := i.cls, sa := i.sa, tyC := h.tC, kC := h.kC
    exC := by
      rw [h.sub]
      congr 1 }
theorem own0_of {K : PySem.W.Frag} {AE C : Addr} {mg : Str → Option Value} {x : Str} (h : ClsF K AE C) (e : PySem.W.excIn K C [.type "ValueError", .type "Exception", .type "BaseException", .type "object"] "ValueError.__new__" = true) (g : mg x = some (.ref C)) : Own0 K mg x C :=
  { ex := e, gC := g, kC := h.kC, tC := h.tC
    bC := by
      rw [h.sub]
      congr 1 }
theorem all_mk {l : PySem.W.OpenLaw} {w : World} {K : PySem.W.Frag} {h : Heap} {mg : Str → Option Value} {fa AE : Addr} (X : K.In h) (G : h.Ns mainGlobals mg) (hfa : mg "law" = some (.ref fa))
    {C0 C1 C2 C3 C4 C5 C6 C7 C8 C9 C10 C11 C12 C13 C14 C15 C16 C17 C18 C19 C20 C21 i0 i1 i2 i3 i4 i5 i6 i7 i8 i9 i10 i11 i12 i13 f0 f1 f2 f3 f4 f5 f6 f7 f8 f9 : Addr}
    {od0 an0 od1 an1 od2 an2 od3 an3 od4 an4 od5 an5 od6 an6 od7 an7 od8 an8 od9 an9 : Option Addr} {sl0 sl1 sl2 sl3 sl4 sl5 sl6 sl7 sl8 sl9 : Array (Option Value)} {oc0 kV0 dc0 pm0 cd0 ct0 oc1 kV1 dc1 pm1 cd1 ct1 oc2 kV2 dc2 pm2 cd2 ct2 oc3 kV3 dc3 pm3 cd3 ct3 oc4 kV4 dc4 pm4 cd4 ct4 oc5 kV5 dc5 pm5 cd5 ct5 oc6 kV6 dc6 pm6 cd6 ct6 oc7 kV7 dc7 pm7 cd7 ct7 oc8 kV8 dc8 pm8 cd8 ct8 oc9 kV9 dc9 pm9 cd9 ct9 : Value}
    (aA : PySem.W.nsIn K mainGlobals "ApartError" = some (some (.ref AE)))
    (e0 : PySem.W.nsIn K mainGlobals "Wrong" = some (some (.ref C0)))
    (e1 : PySem.W.nsIn K mainGlobals "NoName" = some (some (.ref C1)))
    (e2 : PySem.W.nsIn K mainGlobals "BadKind" = some (some (.ref C2)))
    (e3 : PySem.W.nsIn K mainGlobals "NoPlace" = some (some (.ref C3)))
    (e4 : PySem.W.nsIn K mainGlobals "NoWay" = some (some (.ref C4)))
    (e5 : PySem.W.nsIn K mainGlobals "NoProc" = some (some (.ref C5)))
    (e6 : PySem.W.nsIn K mainGlobals "NotFar" = some (some (.ref C6)))
    (e7 : PySem.W.nsIn K mainGlobals "BadRow" = some (some (.ref C7)))
    (e8 : PySem.W.nsIn K mainGlobals "NotSo" = some (some (.ref C8)))
    (e9 : PySem.W.nsIn K mainGlobals "TooMany" = some (some (.ref C9)))
    (e10 : PySem.W.nsIn K mainGlobals "NoEntry" = some (some (.ref C10)))
    (e11 : PySem.W.nsIn K mainGlobals "Full" = some (some (.ref C11)))
    (e12 : PySem.W.nsIn K mainGlobals "Refused" = some (some (.ref C12)))
    (e13 : PySem.W.nsIn K mainGlobals "BadCall" = some (some (.ref C13)))
    (e14 : PySem.W.nsIn K mainGlobals "NoStart" = some (some (.ref C14)))
    (e15 : PySem.W.nsIn K mainGlobals "Unlike" = some (some (.ref C15)))
    (e16 : PySem.W.nsIn K mainGlobals "Never" = some (some (.ref C16)))
    (e17 : PySem.W.nsIn K mainGlobals "Endless" = some (some (.ref C17)))
    (e18 : PySem.W.nsIn K mainGlobals "NoDeed" = some (some (.ref C18)))
    (e19 : PySem.W.nsIn K mainGlobals "Nothing" = some (some (.ref C19)))
    (e20 : PySem.W.nsIn K mainGlobals "NoText" = some (some (.ref C20)))
    (e21 : PySem.W.nsIn K mainGlobals "NoCommand" = some (some (.ref C21)))
    (bA : BaseF K AE)
    (q0 : ClsF K AE C0)
    (q1 : ClsF K AE C1)
    (q2 : ClsF K AE C2)
    (q3 : ClsF K AE C3)
    (q4 : ClsF K AE C4)
    (q5 : ClsF K AE C5)
    (q6 : ClsF K AE C6)
    (q7 : ClsF K AE C7)
    (q8 : ClsF K AE C8)
    (q9 : ClsF K AE C9)
    (q10 : ClsF K AE C10)
    (q11 : ClsF K AE C11)
    (q12 : ClsF K AE C12)
    (q13 : ClsF K AE C13)
    (q14 : ClsF K AE C14)
    (q15 : ClsF K AE C15)
    (q16 : ClsF K AE C16)
    (q17 : ClsF K AE C17)
    (q18 : ClsF K AE C18)
    (q19 : ClsF K AE C19)
    (q20 : ClsF K AE C20)
    (q21 : ClsF K AE C21)
    (nd : (AE :: [C0, C1, C2, C3, C4, C5, C6, C7, C8, C9, C10, C11, C12, C13, C14, C15, C16, C17, C18, C19, C20, C21]).Nodup)
    (hn : PySem.W.specialIn K (.builtin "object.__class__") "__get__" = some (some (.builtin "getset_descriptor.__get__")))
    (ht : PySem.W.takesIn K (.builtin "object.__class__") = some true)
    (j0 : IniF K C0 i0 "Wrong.__init__" (inClass (top 2) 0))
    (j1 : IniF K C1 i1 "NoName.__init__" (inClass (top 3) 0))
    (j2 : IniF K C2 i2 "BadKind.__init__" (inClass (top 4) 0))
    (j3 : IniF K C3 i3 "NoPlace.__init__" (inClass (top 5) 0))
    (j4 : IniF K C4 i4 "NoWay.__init__" (inClass (top 6) 0))
    (j5 : IniF K C5 i5 "NoProc.__init__" (inClass (top 7) 0))
    (j6 : IniF K C6 i6 "NotFar.__init__" (inClass (top 11) 0))
    (j7 : IniF K C7 i7 "BadRow.__init__" (inClass (top 12) 0))
    (j8 : IniF K C8 i8 "NotSo.__init__" (inClass (top 13) 0))
    (j9 : IniF K C9 i9 "TooMany.__init__" (inClass (top 14) 0))
    (j10 : IniF K C10 i10 "NoEntry.__init__" (inClass (top 17) 0))
    (j11 : IniF K C11 i11 "Full.__init__" (inClass (top 19) 0))
    (j12 : IniF K C12 i12 "Refused.__init__" (inClass (top 20) 0))
    (j13 : IniF K C13 i13 "BadCall.__init__" (inClass (top 8) 0))
    (x14 : PySem.W.excIn K C14 [.type "ValueError", .type "Exception", .type "BaseException", .type "object"] "ValueError.__new__" = true)
    (x15 : PySem.W.excIn K C15 [.type "ValueError", .type "Exception", .type "BaseException", .type "object"] "ValueError.__new__" = true)
    (x16 : PySem.W.excIn K C16 [.type "ValueError", .type "Exception", .type "BaseException", .type "object"] "ValueError.__new__" = true)
    (x17 : PySem.W.excIn K C17 [.type "ValueError", .type "Exception", .type "BaseException", .type "object"] "ValueError.__new__" = true)
    (x18 : PySem.W.excIn K C18 [.type "ValueError", .type "Exception", .type "BaseException", .type "object"] "ValueError.__new__" = true)
    (x19 : PySem.W.excIn K C19 [.type "ValueError", .type "Exception", .type "BaseException", .type "object"] "ValueError.__new__" = true)
    (x20 : PySem.W.excIn K C20 [.type "ValueError", .type "Exception", .type "BaseException", .type "object"] "ValueError.__new__" = true)
    (x21 : PySem.W.excIn K C21 [.type "ValueError", .type "Exception", .type "BaseException", .type "object"] "ValueError.__new__" = true)
    (a0 : PySem.W.nsIn K mainGlobals "_law_bag" = some (some (.ref f0)))
    (l0 : K.lookup f0 = some ⟨oc0, od0, .func (PySem.W.fnOf "_law_bag" "_law_bag" (defArgs sBag) (defBody sBag) (defScope sBag) .none kV0 dc0 pm0 an0 cd0 ct0), sl0⟩)
    (c0 : PySem.W.codeIn K cd0 "_law_bag" = true)
    (k0 : PySem.W.keepIn K (.ref f0) = true)
    (a1 : PySem.W.nsIn K mainGlobals "_law_take" = some (some (.ref f1)))
    (l1 : K.lookup f1 = some ⟨oc1, od1, .func (PySem.W.fnOf "_law_take" "_law_take" (defArgs sTake) (defBody sTake) (defScope sTake) .none kV1 dc1 pm1 an1 cd1 ct1), sl1⟩)
    (c1 : PySem.W.codeIn K cd1 "_law_take" = true)
    (k1 : PySem.W.keepIn K (.ref f1) = true)
    (a2 : PySem.W.nsIn K mainGlobals "_law_alike" = some (some (.ref f2)))
    (l2 : K.lookup f2 = some ⟨oc2, od2, .func (PySem.W.fnOf "_law_alike" "_law_alike" (defArgs sAlike) (defBody sAlike) (defScope sAlike) .none kV2 dc2 pm2 an2 cd2 ct2), sl2⟩)
    (c2 : PySem.W.codeIn K cd2 "_law_alike" = true)
    (k2 : PySem.W.keepIn K (.ref f2) = true)
    (a3 : PySem.W.nsIn K mainGlobals "_law_odd" = some (some (.ref f3)))
    (l3 : K.lookup f3 = some ⟨oc3, od3, .func (PySem.W.fnOf "_law_odd" "_law_odd" (defArgs sOdd) (defBody sOdd) (defScope sOdd) .none kV3 dc3 pm3 an3 cd3 ct3), sl3⟩)
    (c3 : PySem.W.codeIn K cd3 "_law_odd" = true)
    (k3 : PySem.W.keepIn K (.ref f3) = true)
    (a4 : PySem.W.nsIn K mainGlobals "_law_raise_one" = some (some (.ref f4)))
    (l4 : K.lookup f4 = some ⟨oc4, od4, .func (PySem.W.fnOf "_law_raise_one" "_law_raise_one" (defArgs sOne) (defBody sOne) (defScope sOne) .none kV4 dc4 pm4 an4 cd4 ct4), sl4⟩)
    (c4 : PySem.W.codeIn K cd4 "_law_raise_one" = true)
    (k4 : PySem.W.keepIn K (.ref f4) = true)
    (a5 : PySem.W.nsIn K mainGlobals "_law_raise_none" = some (some (.ref f5)))
    (l5 : K.lookup f5 = some ⟨oc5, od5, .func (PySem.W.fnOf "_law_raise_none" "_law_raise_none" (defArgs sNone) (defBody sNone) (defScope sNone) .none kV5 dc5 pm5 an5 cd5 ct5), sl5⟩)
    (c5 : PySem.W.codeIn K cd5 "_law_raise_none" = true)
    (k5 : PySem.W.keepIn K (.ref f5) = true)
    (a6 : PySem.W.nsIn K mainGlobals "_law_classes" = some (some (.ref f6)))
    (l6 : K.lookup f6 = some ⟨oc6, od6, .func (PySem.W.fnOf "_law_classes" "_law_classes" (defArgs sCls) (defBody sCls) (defScope sCls) .none kV6 dc6 pm6 an6 cd6 ct6), sl6⟩)
    (c6 : PySem.W.codeIn K cd6 "_law_classes" = true)
    (k6 : PySem.W.keepIn K (.ref f6) = true)
    (a7 : PySem.W.nsIn K mainGlobals "_law_fields" = some (some (.ref f7)))
    (l7 : K.lookup f7 = some ⟨oc7, od7, .func (PySem.W.fnOf "_law_fields" "_law_fields" (defArgs sFld) (defBody sFld) (defScope sFld) .none kV7 dc7 pm7 an7 cd7 ct7), sl7⟩)
    (c7 : PySem.W.codeIn K cd7 "_law_fields" = true)
    (k7 : PySem.W.keepIn K (.ref f7) = true)
    (a8 : PySem.W.nsIn K mainGlobals "_law_taken" = some (some (.ref f8)))
    (l8 : K.lookup f8 = some ⟨oc8, od8, .func (PySem.W.fnOf "_law_taken" "_law_taken" (defArgs sTaken) (defBody sTaken) (defScope sTaken) .none kV8 dc8 pm8 an8 cd8 ct8), sl8⟩)
    (c8 : PySem.W.codeIn K cd8 "_law_taken" = true)
    (k8 : PySem.W.keepIn K (.ref f8) = true)
    (a9 : PySem.W.nsIn K mainGlobals "law" = some (some (.ref f9)))
    (l9 : K.lookup f9 = some ⟨oc9, od9, .func (PySem.W.fnOf "law" "law" (defArgs sLaw) (defBody sLaw) (defScope sLaw) .none kV9 dc9 pm9 an9 cd9 ct9), sl9⟩)
    (c9 : PySem.W.codeIn K cd9 "law" = true)
    (k9 : PySem.W.keepIn K (.ref f9) = true)
    (z0 : PySem.W.nsIn K mainGlobals "abs" = some none)
    (z1 : PySem.W.nsIn K mainGlobals "int" = some none)
    (z2 : PySem.W.nsIn K mainGlobals "len" = some none)
    (z3 : PySem.W.nsIn K mainGlobals "isinstance" = some none)
    (z4 : PySem.W.nsIn K mainGlobals "range" = some none)
    (z5 : PySem.W.nsIn K mainGlobals "repr" = some none)
    (z6 : PySem.W.nsIn K mainGlobals "ValueError" = some none)
    (z7 : PySem.W.nsIn K mainGlobals "LookupError" = some none) :
    ∃ fd : FuncData, (∀ (s : Shared) (v : Value), BindsTo s fd ⟨[v], []⟩ [("_law_script", v)]) ∧ ∀ base : Heap, K.In base → base.Ns mainGlobals mg → FnG l.prog w K mg base 5 fa fd ["_law_script"] (spLaw K) := by
  have e := hfa.symm.trans (PySem.W.mg_of X G a9)
  cases e
  have F0 := fun_mk (st := sBag) l0 c0 k0
  have b0 := F0.binds (ps := ["_law_script"]) fun _ _ _ _ _ _ us hl => match us, hl with | [_], _ => rfl
  have F1 := fun_mk (st := sTake) l1 c1 k1
  have b1 := F1.binds (ps := ["_law_bag_here", "_law_many"]) fun _ _ _ _ _ _ us hl => match us, hl with | [_, _], _ => rfl
  have F2 := fun_mk (st := sAlike) l2 c2 k2
  have b2 := bindG_of F2 (ps := ["_law_found", "_law_due"]) fun _ _ _ _ _ _ us hl => match us, hl with | [_, _], _ => rfl
  have F3 := fun_mk (st := sOdd) l3 c3 k3
  have b3 := F3.binds (ps := ["_law_bag_here", "_law_name"]) fun _ _ _ _ _ _ us hl => match us, hl with | [_, _], _ => rfl
  have F4 := fun_mk (st := sOne) l4 c4 k4
  have b4 := F4.binds (ps := ["_law_k", "_law_one", "_law_two"]) fun _ _ _ _ _ _ us hl => match us, hl with | [_, _, _], _ => rfl
  have F5 := fun_mk (st := sNone) l5 c5 k5
  have b5 := F5.binds (ps := ["_law_k"]) fun _ _ _ _ _ _ us hl => match us, hl with | [_], _ => rfl
  have F6 := fun_mk (st := sCls) l6 c6 k6
  have b6 := bindG_of F6 (ps := ["_law_e"]) fun _ _ _ _ _ _ us hl => match us, hl with | [_], _ => rfl
  have F7 := fun_mk (st := sFld) l7 c7 k7
  have b7 := bindG_of F7 (ps := ["_law_k", "_law_e"]) fun _ _ _ _ _ _ us hl => match us, hl with | [_, _], _ => rfl
  have F8 := fun_mk (st := sTaken) l8 c8 k8
  have b8 := F8.binds (ps := ["_law_k", "_law_one", "_law_two"]) fun _ _ _ _ _ _ us hl => match us, hl with | [_, _, _], _ => rfl
  have F9 := fun_mk (st := sLaw) l9 c9 k9
  have T := caught_mk (mg := mg) (l := [C0, C1, C2, C3, C4, C5, C6, C7, C8, C9, C10, C11, C12, C13, C14, C15, C16, C17, C18, C19, C20, C21]) rfl nd (by
    intro C hC
    simp only [List.mem_cons, List.not_mem_nil, or_false] at hC
    rcases hC with rfl | rfl | rfl | rfl | rfl | rfl | rfl | rfl | rfl | rfl | rfl | rfl | rfl | rfl | rfl | rfl | rfl | rfl | rfl | rfl | rfl | rfl
    · exact q0
    · exact q1
    · exact q2
    · exact q3
    · exact q4
    · exact q5
    · exact q6
    · exact q7
    · exact q8
    · exact q9
    · exact q10
    · exact q11
    · exact q12
    · exact q13
    · exact q14
    · exact q15
    · exact q16
    · exact q17
    · exact q18
    · exact q19
    · exact q20
    · exact q21) bA hn ht (PySem.W.mg_of X G aA) (PySem.W.mg_none_of X G z6) (PySem.W.mg_none_of X G z7)
  refine ⟨PySem.W.fnOf "law" "law" (defArgs sLaw) (defBody sLaw) (defScope sLaw) .none kV9 dc9 pm9 an9 cd9 ct9, fun s v => .of_eq rfl, fun base _ _ => ?_⟩
  obtain ⟨fd0, m0⟩ := j0.fn
  obtain ⟨fd1, m1⟩ := j1.fn
  obtain ⟨fd2, m2⟩ := j2.fn
  obtain ⟨fd3, m3⟩ := j3.fn
  obtain ⟨fd4, m4⟩ := j4.fn
  obtain ⟨fd5, m5⟩ := j5.fn
  obtain ⟨fd6, m6⟩ := j6.fn
  obtain ⟨fd7, m7⟩ := j7.fn
  obtain ⟨fd8, m8⟩ := j8.fn
  obtain ⟨fd9, m9⟩ := j9.fn
  obtain ⟨fd10, m10⟩ := j10.fn
  obtain ⟨fd11, m11⟩ := j11.fn
  obtain ⟨fd12, m12⟩ := j12.fn
  obtain ⟨fd13, m13⟩ := j13.fn
  have O : Errs l.prog w K mg base (fun k => ([C0, C1, C2, C3, C4, C5, C6, C7, C8, C9, C10, C11, C12, C13, C14, C15, C16, C17, C18, C19, C20, C21] : List Addr).getD k 0) :=
    { o0 := own_0 m0 (oex_of q0 j0) q0.n1 (PySem.W.mg_of X G e0) j0.fi j0.tI
      o1 := own_1 m1 (oex_of q1 j1) q1.n2 (PySem.W.mg_of X G e1) j1.fi j1.tI
      o2 := own_2 m2 (oex_of q2 j2) q2.n2 (PySem.W.mg_of X G e2) j2.fi j2.tI
      o3 := own_3 m3 (oex_of q3 j3) q3.n1 (PySem.W.mg_of X G e3) j3.fi j3.tI
      o4 := own_4 m4 (oex_of q4 j4) q4.n3 (PySem.W.mg_of X G e4) j4.fi j4.tI
      o5 := own_5 m5 (oex_of q5 j5) q5.n2 (PySem.W.mg_of X G e5) j5.fi j5.tI
      o6 := own_6 m6 (oex_of q6 j6) q6.n2 (PySem.W.mg_of X G e6) j6.fi j6.tI
      o7 := own_7 m7 (oex_of q7 j7) q7.n4 (PySem.W.mg_of X G e7) j7.fi j7.tI
      o8 := own_8 m8 (oex_of q8 j8) q8.n4 (PySem.W.mg_of X G e8) j8.fi j8.tI
      o9 := own_9 m9 (oex_of q9 j9) q9.n5 (PySem.W.mg_of X G e9) j9.fi j9.tI
      o10 := own_10 m10 (oex_of q10 j10) q10.n6 (PySem.W.mg_of X G e10) j10.fi j10.tI
      o11 := own_11 m11 (oex_of q11 j11) q11.n5 (PySem.W.mg_of X G e11) j11.fi j11.tI
      o12 := own_12 m12 (oex_of q12 j12) q12.n7 (PySem.W.mg_of X G e12) j12.fi j12.tI
      o13 := own_13 m13 (oex_of q13 j13) q13.n2 q13.n3 (PySem.W.mg_of X G e13) j13.fi j13.tI
      o14 := own0_of q14 x14 (PySem.W.mg_of X G e14)
      o15 := own0_of q15 x15 (PySem.W.mg_of X G e15)
      o16 := own0_of q16 x16 (PySem.W.mg_of X G e16)
      o17 := own0_of q17 x17 (PySem.W.mg_of X G e17)
      o18 := own0_of q18 x18 (PySem.W.mg_of X G e18)
      o19 := own0_of q19 x19 (PySem.W.mg_of X G e19)
      o20 := own0_of q20 x20 (PySem.W.mg_of X G e20)
      o21 := own0_of q21 x21 (PySem.W.mg_of X G e21) }
  have G0 := ok_bag (P := l.prog) (w := w) (base := base) F0 (PySem.W.mg_none_of X G z0)
  have G1 := ok_take (P := l.prog) (w := w) (base := base) F1 (PySem.W.mg_none_of X G z1) (PySem.W.mg_none_of X G z2)
  have G2 := ok_alike (P := l.prog) (w := w) (base := base) F2 (PySem.W.mg_none_of X G z5)
  have G3 := ok_odd (P := l.prog) (w := w) (base := base) F3 G1 b1 (PySem.W.mg_of X G a1) k1 (PySem.W.mg_none_of X G z1) (PySem.W.mg_none_of X G z2)
  have G4 := ok_one F4 O
  have G5 := ok_none F5 O
  have G6 := ok_cls F6 O T (PySem.W.mg_none_of X G z3)
  have G7 := ok_fld (P := l.prog) (w := w) (base := base) F7 T
  have G8 := ok_taken F8 T G4 b4 (PySem.W.mg_of X G a4) k4 G5 b5 (PySem.W.mg_of X G a5) k5 G6 b6 (PySem.W.mg_of X G a6) k6 G7 b7 (PySem.W.mg_of X G a7) k7
  exact ok_law F9 G0 b0 (PySem.W.mg_of X G a0) k0 G1 b1 (PySem.W.mg_of X G a1) k1 G3 b3 (PySem.W.mg_of X G a3) k3 G8 b8 (PySem.W.mg_of X G a8) k8 G2 b2 (PySem.W.mg_of X G a2) k2 (PySem.W.mg_none_of X G z4) (PySem.W.mg_none_of X G z2)
end Fv


set_option Elab.async false
open PySem PySem.W PyProof.Rows
set_option maxRecDepth 100000 in
set_option maxHeartbeats 0 in
theorem PySem.Challenge.cw_farapart_k12_errors_kept_holds : PySem.Challenge.rw_farapart_k12_errors_kept.Holds := by
  w_on; o_law; k_head; (case hw => w_witness2)
  k_fill
  refine Fv.walk_G (l := PySem.Challenge.rw_farapart_k12_errors_kept) (n := 63) (k := 5) (x := "_law_script") (sp := Fv.spLaw) rfl (by decide) rfl ⟨rfl, by decide, by decide⟩ (fun w h Y => PySem.W.kIn_of Y) ?F (fun K H a ns hl _ hS => ⟨a, ns, rfl, hS, hl, fun _ => rfl⟩)
  case F =>
    intro w mg fa h KX G hmg
    refine' Fv.all_mk KX G hmg ?aA ?e0 ?e1 ?e2 ?e3 ?e4 ?e5 ?e6 ?e7 ?e8 ?e9 ?e10 ?e11 ?e12 ?e13 ?e14 ?e15 ?e16 ?e17 ?e18 ?e19 ?e20 ?e21 ?bA ?q0 ?q1 ?q2 ?q3 ?q4 ?q5 ?q6 ?q7 ?q8 ?q9 ?q10 ?q11 ?q12 ?q13 ?q14 ?q15 ?q16 ?q17 ?q18 ?q19 ?q20 ?q21 ?nd ?hn ?ht ?j0 ?j1 ?j2 ?j3 ?j4 ?j5 ?j6 ?j7 ?j8 ?j9 ?j10 ?j11 ?j12 ?j13 ?x14 ?x15 ?x16 ?x17 ?x18 ?x19 ?x20 ?x21 ?a0 ?l0 ?c0 ?k0 ?a1 ?l1 ?c1 ?k1 ?a2 ?l2 ?c2 ?k2 ?a3 ?l3 ?c3 ?k3 ?a4 ?l4 ?c4 ?k4 ?a5 ?l5 ?c5 ?k5 ?a6 ?l6 ?c6 ?k6 ?a7 ?l7 ?c7 ?k7 ?a8 ?l8 ?c8 ?k8 ?a9 ?l9 ?c9 ?k9 ?z0 ?z1 ?z2 ?z3 ?z4 ?z5 ?z6 ?z7
    (case aA => k_is)
    (case e0 => k_is)
    (case e1 => k_is)
    (case e2 => k_is)
    (case e3 => k_is)
    (case e4 => k_is)
    (case e5 => k_is)
    (case e6 => k_is)
    (case e7 => k_is)
    (case e8 => k_is)
    (case e9 => k_is)
    (case e10 => k_is)
    (case e11 => k_is)
    (case e12 => k_is)
    (case e13 => k_is)
    (case e14 => k_is)
    (case e15 => k_is)
    (case e16 => k_is)
    (case e17 => k_is)
    (case e18 => k_is)
    (case e19 => k_is)
    (case e20 => k_is)
    (case e21 => k_is)
    (case bA => exact ⟨by k_is, by k_is, by k_is, by k_is⟩)
    (case q0 => exact ⟨by k_is, by k_is, ⟨_, by k_is, by rfl, by rfl⟩, by k_is, by k_is, by k_is, by k_is, by k_is, by k_is, by k_is, by k_is, by k_is, by k_is⟩)
    (case q1 => exact ⟨by k_is, by k_is, ⟨_, by k_is, by rfl, by rfl⟩, by k_is, by k_is, by k_is, by k_is, by k_is, by k_is, by k_is, by k_is, by k_is, by k_is⟩)
    (case q2 => exact ⟨by k_is, by k_is, ⟨_, by k_is, by rfl, by rfl⟩, by k_is, by k_is, by k_is, by k_is, by k_is, by k_is, by k_is, by k_is, by k_is, by k_is⟩)
    (case q3 => exact ⟨by k_is, by k_is, ⟨_, by k_is, by rfl, by rfl⟩, by k_is, by k_is, by k_is, by k_is, by k_is, by k_is, by k_is, by k_is, by k_is, by k_is⟩)
    (case q4 => exact ⟨by k_is, by k_is, ⟨_, by k_is, by rfl, by rfl⟩, by k_is, by k_is, by k_is, by k_is, by k_is, by k_is, by k_is, by k_is, by k_is, by k_is⟩)
    (case q5 => exact ⟨by k_is, by k_is, ⟨_, by k_is, by rfl, by rfl⟩, by k_is, by k_is, by k_is, by k_is, by k_is, by k_is, by k_is, by k_is, by k_is, by k_is⟩)
    (case q6 => exact ⟨by k_is, by k_is, ⟨_, by k_is, by rfl, by rfl⟩, by k_is, by k_is, by k_is, by k_is, by k_is, by k_is, by k_is, by k_is, by k_is, by k_is⟩)
    (case q7 => exact ⟨by k_is, by k_is, ⟨_, by k_is, by rfl, by rfl⟩, by k_is, by k_is, by k_is, by k_is, by k_is, by k_is, by k_is, by k_is, by k_is, by k_is⟩)
    (case q8 => exact ⟨by k_is, by k_is, ⟨_, by k_is, by rfl, by rfl⟩, by k_is, by k_is, by k_is, by k_is, by k_is, by k_is, by k_is, by k_is, by k_is, by k_is⟩)
    (case q9 => exact ⟨by k_is, by k_is, ⟨_, by k_is, by rfl, by rfl⟩, by k_is, by k_is, by k_is, by k_is, by k_is, by k_is, by k_is, by k_is, by k_is, by k_is⟩)
    (case q10 => exact ⟨by k_is, by k_is, ⟨_, by k_is, by rfl, by rfl⟩, by k_is, by k_is, by k_is, by k_is, by k_is, by k_is, by k_is, by k_is, by k_is, by k_is⟩)
    (case q11 => exact ⟨by k_is, by k_is, ⟨_, by k_is, by rfl, by rfl⟩, by k_is, by k_is, by k_is, by k_is, by k_is, by k_is, by k_is, by k_is, by k_is, by k_is⟩)
    (case q12 => exact ⟨by k_is, by k_is, ⟨_, by k_is, by rfl, by rfl⟩, by k_is, by k_is, by k_is, by k_is, by k_is, by k_is, by k_is, by k_is, by k_is, by k_is⟩)
    (case q13 => exact ⟨by k_is, by k_is, ⟨_, by k_is, by rfl, by rfl⟩, by k_is, by k_is, by k_is, by k_is, by k_is, by k_is, by k_is, by k_is, by k_is, by k_is⟩)
    (case q14 => exact ⟨by k_is, by k_is, ⟨_, by k_is, by rfl, by rfl⟩, by k_is, by k_is, by k_is, by k_is, by k_is, by k_is, by k_is, by k_is, by k_is, by k_is⟩)
    (case q15 => exact ⟨by k_is, by k_is, ⟨_, by k_is, by rfl, by rfl⟩, by k_is, by k_is, by k_is, by k_is, by k_is, by k_is, by k_is, by k_is, by k_is, by k_is⟩)
    (case q16 => exact ⟨by k_is, by k_is, ⟨_, by k_is, by rfl, by rfl⟩, by k_is, by k_is, by k_is, by k_is, by k_is, by k_is, by k_is, by k_is, by k_is, by k_is⟩)
    (case q17 => exact ⟨by k_is, by k_is, ⟨_, by k_is, by rfl, by rfl⟩, by k_is, by k_is, by k_is, by k_is, by k_is, by k_is, by k_is, by k_is, by k_is, by k_is⟩)
    (case q18 => exact ⟨by k_is, by k_is, ⟨_, by k_is, by rfl, by rfl⟩, by k_is, by k_is, by k_is, by k_is, by k_is, by k_is, by k_is, by k_is, by k_is, by k_is⟩)
    (case q19 => exact ⟨by k_is, by k_is, ⟨_, by k_is, by rfl, by rfl⟩, by k_is, by k_is, by k_is, by k_is, by k_is, by k_is, by k_is, by k_is, by k_is, by k_is⟩)
    (case q20 => exact ⟨by k_is, by k_is, ⟨_, by k_is, by rfl, by rfl⟩, by k_is, by k_is, by k_is, by k_is, by k_is, by k_is, by k_is, by k_is, by k_is, by k_is⟩)
    (case q21 => exact ⟨by k_is, by k_is, ⟨_, by k_is, by rfl, by rfl⟩, by k_is, by k_is, by k_is, by k_is, by k_is, by k_is, by k_is, by k_is, by k_is, by k_is⟩)
    (case nd => decide +kernel)
    (case hn => k_is)
    (case ht => k_is)
    (case j0 => exact ⟨⟨_, _, _, _, _, _, _, _, _, _, _, _, _, _, _, by k_is, by decide +kernel⟩, by k_is, by k_is, by k_is, ⟨_, L2.fun_mk (by k_is) (by k_is) (by k_is)⟩⟩)
    (case j1 => exact ⟨⟨_, _, _, _, _, _, _, _, _, _, _, _, _, _, _, by k_is, by decide +kernel⟩, by k_is, by k_is, by k_is, ⟨_, L2.fun_mk (by k_is) (by k_is) (by k_is)⟩⟩)
    (case j2 => exact ⟨⟨_, _, _, _, _, _, _, _, _, _, _, _, _, _, _, by k_is, by decide +kernel⟩, by k_is, by k_is, by k_is, ⟨_, L2.fun_mk (by k_is) (by k_is) (by k_is)⟩⟩)
    (case j3 => exact ⟨⟨_, _, _, _, _, _, _, _, _, _, _, _, _, _, _, by k_is, by decide +kernel⟩, by k_is, by k_is, by k_is, ⟨_, L2.fun_mk (by k_is) (by k_is) (by k_is)⟩⟩)
    (case j4 => exact ⟨⟨_, _, _, _, _, _, _, _, _, _, _, _, _, _, _, by k_is, by decide +kernel⟩, by k_is, by k_is, by k_is, ⟨_, L2.fun_mk (by k_is) (by k_is) (by k_is)⟩⟩)
    (case j5 => exact ⟨⟨_, _, _, _, _, _, _, _, _, _, _, _, _, _, _, by k_is, by decide +kernel⟩, by k_is, by k_is, by k_is, ⟨_, L2.fun_mk (by k_is) (by k_is) (by k_is)⟩⟩)
    (case j6 => exact ⟨⟨_, _, _, _, _, _, _, _, _, _, _, _, _, _, _, by k_is, by decide +kernel⟩, by k_is, by k_is, by k_is, ⟨_, L2.fun_mk (by k_is) (by k_is) (by k_is)⟩⟩)
    (case j7 => exact ⟨⟨_, _, _, _, _, _, _, _, _, _, _, _, _, _, _, by k_is, by decide +kernel⟩, by k_is, by k_is, by k_is, ⟨_, L2.fun_mk (by k_is) (by k_is) (by k_is)⟩⟩)
    (case j8 => exact ⟨⟨_, _, _, _, _, _, _, _, _, _, _, _, _, _, _, by k_is, by decide +kernel⟩, by k_is, by k_is, by k_is, ⟨_, L2.fun_mk (by k_is) (by k_is) (by k_is)⟩⟩)
    (case j9 => exact ⟨⟨_, _, _, _, _, _, _, _, _, _, _, _, _, _, _, by k_is, by decide +kernel⟩, by k_is, by k_is, by k_is, ⟨_, L2.fun_mk (by k_is) (by k_is) (by k_is)⟩⟩)
    (case j10 => exact ⟨⟨_, _, _, _, _, _, _, _, _, _, _, _, _, _, _, by k_is, by decide +kernel⟩, by k_is, by k_is, by k_is, ⟨_, L2.fun_mk (by k_is) (by k_is) (by k_is)⟩⟩)
    (case j11 => exact ⟨⟨_, _, _, _, _, _, _, _, _, _, _, _, _, _, _, by k_is, by decide +kernel⟩, by k_is, by k_is, by k_is, ⟨_, L2.fun_mk (by k_is) (by k_is) (by k_is)⟩⟩)
    (case j12 => exact ⟨⟨_, _, _, _, _, _, _, _, _, _, _, _, _, _, _, by k_is, by decide +kernel⟩, by k_is, by k_is, by k_is, ⟨_, L2.fun_mk (by k_is) (by k_is) (by k_is)⟩⟩)
    (case j13 => exact ⟨⟨_, _, _, _, _, _, _, _, _, _, _, _, _, _, _, by k_is, by decide +kernel⟩, by k_is, by k_is, by k_is, ⟨_, L2.fun_mk (by k_is) (by k_is) (by k_is)⟩⟩)
    (case x14 => k_exc)
    (case x15 => k_exc)
    (case x16 => k_exc)
    (case x17 => k_exc)
    (case x18 => k_exc)
    (case x19 => k_exc)
    (case x20 => k_exc)
    (case x21 => k_exc)
    (case a0 => k_is)
    (case l0 => k_is)
    (case c0 => k_is)
    (case k0 => k_is)
    (case a1 => k_is)
    (case l1 => k_is)
    (case c1 => k_is)
    (case k1 => k_is)
    (case a2 => k_is)
    (case l2 => k_is)
    (case c2 => k_is)
    (case k2 => k_is)
    (case a3 => k_is)
    (case l3 => k_is)
    (case c3 => k_is)
    (case k3 => k_is)
    (case a4 => k_is)
    (case l4 => k_is)
    (case c4 => k_is)
    (case k4 => k_is)
    (case a5 => k_is)
    (case l5 => k_is)
    (case c5 => k_is)
    (case k5 => k_is)
    (case a6 => k_is)
    (case l6 => k_is)
    (case c6 => k_is)
    (case k6 => k_is)
    (case a7 => k_is)
    (case l7 => k_is)
    (case c7 => k_is)
    (case k7 => k_is)
    (case a8 => k_is)
    (case l8 => k_is)
    (case c8 => k_is)
    (case k8 => k_is)
    (case a9 => k_is)
    (case l9 => k_is)
    (case c9 => k_is)
    (case k9 => k_is)
    (case z0 => k_is)
    (case z1 => k_is)
    (case z2 => k_is)
    (case z3 => k_is)
    (case z4 => k_is)
    (case z5 => k_is)
    (case z6 => k_is)
    (case z7 => k_is)

