import PyProof.Rows.All
import Wide.All
import OpenK.AllK
import Wide.FinOn
import HandS.ForMost
import HandS.Wide
import HandS.SortKw
import HandS.List
import HandS.More
import HandS.Conv
import HandS.Lambda
import PyProof.TypeEq
import HandS.Zip0
import HandS.OwnEq
import HandS.SetKeys
import HandS.Defaults
import HandS.IsInst
import HandS.Codes
import HandS.Comp
import HandS.Dict
import PyProof.ReprRoads
import HandS.FStrTup
import HandS.Words
import HandS.Style
import HandS.EndTab
import HandS.Head0
import HandS.Head1
import HandS.Head2
import HandS.HeadEnd
import HandS.HeadHook1
import HandS.HeadHook2
import HandS.HeadHook3
import HandS.HeadHook4
import PySem.Challenge.RW_turnless_k01_problems_made
set_option Elab.async false
set_option linter.all false
set_option maxRecDepth 100000
set_option maxHeartbeats 0
-- part: A0
namespace Toy
open PySem L2
/-! ### readings, evaluated -/
section
variable {D : Ends} {σ : St} {H : Hp} {Q : VK}
theorem e_seq {t u : TS} : tSeq t u D σ H = t { D with nx := u D } σ H := rfl
theorem e_asg {te : TE} {i : Nat} : tAsg te (gName i) D σ H = te σ H fun x H1 => D.nx (σ.set i (some x)) H1 := rfl
theorem e_asgS {te to ti : TE} {t : TSet} : tAsg te (gSub to ti t) D σ H = te σ H fun v H1 => to σ H1 fun o H2 => ti σ H2 fun i H3 => t o i v H3 fun H4 => D.nx σ H4 := rfl
theorem e_ret {te : TE} : tRet te D σ H = te σ H D.rt := rfl
theorem e_ifS {c : TT} {t u : TS} : tIfS c t u D σ H = c σ H fun b H1 => if b = true then t D σ H1 else u D σ H1 := rfl
theorem e_c {v : V} : tC v σ H Q = Q v H := rfl
theorem e_op {r : R2} {ta tb : TE} : tOp r ta tb σ H Q = ta σ H fun x H1 => tb σ H1 fun y H2 => r x y H2 Q := rfl
theorem e_test {te : TE} {q : Bool → Hp → Prop} : tTest te σ H q = te σ H fun x H1 => ∃ c, x = .bl c ∧ q c H1 := rfl
theorem e_rI0 {g : Int → Int → V} {i j : Int} : rI0 g (.int i) (.int j) H Q = Q (g i j) H := by
  refine propext ⟨?_, fun h => ⟨_, _, rfl, rfl, h⟩⟩
  rintro ⟨a, b, e1, e2, h⟩; cases e1; cases e2; exact h
theorem e_rI {C : Int → Int → Prop} {g : Int → Int → V} {i j : Int} : rI C g (.int i) (.int j) H Q = (C i j ∧ Q (g i j) H) := by
  refine propext ⟨?_, fun h => ⟨_, _, rfl, rfl, h⟩⟩
  rintro ⟨a, b, e1, e2, h⟩; cases e1; cases e2; exact h
theorem e_var0 {v : V} {s : List (Option V)} : tVar 0 (some v :: s) H Q = Q v H := by
  refine propext ⟨?_, fun h => ⟨_, rfl, h⟩⟩
  rintro ⟨a, e, h⟩; cases e; exact h
theorem e_varS {o : Option V} {n : Nat} {s : List (Option V)} : tVar (n + 1) (o :: s) H Q = tVar n s H Q := rfl
theorem e_bl {b : Bool} {q : Bool → Prop} : (∃ c, V.bl b = V.bl c ∧ q c) = q b := by
  refine propext ⟨?_, fun h => ⟨_, rfl, h⟩⟩
  rintro ⟨a, e, h⟩; cases e; exact h
theorem e_nil {q : List V → Hp → Prop} : tNil σ H q = q [] H := rfl
theorem e_cons {ta : TE} {t : TA} {q : List V → Hp → Prop} : tCons ta t σ H q = ta σ H fun x H1 => t σ H1 fun xs H2 => q (x :: xs) H2 := rfl
theorem e_call {sp : Sp} {dvs : List V} {E : XK} {t : TA} : tCall sp dvs E t σ H Q = t σ H fun vs H1 => sp (vs ++ dvs) H1 Q E := rfl
theorem e_cb {r : List V → Hp → VK → Prop} {t : TA} : tCB r t σ H Q = t σ H fun vs H1 => r vs H1 Q := rfl
theorem e_next : tNext D σ H = D.nx σ H := rfl
theorem e_bl2 {b : Bool} {q : Bool → Hp → Prop} : (∃ c, V.bl b = V.bl c ∧ q c H) = q b H := by
  refine propext ⟨?_, fun h => ⟨_, rfl, h⟩⟩
  rintro ⟨a, e, h⟩; cases e; exact h
end
section
variable {D : Ends} {σ : St} {H : Hp} {Q : VK}
theorem e_and {a b : TE} : tAndV a b σ H Q = a σ H fun x H1 => ∃ c, x = .bl c ∧ if c = true then b σ H1 Q else Q (.bl false) H1 := rfl
theorem e_chain {r r' : R2} {a b c : TE} : tChain r r' a b c σ H Q = a σ H fun x H1 => b σ H1 fun y H2 => r x y H2 fun z H3 => ∃ k, z = .bl k ∧ (if k = true then c σ H3 fun w' H4 => r' y w' H4 Q else Q (.bl false) H3) := rfl
theorem e_tif {t : TT} {a b : TE} : tIf t a b σ H Q = t σ H fun c H1 => if c = true then a σ H1 Q else b σ H1 Q := rfl
theorem e_not {t : TT} {q : Bool → Hp → Prop} : tNot t σ H q = t σ H fun c H1 => q (!c) H1 := rfl
theorem e_tb {t : TE} {q : Bool → Hp → Prop} : tB t σ H q = t σ H fun x H1 => ∃ c, x = .bl c ∧ q c H1 := rfl
theorem e_drop {te : TE} : tDrop te D σ H = te σ H fun _ H1 => D.nx σ H1 := rfl
theorem e_or {t u : TT} {q : Bool → Hp → Prop} : tOr t u σ H q = t σ H fun c H1 => if c = true then q true H1 else u σ H1 q := rfl
theorem e_andT {t u : TT} {q : Bool → Hp → Prop} : tAnd t u σ H q = t σ H fun c H1 => if c = true then u σ H1 q else q false H1 := rfl
theorem e_din {ty td : TE} : tDIn ty td σ H Q = ty σ H fun y H1 => td σ H1 fun x H2 => ∃ a o, x = .ref a ∧ DGet H2 a y o ∧ Q (.bl o.isSome) H2 := rfl
theorem e_dnotin {ty td : TE} : tDNotIn ty td σ H Q = ty σ H fun y H1 => td σ H1 fun x H2 => ∃ a o, x = .ref a ∧ DGet H2 a y o ∧ Q (.bl (!o.isSome)) H2 := rfl
theorem e_un {r : V → Hp → VK → Prop} {ta : TE} : tUn r ta σ H Q = ta σ H fun x H1 => r x H1 Q := rfl
theorem e_rU {g : Int → V} {i : Int} : rU g (.int i) H Q = Q (g i) H := by
  refine propext ⟨?_, fun h => ⟨_, rfl, h⟩⟩
  rintro ⟨a, e, h⟩; cases e; exact h
theorem e_dput {td ty tv : TE} : sDPut td ty tv D σ H = tv σ H fun v H1 => td σ H1 fun x H2 => ty σ H2 fun y H3 => ∃ a H4, x = .ref a ∧ DPut H3 a y v H4 ∧ D.nx σ H4 := rfl
theorem e_x1 {v : V} {q : V → Prop} : (∃ x, [v] = [x] ∧ q x) = q v := by
  refine propext ⟨?_, fun h => ⟨_, rfl, h⟩⟩
  rintro ⟨i, e, h⟩; cases e; exact h
theorem e_notV {a : TE} : tNotV a σ H Q = a σ H fun x H1 => ∃ c, x = .bl c ∧ Q (.bl (!c)) H1 := rfl
theorem e_orV {a b : TE} : tOrV a b σ H Q = a σ H fun x H1 => ∃ c, x = .bl c ∧ if c = true then Q (.bl true) H1 else b σ H1 Q := rfl
theorem e_fld {K : PySem.W.Frag} {ta tv : TE} {f : Str} : sFld K ta tv f D σ H = tv σ H fun y H1 => ta σ H1 fun x H2 => ∃ a C dx fs, x = .ref a ∧ H2 a = some (.ins C dx fs) ∧ Cls K C ∧ NoAttr K C f ∧ fs.length < 1000 ∧ D.nx σ (upd H2 a (.ins C dx (putF f y fs))) := rfl
theorem e_par {i j : Nat} {ta : TA} : tPar i j ta D σ H = ta σ H fun vs H1 => ∃ v w, vs = [v, w] ∧ D.nx ((σ.set i (some v)).set j (some w)) H1 := rfl
theorem e_vw {a b : V} {q : V → V → Prop} : (∃ v w, [a, b] = [v, w] ∧ q v w) = q a b := by
  refine propext ⟨?_, fun h => ⟨_, _, rfl, h⟩⟩
  rintro ⟨i, j, e, h⟩; cases e; exact h
theorem e_dnewK : tDNewK σ H Q = ∀ p, H p = none → Q (.ref p) (upd H p (.dK [])) := rfl
theorem e_gName {i : Nat} {v : V} {q : St → Hp → Prop} : gName i v σ H q = q (σ.set i (some v)) H := rfl
theorem e_bm {K : PySem.W.Frag} {T : String} {r : V → List V → Hp → VK → Prop} {to : TE} {t : TA} : tBM K T r to t σ H Q = to σ H fun x H1 => tyV K T x H1 ∧ t σ H1 fun xs H2 => r x xs H2 Q := rfl
theorem e_i1 {a : Int} {q : Int → Prop} : (∃ i, [V.int a] = [V.int i] ∧ q i) = q a := by
  refine propext ⟨?_, fun h => ⟨_, rfl, h⟩⟩
  rintro ⟨i, e, h⟩; cases e; exact h
end
theorem p_ix {K : PySem.W.Frag} {H : Hp} {Q : VK} {p : Addr} {xs : List V} {i : Int} {v : V} (h : SqL K H p xs) (e : atI xs i = some v) (q : Q v H) : rIxL K (.ref p) (.int i) H Q := ⟨p, xs, i, v, rfl, rfl, h, e, q⟩
theorem p_set {H : Hp} {Q : Hp → Prop} {p : Addr} {xs : List V} {i : Int} {j : Nat} {v : V} (h : H p = some (.lst xs)) (e : ixN xs.length i = some j) (q : Q (upd H p (.lst (xs.set j v)))) : rSetL (.ref p) (.int i) v H Q := ⟨p, xs, i, j, rfl, rfl, h, e, q⟩
theorem e_cxK {CX : CXT} {P : Program} {w : World} {K : PySem.W.Frag} {mg : Str → Option Value} {base : Heap} {N : List Str} {qual : Str} {sc : Scope} {f : Addr} {cdv : Value} {A : Around} {outer : List Env} {s : Shared} {H : Hp} {E : XK} : (cxOf CX P w K mg base N qual sc f cdv A outer s H E).K = K := rfl
theorem e_ii {a b : Int} {q : Int → Int → Prop} : (∃ i j, [V.int a, V.int b] = [V.int i, V.int j] ∧ q i j) = q a b := by
  refine propext ⟨?_, fun h => ⟨_, _, rfl, h⟩⟩
  rintro ⟨i, j, e, h⟩; cases e; exact h
theorem e_lst {t : TA} {σ : St} {H : Hp} {Q : VK} : tLst t σ H Q = t σ H fun xs H1 => xs.length ≤ sizeLine ∧ ∀ p, H1 p = none → Q (.ref p) (upd H1 p (.lst xs)) := rfl
theorem e_tup {t : TA} {σ : St} {H : Hp} {Q : VK} : tTup t σ H Q = t σ H fun xs H1 => xs.length ≤ sizeLine ∧ ∀ p, H1 p = none → Q (.ref p) (upd H1 p (.tup xs)) := rfl
theorem p_neD {K : PySem.W.Frag} {H : Hp} {Q : VK} {x y : V} {d e : PyData} (hd : Dp K H x d) (he : Dp K H y e) (sd : SeqAt.shaped d = true) (se : SeqAt.shaped e = true) (q : Q (.bl (!PyData.eqv d e)) H) : rNeD K x y H Q := ⟨d, e, hd, he, sd, se, q⟩
theorem p_eqD {K : PySem.W.Frag} {H : Hp} {Q : VK} {x y : V} {d e : PyData} (hd : Dp K H x d) (he : Dp K H y e) (sd : SeqAt.shaped d = true) (se : SeqAt.shaped e = true) (q : Q (.bl (PyData.eqv d e)) H) : rEqD K x y H Q := ⟨d, e, hd, he, sd, se, q⟩
theorem at_ints {ns : List Int} {i : Int} (h0 : 0 ≤ i) (h1 : i < ns.length) : ∃ z, atI (ns.map V.int) i = some (V.int z) := by
  obtain ⟨j, rfl⟩ := Int.eq_ofNat_of_zero_le h0
  have hj : j < ns.length := by omega
  refine ⟨ns[j], atI_nat ?_⟩
  rw [List.getElem?_map, List.getElem?_eq_getElem hj]
  rfl
theorem p_app {H : Hp} {Q : VK} {l : Addr} {xs : List V} {y : V} (h : H l = some (.lst xs)) (z : xs.length < sizeLine) (q : Q .non (upd H l (.lst (xs ++ [y])))) : rAppend (.ref l) [y] H Q := ⟨l, xs, y, rfl, rfl, h, z, q⟩
/-! ### what stands but for one object -/
def Ex (d : Addr) (H H' : Hp) : Prop := ∀ b o, H b = some o → b ≠ d → H' b = some o
theorem Ex.refl (d : Addr) (H : Hp) : Ex d H H := fun _ _ h _ => h
theorem Ex.trans {d : Addr} {H H1 H2 : Hp} (a : Ex d H H1) (b : Ex d H1 H2) : Ex d H H2 := fun c o h n => b c o (a c o h n) n
theorem Ex.new {d p : Addr} {H : Hp} {o : HO} (h : H p = none) : Ex d H (upd H p o) := fun b u e _ => by rw [upd_ne (ne_of_none e h)]; exact e
theorem Ex.at {d : Addr} {H : Hp} {o : HO} : Ex d H (upd H d o) := fun b u e n => by rw [upd_ne n]; exact e
theorem Ex.same {d : Addr} {H H' : Hp} (e : Same H H') : Ex d H H' := fun b o h _ => e b o h
theorem Ex.sql {d : Addr} {K : PySem.W.Frag} {H H' : Hp} {a : Addr} {xs : List V} (e : Ex d H H') (n : a ≠ d) (h : SqL K H a xs) : SqL K H' a xs := by
  rcases h with (h | ⟨o, h⟩) | h
  · exact .inl (.inl (e _ _ h n))
  · exact .inl (.inr ⟨o, e _ _ h n⟩)
  · exact .inr h
theorem Same.new {p : Addr} {H : Hp} {o : HO} (h : H p = none) : Same H (upd H p o) := fun b u e => by rw [upd_ne (ne_of_none e h)]; exact e
/-- the draws: a list of the script and a count -/
structure Dr (K : PySem.W.Frag) (H : Hp) (d sc : Addr) (ns : List Int) (n : Int) : Prop where
  dr : H d = some (.lst [.ref sc, .int n])
  sq : SqL K H sc (ns.map V.int)
  len : ns.length ≤ 63
  pos : 0 ≤ n
def DrOk (K : PySem.W.Frag) (H : Hp) (d : Addr) : Prop := ∃ sc ns n, Dr K H d sc ns n
theorem DrOk.same {K : PySem.W.Frag} {H H' : Hp} {d : Addr} (e : Same H H') : DrOk K H d → DrOk K H' d := fun ⟨sc, ns, n, h⟩ => ⟨sc, ns, n, e _ _ h.dr, Same.seq e h.sq, h.len, h.pos⟩
theorem DrOk.nd {K : PySem.W.Frag} {H : Hp} {d p : Addr} (h : DrOk K H d) (hp : H p = none) : p ≠ d := fun e => by
  obtain ⟨sc, ns, n, D⟩ := h
  rw [e, D.dr] at hp
  cases hp
theorem ne_ints {sc : Addr} {n : V} {ns : List Int} {r : List V} : ns.map V.int ≠ V.ref sc :: r := fun e => by
  cases ns with
  | nil => cases e
  | cons a l => cases e
theorem Dr.sqx {K : PySem.W.Frag} {H H' : Hp} {d sc : Addr} {ns : List Int} {n : Int} (D : Dr K H d sc ns n) (e : Ex d H H') : SqL K H' sc (ns.map V.int) := by
  have h := D.sq
  have hd := D.dr
  rcases h with (h | ⟨o, h⟩) | h
  · exact .inl (.inl (e _ _ h fun z => by
      rw [z, hd] at h
      exact ne_ints (n := .non) (HO.lst.inj (Option.some.inj h)).symm))
  · exact .inl (.inr ⟨o, e _ _ h fun z => by
      rw [z, hd] at h
      cases h⟩)
  · exact .inr h
def DrA (K : PySem.W.Frag) (sc : Addr) (ns : List Int) (H : Hp) (d : Addr) : Prop := ∃ n, Dr K H d sc ns n
theorem DrA.same {K : PySem.W.Frag} {sc : Addr} {ns : List Int} {H H' : Hp} {d : Addr} (e : Same H H') : DrA K sc ns H d → DrA K sc ns H' d := fun ⟨n, h⟩ => ⟨n, e _ _ h.dr, Same.seq e h.sq, h.len, h.pos⟩
theorem DrA.nd {K : PySem.W.Frag} {sc : Addr} {ns : List Int} {H : Hp} {d p : Addr} (h : DrA K sc ns H d) (hp : H p = none) : p ≠ d := DrOk.nd ⟨_, _, h⟩ hp
/-- a write to an object that was made since -/
theorem DrA.up {K : PySem.W.Frag} {sc : Addr} {ns : List Int} {H0 H : Hp} {d p : Addr} {o : HO} (h0 : DrA K sc ns H0 d) (h : DrA K sc ns H d) (e : Ex d H0 H) (hp : H0 p = none) : DrA K sc ns (upd H p o) d := by
  obtain ⟨n0, D0⟩ := h0
  obtain ⟨n, D⟩ := h
  have nd := DrA.nd ⟨n0, D0⟩ hp
  exact ⟨n, by rw [upd_ne (Ne.symm nd)]; exact D.dr, Dr.sqx D0 (fun b o hb n => by rw [upd_ne (ne_of_none hb hp)]; exact e b o hb n), D.len, D.pos⟩
theorem Ex.up {d p : Addr} {H0 H : Hp} {o : HO} (e : Ex d H0 H) (hp : H0 p = none) : Ex d H0 (upd H p o) := fun b o hb n => by rw [upd_ne (ne_of_none hb hp)]; exact e b o hb n
theorem can_ints : ∀ (l : List Int), PyData.canLayAll0 (l.map PyData.int) = true
  | [] => by simp [PyData.canLayAll0]
  | i :: r => by simp [PyData.canLayAll0, PyData.canLay0, can_ints r]
theorem dep_ints : ∀ (l : List Int), PyData.depthAll (l.map PyData.int) ≤ 1
  | [] => by simp [PyData.depthAll]
  | i :: r => by
    have h := dep_ints r
    simp [PyData.depthAll, PyData.depth] <;> omega
theorem shaped_lints (l : List Int) : SeqAt.shaped (.list (l.map PyData.int)) = true := by
  have h := dep_ints l
  unfold SeqAt.shaped
  rw [Bool.and_eq_true]
  refine ⟨by simp [PyData.canLay0, can_ints], decide_eq_true ?_⟩
  simp only [PyData.depth]
  omega
theorem dp_ints {K : PySem.W.Frag} {H : Hp} : ∀ (l : List Int), DpAll K H (l.map V.int) (l.map PyData.int)
  | [] => .nil
  | i :: r => .cons (.int i) (dp_ints r)
end Toy

-- part: SK1
namespace SrtQ
open PySem PyProof.Rows Srt SrtO
section
variable {prog : Program} {w : World} {A : Around} {E : Value → Shared → Prop} {s : Shared} {a kS : Addr} {e1 : Nat} {vs : List Value}
/-- what runs behind the keys: out is made of the pairs (key, item) in order -/
def Good (ltk : Value → Value → Bool) (ks vs out : List Value) : Prop := ∃ ps : List Keyed, Srtd (lt2 ltk) ps ∧ Stb (lt2 ltk) ps (ks.zip vs) ∧ out = ps.map (·.2)
def endH (h : Heap) (a kS : Addr) (out : List Value) : Heap := (h.update kS (Obj.mapSeq fun _ => (#[] : Array Value))).update a (Obj.mapSeq fun _ => out.toArray)
theorem zip_arr (ks vs : List Value) : (ks.toArray.zip vs.toArray).toList = ks.zip vs := by
  rw [ksk_zip]
theorem tail_ {ltk : Value → Value → Bool} {ks : List Value} {e : Nat} {st : SortSt} {R : PySem.Fin → Shared → Prop} (hka : kS ≠ a) (hk : s.heap.get? kS = some (seqObj "list" ks.toArray e)) (ha : s.heap.get? a = some (seqObj "list" #[] e1))
    (hl : ks.length = vs.length) (hz : vs.length ≤ sizeLine) (h1 : Srtd (lt2 ltk) (arrOf st).toList) (h2 : Stb (lt2 ltk) (arrOf st).toList (ks.zip vs)) (hf : failedOf st = none)
    (h : ∀ out tk, Good ltk ks vs out → R (.done (.ret .none)) { s with heap := endH s.heap a kS out, toks := tk }) :
    wpAny (model prog w) A (ksk_tail a false e1 (.ref kS) st) R E s := by
  have s1 := Heap.SameBut.update s.heap kS (Obj.mapSeq fun _ => (#[] : Array Value))
  have na1 : (s.heap.update kS (Obj.mapSeq fun _ => (#[] : Array Value))).get? a = some (seqObj "list" #[] e1) := (s1.2 a hka.symm).trans ha
  have hsz : (arrOf st).size = vs.length := by
    have q := h2.len
    rw [Array.length_toList, List.length_zip, hl, Nat.min_self] at q
    exact q
  unfold ksk_tail
  try dsimp only
  refine wpAny_bind (listUpdate_at hk rfl ?_ (by rw [List.size_toArray, hl]; exact hz) (Nat.zero_le _))
  refine wpAny_bind (wpAny_letGo ?_)
  refine wpAny_bind (seqEpoch_at na1 rfl ?_)
  refine wpAny_bind (listUpdate_at na1 rfl ?_ (Nat.zero_le _) ?_)
  · rw [hf]
    simp only [bne_self_eq_false, Bool.false_eq_true, if_false]
    have q := h ((arrOf st).toList.map (·.2)) s.toks ⟨_, h1, h2, rfl⟩
    have e2 : ((arrOf st).toList.map (·.2)).toArray = (arrOf st).map (·.2) := by
      apply Array.ext'
      simp
    unfold endH at q
    rw [e2] at q
    exact wpAny_pure q
  · simp only [Bool.false_eq_true, if_false, Array.size_map]
    omega
theorem end_ {ltk : Value → Value → Bool} {ks : List Value} {e : Nat} {R : PySem.Fin → Shared → Prop} (O : Swo ltk) (hka : kS ≠ a) (hk : s.heap.get? kS = some (seqObj "list" ks.toArray e)) (ha : s.heap.get? a = some (seqObj "list" #[] e1))
    (hl : ks.length = vs.length) (hz : vs.length ≤ sizeLine)
    (hS : 2 ≤ vs.length → ∃ κ, (∀ (Q : SortKind → Shared → Prop) (E : Value → Shared → Prop), Q κ s → wpAny (model prog w) A (keyKind' ks.toArray) Q E s) ∧ Cmp prog w A s κ (fun p => p.1 ∈ ks) (lt2 ltk))
    (h : ∀ out tk, Good ltk ks vs out → R (.done (.ret .none)) { s with heap := endH s.heap a kS out, toks := tk }) :
    wpAny (model prog w) A (ksk_end a false vs.toArray e1 (.ref kS) ks.toArray) R E s := by
  unfold ksk_end
  try dsimp only
  simp only [Bool.false_eq_true, if_false]
  by_cases h2 : vs.toArray.size < 2
  · rw [if_pos h2, if_pos h2]
    refine wpAny_bind (wpAny_pure ?_)
    rw [StateT.run_pure]
    refine wpAny_bind (wpAny_pure ?_)
    try dsimp only
    refine tail_ (st := SortSt.mk' general' (ks.toArray.zip vs.toArray) #[] 7 none) hka hk ha hl hz ?_ ?_ rfl h
    · show Srtd (lt2 ltk) (ks.toArray.zip vs.toArray).toList
      rw [zip_arr]
      rw [List.size_toArray] at h2
      match ks, vs, hl, h2 with
      | [], [], _, _ => exact List.Pairwise.nil
      | [k], [v], _, _ => exact List.pairwise_singleton _ _
      | _ :: _ :: _, _, hl, h2 => exact absurd h2 (by rw [← hl, List.length_cons, List.length_cons]; omega)
    · show Stb (lt2 ltk) (ks.toArray.zip vs.toArray).toList _
      rw [zip_arr]
      exact Stb.refl _
  · rw [if_neg h2, if_neg h2]
    rw [List.size_toArray] at h2
    obtain ⟨κ, hkind, hT⟩ := hS (by omega)
    refine wpAny_bind (hkind _ _ ?_)
    have hall : AllL (fun p : Keyed => p.1 ∈ ks) (ks.toArray.zip vs.toArray).toList := fun p hm => by
      rw [zip_arr] at hm
      exact (List.of_mem_zip hm).1
    refine wpAny_bind (wpAny_mono (wpS_sortO (st0 := SortSt.mk' κ (ks.toArray.zip vs.toArray) #[] 7 none)
      (Q := fun _ st' => Srtd (lt2 ltk) (arrOf st').toList ∧ Stb (lt2 ltk) (arrOf st').toList (ks.toArray.zip vs.toArray).toList ∧ failedOf st' = none) (swo2 O) hT rfl hall rfl rfl fun st' a1 a2 a3 => ⟨a1, a2, a3⟩) ?_ fun _ _ e => e)
    rintro ⟨⟨⟩, st'⟩ s' ⟨rfl, hp1, hp2, hf⟩
    try dsimp only
    rw [zip_arr] at hp2
    exact tail_ hka hk ha hl hz hp1 hp2 hf h
/-- the keys are asked one by one; J: what is kept meanwhile, of the keys so far and of the list that takes them -/
theorem rest_ {f : Value} {R : PySem.Fin → Shared → Prop} (J : List Value → Obj → Shared → Prop) (hka : kS ≠ a)
    (hJ : ∀ ks o s', J ks o s' → s'.heap.get? kS = some o ∧ s'.heap.get? a = some (seqObj "list" #[] e1))
    (up : ∀ ks o s' ks' c, J ks o s' → (s'.heap.update kS (Obj.mapSeq fun x => x.push ks')).get? kS = some c → c.cls = .type "list" → (∀ v, c.data ≠ .cell v) → J ks c { s' with heap := s'.heap.update kS (Obj.mapSeq fun x => x.push ks') })
    (step : ∀ i x ks o s', vs[i]? = some x → ks.length = i → J ks o s' → wpAny (model prog w) A (call f [x]) (fun k s'' => J (ks ++ [k]) o s'') (fun _ _ => False) s')
    (hz : vs.length ≤ sizeLine) (h0 : J [] (seqObj "list" #[] 0) s)
    (fin : ∀ ks e s', J ks (seqObj "list" ks.toArray e) s' → ks.length = vs.length → ∃ ltk : Value → Value → Bool, Swo ltk ∧
      (2 ≤ vs.length → ∃ κ, (∀ (Q : SortKind → Shared → Prop) (E : Value → Shared → Prop), Q κ s' → wpAny (model prog w) A (keyKind' ks.toArray) Q E s') ∧ Cmp prog w A s' κ (fun p => p.1 ∈ ks) (lt2 ltk)) ∧
      ∀ out tk, Good ltk ks vs out → R (.done (.ret .none)) { s' with heap := endH s'.heap a kS out, toks := tk }) :
    wpAny (model prog w) A (ksk_rest a f false vs.toArray e1 (.ref kS)) R E s := by
  unfold ksk_rest
  refine wpAny_bind (wpAny_rule ?_)
  first
    | rw [List.forIn_toArray]
    | (rw [← Array.forIn_toList]; simp only [List.toList_toArray])
    | rw [← Array.forIn_toList]
  refine wpAny_bind (ksk_fold (fun i s' => ∃ ks e, ks.length = i ∧ J ks (seqObj "list" ks.toArray e) s') vs 0 s ⟨[], 0, rfl, h0⟩ ?step ?done)
  case step =>
    rintro j x s' hx ⟨ks, e, hl, hj⟩
    simp only [Nat.zero_add] at hl ⊢
    have hlt : j < vs.length := (List.getElem?_eq_some_iff.mp hx).1
    refine wpAny_bind (wpAny_attempt (wpAny_mono (step j x ks _ s' hx hl hj) (fun k s'' he => ?_) fun _ _ hF => hF.elim))
    have nk := (hJ _ _ _ he).1
    obtain ⟨c2, hc2⟩ : ∃ c2, (s''.heap.update kS (Obj.mapSeq (·.push k))).get? kS = some (seqObj "list" (ks.toArray.push k) c2) := ⟨_, get?_update_seq nk (·.push k)⟩
    try dsimp only
    refine wpAny_bind (listUpdate_at nk rfl ?_ (by rw [List.size_toArray]; omega) (by rw [Array.size_push, List.size_toArray]; omega))
    refine wpAny_pure ⟨rfl, ks ++ [k], c2, by rw [List.length_append, hl]; rfl, ?_⟩
    have q := up _ _ _ k _ he hc2 rfl (fun v z => by cases z)
    have e3 : (ks ++ [k]).toArray = ks.toArray.push k := by simp
    rw [e3]
    exact q
  case done =>
    rintro s' ⟨ks, e, hl, hj⟩
    simp only [Nat.zero_add] at hl
    obtain ⟨nk, na⟩ := hJ _ _ _ hj
    try dsimp only
    refine wpAny_bind (listItems_at nk rfl ?_)
    obtain ⟨ltk, O, h1, h2⟩ := fin _ _ _ hj hl
    exact end_ O hka nk na hl hz h1 h2
end
end SrtQ

-- part: SK2
namespace L2
open PySem PySem.Spec PyProof.Rows SrtO SrtQ
/-- a value without its token -/
def toV : Value → V
  | .none => .non
  | .bool b => .bl b
  | .int i _ => .int i
  | .str x _ => .str x
  | .bytes b _ => .byt b
  | .float b _ => .flt b
  | .ref a => .ref a
  | .type n => .ty n
  | _ => .non
theorem toV_of {x : V} {u : Value} (r : RelV x u) : toV u = x := by
  cases x with
  | non => cases r; rfl
  | bl b => cases r; rfl
  | int i => obtain ⟨t, rfl⟩ := r; rfl
  | str x => obtain ⟨t, rfl⟩ := r; rfl
  | byt b => obtain ⟨t, rfl⟩ := r; rfl
  | flt b => obtain ⟨t, rfl⟩ := r; rfl
  | ref a => cases r; rfl
  | ty n => cases r; rfl
theorem vals_toV : ∀ {xs : List V} {us : List Value}, Vals xs us → xs = us.map toV
  | _, _, .nil => rfl
  | _, _, .cons r t => by rw [List.map_cons, toV_of r, ← vals_toV t]
theorem vals_mem : ∀ {xs : List V} {us : List Value}, Vals xs us → ∀ u ∈ us, RelV (toV u) u
  | _, _, .cons r t, u, h => by
    rcases List.mem_cons.mp h with e | h
    · rw [e, toV_of r]; exact r
    · exact vals_mem t u h
theorem vals_of : ∀ {us : List Value}, (∀ u ∈ us, RelV (toV u) u) → Vals (us.map toV) us
  | [], _ => .nil
  | u :: us, h => .cons (h u List.mem_cons_self) (vals_of fun v hv => h v (List.mem_cons_of_mem _ hv))
/-- an untracked object of ours is tracked from here on -/
theorem Inv.track {X : Cx} {pins : List (Addr × Obj)} {σ : St} {H : Hp} {s : Shared} {D : Addr} {o : HO} (I : Inv X pins σ H s) (fD : FpOk X pins H D) (new : ObjOk X.prog X.w (upd H D o) s.heap D o) : Inv X pins σ (upd H D o) s := by
  have hok : HOk X.prog X.w (upd H D o) s.heap := fun b u e => by
    by_cases hb : b = D
    · subst hb; rw [upd_same] at e; cases e; exact new
    · rw [upd_ne hb] at e
      exact (I.hok b u e).stay (fun c v _ q => q) (fun c q => by rw [upd_ne (ne_of_none q fD.1)]; exact q) fun c xs q => by rw [upd_ne (ne_of_none q fD.1)]; exact q
  have q := I.step (g' := s.gens) (d' := s.drawn) (t' := s.toks) (h' := s.heap) (H' := upd H D o) (ch := [D]) (fun b hb => by
      rw [List.mem_singleton.mp hb]
      exact ⟨fD.2.2.2.1, fD.2.1, fD.2.2.2.2.1, fD.2.2.2.2.2⟩)
    (fun b o _ _ _ e _ => e) (fun b o _ _ _ e _ => ⟨o.slots, e⟩) (fun b o hc e n => by rw [upd_ne fun z => hc (by rw [z]; exact List.mem_singleton.mpr rfl)]; exact n) (fun b o _ e => ⟨o, e⟩)
    (fun b xs e => by rw [upd_ne (ne_of_none e fD.1)]; exact e) (fun b o u e => by rw [upd_ne (ne_of_none e fD.1)]; exact e) (fun b ps e => ⟨#[], by rw [upd_ne (ne_of_none e fD.1), e]; simp⟩) (fun m h => h) hok I.bare
  exact q
section
variable {X : Cx} {pins : List (Addr × Obj)} {σ : St} {H : Hp} {s : Shared} {f : Value} {its : List Value} {xs : List V} {R : Result → Shared → Prop} {Q : VK}
/-- what is left of sorted once the items are gathered -/
def sortRest (its : List Value) (kw : List (Str × Value)) : Sem PySem.Fin := do
  let l ← newList its
  let _ ← holding [l] (call (.builtin "list.sort") [l] kw)
  ret l
/-- the pairs (key, item) in order -/
def GoodP (ltk : Value → Value → Bool) (ks its : List Value) (ps : List (Value × Value)) : Prop := Srtd (lt2 ltk) ps ∧ ps.Perm (ks.zip its)
theorem sort_part {E : Value → Shared → Prop} {Z : PySem.Fin → Shared → Prop} (I : Inv X pins σ H s) (rv : Vals xs its) (hz : its.length ≤ sizeLine) (W : List V → Hp → Prop) (w0 : W [] H)
    (ht : ∀ a : Addr, Builtin.«list.sort» ⟨[.ref a], [(Str.ofString "key", f)]⟩ = ksk_tree a f false) (ha2 : ∀ a, argsOk "list.sort" ⟨[a], [(Str.ofString "key", f)]⟩)
    (step : ∀ (pins' : List (Addr × Obj)) (s' : Shared) (H' : Hp) (i : Nat) (x : V) (u : Value) (kv : List V), (∀ p ∈ pins, p ∈ pins') → Inv X pins' σ H' s' → RelV x u → xs[i]? = some x → kv.length = i → W kv H' →
      wpAny (model X.prog X.w) X.A.in1.in1 (call f [u]) (fun k s'' => ∃ kx H'', RelV kx k ∧ Inv X pins' σ H'' s'' ∧ W (kv ++ [kx]) H'') (fun _ _ => False) s')
    (fin : ∀ (pins : List (Addr × Obj)) (kv : List V) (ks : List Value) (H' : Hp) (s' : Shared), Inv X pins σ H' s' → Vals kv ks → W kv H' → kv.length = xs.length → ∃ ltk : Value → Value → Bool, Swo ltk ∧
      (2 ≤ its.length → ∃ κ, (∀ (Q : SortKind → Shared → Prop) (E : Value → Shared → Prop), Q κ s' → wpAny (model X.prog X.w) X.A.in1.in1 (keyKind' ks.toArray) Q E s') ∧ Cmp X.prog X.w X.A.in1.in1 s' κ (fun p => p.1 ∈ ks) (lt2 ltk)) ∧
      ∀ ps : List (Value × Value), GoodP ltk ks its ps → ∀ p, H' p = none → Q (.ref p) (upd H' p (.lst (ps.map fun q => toV q.2))))
    (hZ : ∀ v s', EP X pins σ Q v s' → Z (.done (.ret v)) s') :
    wpAny (model X.prog X.w) X.A.in1 (sortRest its [(Str.ofString "key", f)]) Z E s := by
  unfold sortRest
  refine wpAny_bind (wpAny_newList ?_ hz)
  have ho : (s.heap.push (seqObj "list" its.toArray 0)).get? s.heap.objs.size = some (seqObj "list" its.toArray 0) := Heap.get?_push_size _ rfl
  generalize hD : s.heap.objs.size = D at *
  show wpAny _ _ _ _ _ { s with heap := s.heap.push (seqObj "list" its.toArray 0) }
  refine wpAny_bind (wpAny_holding (wpAny_call_entry_kw slot_list_sort ⟨_, ho, rfl⟩ entry_list_sort ?body (ha2 _)))
  case body =>
    show wpAny (model X.prog X.w) X.A.in1.in1 (Builtin.«list.sort» ⟨[.ref D], [(Str.ofString "key", f)]⟩) _ _ _
    rw [ht]
    unfold ksk_tree
    refine wpAny_bind (listItems_at ho rfl ?_)
    refine wpAny_bind (listUpdate_at ho rfl ?_ (by rw [List.size_toArray]; exact hz) (Nat.zero_le _))
    obtain ⟨e1, ho1⟩ : ∃ e1, ((s.heap.push (seqObj "list" its.toArray 0)).update D (Obj.mapSeq fun _ => (#[] : Array Value))).get? D = some (seqObj "list" #[] e1) := ⟨_, get?_update_seq ho fun _ => #[]⟩
    refine wpAny_bind (seqEpoch_at ho1 rfl ?_)
    refine wpAny_bind (wpAny_newTuple ?_ (by show its.length ≤ _; exact hz))
    refine wpAny_bind (wpAny_newList ?_ (Nat.zero_le _))
    refine wpAny_holding ?_
    have z1 : ((s.heap.push (seqObj "list" its.toArray 0)).update D (Obj.mapSeq fun _ => (#[] : Array Value))).objs.size = D + 1 := by rw [Heap.size_update, size_push', hD]
    have z2 : (((s.heap.push (seqObj "list" its.toArray 0)).update D (Obj.mapSeq fun _ => (#[] : Array Value))).push (seqObj "tuple" its.toArray 0)).objs.size = D + 2 := by rw [size_push', z1]
    have hk0 : ((((s.heap.push (seqObj "list" its.toArray 0)).update D (Obj.mapSeq fun _ => (#[] : Array Value))).push (seqObj "tuple" its.toArray 0)).push (seqObj "list" #[] 0)).get? (D + 2) = some (seqObj "list" #[] 0) := by
      rw [← z2]; exact Heap.get?_push_size _ rfl
    have hD0 : ((((s.heap.push (seqObj "list" its.toArray 0)).update D (Obj.mapSeq fun _ => (#[] : Array Value))).push (seqObj "tuple" its.toArray 0)).push (seqObj "list" #[] 0)).get? D = some (seqObj "list" #[] e1) :=
      Heap.get?_push_of_some _ (Heap.get?_push_of_some _ ho1)
    have keep : ∀ b o, s.heap.get? b = some o → ((((s.heap.push (seqObj "list" its.toArray 0)).update D (Obj.mapSeq fun _ => (#[] : Array Value))).push (seqObj "tuple" its.toArray 0)).push (seqObj "list" #[] 0)).get? b = some o := fun b o q => by
      have hlt : b < D := by rw [← hD]; exact Heap.lt_size q
      refine Heap.get?_push_of_some _ (Heap.get?_push_of_some _ ?_)
      rw [Heap.get?_update_ne _ _ _ _ (Nat.ne_of_lt hlt)]
      exact Heap.get?_push_of_some _ q
    rw [z2]
    have hl : its.length = xs.length := rv.length.symm
    generalize hG : ((((s.heap.push (seqObj "list" its.toArray 0)).update D (Obj.mapSeq fun _ => (#[] : Array Value))).push (seqObj "tuple" its.toArray 0)).push (seqObj "list" #[] 0)) = G at hk0 hD0 keep
    show wpAny _ _ (ksk_rest D f false its.toArray e1 (.ref (D + 2))) _ _ { s with heap := G }
    have I0 : Inv X pins σ H { s with heap := G } := I.kept (t' := s.toks) keep
    have fD : FpOk X pins H D := I.fpOk (Nat.le_of_eq hD) (I.hok.fresh (Nat.le_of_eq hD))
    have fS : FpOk X pins H (D + 2) := I.fpOk (by omega) (I.hok.fresh (by omega))
    -- the pins of the two lists
    have pin2 : ∀ {H' : Hp} {s' : Shared} {o : Obj}, Inv X pins σ H' s' → H' D = none → H' (D + 2) = none → s'.heap.get? (D + 2) = some o → o.cls = .type "list" → (∀ v, o.data ≠ .cell v) → s'.heap.get? D = some (seqObj "list" #[] e1) → Inv X (((D + 2, o) : Addr × Obj) :: (D, seqObj "list" #[] e1) :: pins) σ H' s' := by
      intro H' s' o I' n1 n2 h2 _ nc h1
      refine I'.pins_of fun p hp => ?_
      rcases List.mem_cons.mp hp with rfl | hp
      · exact ⟨h2, n2, fS.2.1, fS.2.2.1, nc⟩
      · rcases List.mem_cons.mp hp with rfl | hp
        · exact ⟨h1, n1, fD.2.1, fD.2.2.1, fun v z => by cases z⟩
        · exact I'.pin p (List.mem_append_right _ hp)
    have unp : ∀ {H' : Hp} {s' : Shared} {o : Obj}, Inv X (((D + 2, o) : Addr × Obj) :: (D, seqObj "list" #[] e1) :: pins) σ H' s' → Inv X pins σ H' s' := fun I' => I'.pins_of fun p hp => I'.pin p (List.mem_append_right _ (List.mem_cons_of_mem _ (List.mem_cons_of_mem _ hp)))
    have atp : ∀ {H' : Hp} {s' : Shared} {o : Obj}, Inv X (((D + 2, o) : Addr × Obj) :: (D, seqObj "list" #[] e1) :: pins) σ H' s' → (s'.heap.get? (D + 2) = some o ∧ H' (D + 2) = none ∧ ∀ v, o.data ≠ .cell v) ∧ s'.heap.get? D = some (seqObj "list" #[] e1) ∧ H' D = none := fun I' => by
      have a1 := I'.pin _ (List.mem_append_right _ List.mem_cons_self)
      have a2 := I'.pin _ (List.mem_append_right _ (List.mem_cons_of_mem _ List.mem_cons_self))
      exact ⟨⟨a1.1, a1.2.1, a1.2.2.2.2⟩, a2.1, a2.2.1⟩
    refine rest_ (s := { s with heap := G }) (fun ks o s' => o.cls = .type "list" ∧ ∃ kv H', Vals kv ks ∧ W kv H' ∧ Inv X (((D + 2, o) : Addr × Obj) :: (D, seqObj "list" #[] e1) :: pins) σ H' s') (show (D + 2 : Nat) ≠ D by omega)
      (fun ks o s' ⟨_, kv, H', _, _, I'⟩ => ⟨(atp I').1.1, (atp I').2.1⟩) ?up ?step hz ⟨rfl, [], H, .nil, w0, pin2 I0 fD.1 fS.1 hk0 rfl (fun v z => by cases z) hD0⟩ ?fin
    case up =>
      rintro ks o s' k c ⟨_, kv, H', rk, wk, I'⟩ hc hcl hcd
      obtain ⟨⟨a1, a2, a3⟩, b1, b2⟩ := atp I'
      refine ⟨hcl, kv, H', rk, wk, ?_⟩
      have fS' : FpOk X pins H' (D + 2) := ⟨a2, fS.2⟩
      have I2 : Inv X pins σ H' { s' with heap := s'.heap.update (D + 2) (Obj.mapSeq fun x => x.push k), toks := s'.toks } := (unp I').turnedL (ch := [D + 2]) (fun b u hb hu => by
        have nb : b ≠ D + 2 := fun z => hb (by rw [z]; exact List.mem_singleton.mpr rfl)
        rw [Heap.get?_update_ne _ _ _ _ nb]
        exact hu) fun b hb => by rw [List.mem_singleton.mp hb]; exact fS'
      refine pin2 I2 b2 a2 hc hcl (fun v z => ?_) ?_
      · exact hcd v z
      · show (s'.heap.update (D + 2) _).get? D = _
        rw [Heap.get?_update_ne _ _ _ _ (show (D : Nat) ≠ D + 2 by omega)]
        exact b1
    case step =>
      rintro i u ks o s' hu hl' ⟨hcl, kv, H', rk, wk, I'⟩
      obtain ⟨x, hx, rx⟩ : ∃ x, xs[i]? = some x ∧ RelV x u := by
        have hi : i < xs.length := by rw [← hl]; exact (List.getElem?_eq_some_iff.mp hu).1
        obtain ⟨u', e1, e2⟩ := rv.get (List.getElem?_eq_getElem hi)
        rw [hu] at e1; cases e1
        exact ⟨_, List.getElem?_eq_getElem hi, e2⟩
      refine wpAny_mono (step _ s' H' i x u kv (fun p hp => List.mem_cons_of_mem _ (List.mem_cons_of_mem _ hp)) I' rx hx (by rw [rk.length, hl']) wk) (fun k s'' ⟨kx, H'', rk2, I2, w2⟩ => ?_) fun _ _ e => e
      exact ⟨hcl, kv ++ [kx], H'', rk.append (.cons rk2 .nil), w2, I2⟩
    case fin =>
      rintro ks e s' ⟨_, kv, H', rk, wk, I'⟩ hkl
      obtain ⟨⟨a1, a2, a3⟩, b1, b2⟩ := atp I'
      obtain ⟨ltk, O, h1, h2⟩ := fin _ kv ks H' s' I' rk wk (by rw [rk.length, hkl, hl])
      refine ⟨ltk, O, h1, ?_⟩
      rintro out tk ⟨ps, g1, g2, rfl⟩
      have hp2 : (ps.map (·.2)).Perm its := by
        have q := g2.perm.map (·.2)
        rw [List.map_snd_zip (by omega)] at q
        exact q
      have I2 : Inv X pins σ H' { s' with heap := endH s'.heap D (D + 2) (ps.map (·.2)), toks := tk } := (unp I').turnedL (ch := [D + 2, D]) (fun b u hb hu => by
        unfold endH
        rw [Heap.get?_update_ne _ _ _ _ (fun z => hb (by rw [z]; exact List.mem_cons_of_mem _ (List.mem_singleton.mpr rfl))), Heap.get?_update_ne _ _ _ _ (fun z => hb (by rw [z]; exact List.mem_cons_self))]
        exact hu) fun b hb => by
          rcases List.mem_cons.mp hb with rfl | hb
          · exact ⟨a2, fS.2⟩
          · rw [List.mem_singleton.mp hb]; exact ⟨b2, fD.2⟩
      obtain ⟨c2, hc2⟩ : ∃ c2, (endH s'.heap D (D + 2) (ps.map (·.2))).get? D = some (seqObj "list" (ps.map (·.2)).toArray c2) := by
        have b3 : (s'.heap.update (D + 2) (Obj.mapSeq fun _ => (#[] : Array Value))).get? D = some (seqObj "list" #[] e1) := by
          rw [Heap.get?_update_ne _ _ _ _ (show (D : Nat) ≠ D + 2 by omega)]; exact b1
        exact ⟨_, get?_update_seq b3 fun _ => (ps.map fun x : Keyed => x.2).toArray⟩
      refine ⟨_, rfl, wpAny_pure (hZ _ _ ?_)⟩
      have hv : Vals (ps.map fun q => toV q.2) (ps.map (·.2)) := by
        have q := vals_of (us := ps.map (·.2)) fun u hu => vals_mem rv u (hp2.mem_iff.mp hu)
        rw [List.map_map] at q
        exact q
      refine ⟨.ref D, upd H' D (.lst (ps.map fun q => toV q.2)), ?_, rfl, h2 ps ⟨g1, g2.perm⟩ D b2⟩
      refine I2.track ⟨b2, fD.2⟩ ⟨?_, ps.map (·.2), c2, hv, hc2⟩
      rw [List.length_map, ← List.length_map (f := fun x : Keyed => x.2), hp2.length_eq]
      exact hz
end
end L2

-- part: SK3
namespace L2
open PySem PySem.Spec PyProof.Rows SrtO SrtQ
/-! ### the order of the keys -/
def numV : Value → Int
  | .int i _ => i
  | _ => 0
theorem swo_of {α : Type} (k : Value → α) {lt : α → α → Bool} (O : Swo lt) : Swo fun u v => lt (k u) (k v) := ⟨fun _ _ => O.asym _ _, fun _ _ _ => O.tr _ _ _⟩
theorem swo_int : Swo (fun a b : Int => decide (a < b)) := by
  refine ⟨fun x y h => ?_, fun x y z h1 h2 => ?_⟩
  · have := of_decide_eq_true h
    exact decide_eq_false (by omega)
  · have a := of_decide_eq_false h1
    have b := of_decide_eq_false h2
    exact decide_eq_false (by omega)
section
variable {prog : Program} {w : World} {A : Around} {s : Shared}
theorem ints_kind {ks : List Value} {kz : List Int} (hk : IntsAre ks kz) (h2 : 2 ≤ ks.length) : ∃ κ, (∀ (Q : SortKind → Shared → Prop) (E : Value → Shared → Prop), Q κ s → wpAny (model prog w) A (keyKind' ks.toArray) Q E s) ∧
    Cmp prog w A s κ (fun p => p.1 ∈ ks) (lt2 fun u v => decide (numV u < numV v)) := by
  refine ⟨oneType', fun Q E q => ?_, fun p q hp hq => ?_⟩
  · rw [ksk_kind (kz := kz) (by simpa using hk) (by rw [List.size_toArray]; exact h2)]
    exact wpAny_pure q
  · have at_ : ∀ u ∈ ks, ∃ i t, u = Value.int i t := by
      clear h2 hp hq
      induction hk with
      | nil => intro u hu; exact nomatch hu
      | cons _ _ _ ih =>
        intro u hu
        rcases List.mem_cons.mp hu with rfl | hu
        · exact ⟨_, _, rfl⟩
        · exact ih u hu
    obtain ⟨i, t, e1⟩ := at_ _ hp
    obtain ⟨j, t', e2⟩ := at_ _ hq
    show wpAny _ _ (keyLt' oneType' p.1 q.1) (fun r s' => s' = s ∧ r = decide (numV p.1 < numV q.1)) _ _
    rw [e1, e2]
    exact PySem.W.kat_lt_int ⟨rfl, rfl⟩
end
/-- the tuple at v is (n, c), c a tuple of ints -/
def KeyT (K : PySem.W.Frag) (H : Hp) (v : V) (k : Int × List Int) : Prop := ∃ t c, v = .ref t ∧ SqT K H t [.int k.1, .ref c] ∧ SqT K H c (k.2.map V.int)
def ltKT (a b : Int × List Int) : Bool := if a.1 = b.1 then HT.lexLt a.2 b.2 else decide (a.1 < b.1)
theorem lex_irrefl : ∀ a : List Int, HT.lexLt a a = false
  | [] => rfl
  | x :: a => by rw [HT.lexLt_cons, if_pos rfl]; exact lex_irrefl a
theorem lex_asym : ∀ a b : List Int, HT.lexLt a b = true → HT.lexLt b a = false
  | [], [], h => by cases h
  | [], y :: b, _ => rfl
  | x :: a, [], h => by cases h
  | x :: a, y :: b, h => by
    rw [HT.lexLt_cons] at h ⊢
    by_cases e : x = y
    · rw [if_pos e] at h; rw [if_pos e.symm]; exact lex_asym a b h
    · rw [if_neg e] at h; rw [if_neg (Ne.symm e)]
      have := of_decide_eq_true h
      exact decide_eq_false (by omega)
theorem lex_tr : ∀ a b c : List Int, HT.lexLt a b = false → HT.lexLt c a = false → HT.lexLt c b = false
  | [], [], [], _, _ => rfl
  | [], [], z :: c, _, _ => rfl
  | [], y :: b, _, h, _ => by cases h
  | x :: a, b, [], _, h => by cases h
  | x :: a, [], z :: c, _, _ => rfl
  | x :: a, y :: b, z :: c, h1, h2 => by
    rw [HT.lexLt_cons] at h1 h2 ⊢
    by_cases e1 : x = y
    · rw [if_pos e1] at h1
      by_cases e2 : z = x
      · rw [if_pos e2] at h2
        rw [if_pos (e2.trans e1)]
        exact lex_tr a b c h1 h2
      · rw [if_neg e2] at h2
        rw [if_neg (by rw [← e1]; exact e2)]
        have := of_decide_eq_false h2
        exact decide_eq_false (by omega)
    · rw [if_neg e1] at h1
      have d1 := of_decide_eq_false h1
      by_cases e2 : z = x
      · rw [if_neg (by rw [e2]; exact e1)]
        exact decide_eq_false (by omega)
      · rw [if_neg e2] at h2
        have d2 := of_decide_eq_false h2
        rw [if_neg (by omega)]
        exact decide_eq_false (by omega)
theorem lex_total : ∀ a b : List Int, HT.lexLt a b = false → HT.lexLt b a = false → a = b
  | [], [], _, _ => rfl
  | [], y :: b, h, _ => by cases h
  | x :: a, [], _, h => by cases h
  | x :: a, y :: b, h1, h2 => by
    rw [HT.lexLt_cons] at h1 h2
    by_cases e : x = y
    · rw [if_pos e] at h1; rw [if_pos e.symm] at h2
      rw [e, lex_total a b h1 h2]
    · rw [if_neg e] at h1; rw [if_neg (Ne.symm e)] at h2
      have d1 := of_decide_eq_false h1
      have d2 := of_decide_eq_false h2
      omega
theorem swo_KT : Swo ltKT := by
  refine ⟨fun x y h => ?_, fun x y z h1 h2 => ?_⟩
  · unfold ltKT at *
    by_cases e : x.1 = y.1
    · rw [if_pos e] at h; rw [if_pos e.symm]; exact lex_asym _ _ h
    · rw [if_neg e] at h; rw [if_neg (Ne.symm e)]
      have := of_decide_eq_true h
      exact decide_eq_false (by omega)
  · unfold ltKT at *
    by_cases e1 : y.1 = x.1
    · rw [if_pos e1] at h1
      by_cases e2 : z.1 = y.1
      · rw [if_pos e2] at h2
        rw [if_pos (e2.trans e1)]
        exact lex_tr _ _ _ h1 h2
      · rw [if_neg e2] at h2
        rw [if_neg (by rw [← e1]; exact e2)]
        have := of_decide_eq_false h2
        exact decide_eq_false (by omega)
    · rw [if_neg e1] at h1
      have d1 := of_decide_eq_false h1
      by_cases e2 : z.1 = y.1
      · rw [if_neg (by rw [e2]; exact e1)]
        exact decide_eq_false (by omega)
      · rw [if_neg e2] at h2
        have d2 := of_decide_eq_false h2
        rw [if_neg (by omega)]
        exact decide_eq_false (by omega)
theorem can_intsD : ∀ (l : List Int), PyData.canLayAll0 (l.map PyData.int) = true
  | [] => by simp [PyData.canLayAll0]
  | i :: r => by simp [PyData.canLayAll0, PyData.canLay0, can_intsD r]
theorem dep_intsD : ∀ (l : List Int), PyData.depthAll (l.map PyData.int) ≤ 1
  | [] => by simp [PyData.depthAll]
  | i :: r => by
    have h := dep_intsD r
    simp [PyData.depthAll, PyData.depth] <;> omega
theorem dpAll_ints {K : PySem.W.Frag} {H : Hp} : ∀ (l : List Int), DpAll K H (l.map V.int) (l.map PyData.int)
  | [] => .nil
  | i :: r => .cons (.int i) (dpAll_ints r)
theorem eqvAll_ints : ∀ a b : List Int, PyData.eqvAll (a.map PyData.int) (b.map PyData.int) = decide (a = b)
  | [], [] => by simp [PyData.eqvAll]
  | [], y :: b => by simp [PyData.eqvAll]
  | x :: a, [] => by simp [PyData.eqvAll]
  | x :: a, y :: b => by
    simp only [List.map_cons, PyData.eqvAll, PyData.eqv, eqvAll_ints a b]
    by_cases h : x = y <;> by_cases h2 : a = b <;> simp [h, h2]
section
variable {X : Cx} {pins : List (Addr × Obj)} {σ : St} {H : Hp} {s : Shared} {A : Around}
theorem kt_cmp (I : Inv X pins σ H s) (hu : A.units + 64 < cLine) {u u' : Value} {v v' : V} {k k' : Int × List Int} (ru : RelV v u) (ru' : RelV v' u') (h : KeyT X.K H v k) (h' : KeyT X.K H v' k') :
    wpAny (model X.prog X.w) A (keyLt' (tuples' true) u u') (fun r s' => s' = s ∧ r = ltKT k k') (fun _ _ => False) s := by
  obtain ⟨t, c, rfl, ht, hc⟩ := h
  obtain ⟨t', c', rfl, ht', hc'⟩ := h'
  cases ru
  cases ru'
  obtain ⟨i1, r1, ⟨o1, ho1, hcl1, n1, hd1⟩, _⟩ := I.tuple ht
  obtain ⟨i2, r2, ⟨o2, ho2, hcl2, n2, hd2⟩, _⟩ := I.tuple ht'
  obtain ⟨a1, b1, rfl, ⟨ta, rfl⟩, rb⟩ := vals2 r1
  obtain ⟨a2, b2, rfl, ⟨tb, rfl⟩, rb'⟩ := vals2 r2
  obtain rfl : b1 = Value.ref c := rb
  obtain rfl : b2 = Value.ref c' := rb'
  refine PySem.W.kat_lt ho1 hd1 ho2 hd2 ?_
  show PySem.W.KatLex X.prog X.w A true (decide (2 < 2)) _ [(.int k.1 ta, .int k'.1 tb), (.ref c, .ref c')] 0 s
  unfold ltKT
  refine PySem.W.kat_cons (SeqAt.EqAt.int_int k.1 ta k'.1 tb X.prog X.w _ _ ?_)
  refine PySem.W.kat_go (fun e1 => ?_) (fun e1 => ?_)
  · have ex : k.1 = k'.1 := by simpa using e1
    rw [if_pos ex]
    obtain ⟨as, q1⟩ := Dp.reads I (.tuple (k.2.map .int)) (.ref c) (.ref c) (.tup hc (dpAll_ints _)) rfl
    obtain ⟨bs, q2⟩ := Dp.reads I (.tuple (k'.2.map .int)) (.ref c') (.ref c') (.tup hc' (dpAll_ints _)) rfl
    have cl : ∀ l : List Int, (PyData.tuple (l.map .int)).canLay0 = true := fun l => by simp [PyData.canLay0, can_intsD]
    have dl : ∀ l : List Int, (PyData.tuple (l.map .int)).depth ≤ 2 := fun l => by have := dep_intsD l; simp only [PyData.depth]; omega
    refine PySem.W.kat_yes (PySem.W.kat_cons (PySem.SeqAt.eqBoolOverData X.prog X.w A _ s _ _ _ _ as bs _ q1 q2 (cl _) (cl _) (by have := dl k.2; omega) ?_))
    have ev : PyData.eqv (.tuple (k.2.map .int)) (.tuple (k'.2.map .int)) = decide (k.2 = k'.2) := by
      simp only [PyData.eqv]
      exact eqvAll_ints _ _
    rw [ev]
    refine PySem.W.kat_go (fun e2 => ?_) (fun e2 => ?_)
    · have ey : k.2 = k'.2 := of_decide_eq_true e2
      rw [ey, lex_irrefl]
      exact PySem.W.kat_yes (PySem.W.kat_nil ⟨rfl, rfl⟩)
    · obtain ⟨j1, s1, p1, _⟩ := I.tuple hc
      obtain ⟨j2, s2, p2, _⟩ := I.tuple hc'
      have g1 : IntsAre j1.toArray.toList k.2 := intsAre_of s1
      have g2 : IntsAre j2.toArray.toList k'.2 := intsAre_of s2
      refine PySem.W.kat_no (PySem.W.kat_one _ _ (HT.lt_tupInts p1 p2 g1 g2 (by omega) ?_))
      exact (show s = s ∧ HT.lexLt k.2 k'.2 = HT.lexLt k.2 k'.2 from ⟨rfl, rfl⟩)
  · have ex : ¬ k.1 = k'.1 := by simpa using e1
    rw [if_neg ex]
    exact PySem.W.kat_no (oneLt_int ⟨rfl, rfl⟩)
/-- the kind of such keys -/
theorem kt_kind (I : Inv X pins σ H s) : ∀ {kv : List V} {ks : List Value} {kz : List (Int × List Int)}, Vals kv ks → Paired (KeyT X.K H) kv kz → ∃ fs, PySem.W.KatTups s.heap ks fs ∧ fs.length = ks.length ∧ ∀ v ∈ fs, ∃ i t, v = Value.int i t
  | _, _, _, .nil, .nil => ⟨[], .nil, rfl, fun v h => nomatch h⟩
  | _, _, _, .cons r rs, .cons h hs => by
    obtain ⟨t, c, rfl, ht, hc⟩ := h
    cases r
    obtain ⟨i1, r1, ⟨o1, ho1, hcl1, n1, hd1⟩, _⟩ := I.tuple ht
    obtain ⟨a1, b1, rfl, ⟨ta, rfl⟩, rb⟩ := vals2 r1
    obtain ⟨fs, q1, q2, q3⟩ := kt_kind I rs hs
    refine ⟨_ :: fs, .cons ho1 hcl1 hd1 (f := .int _ ta) rfl q1, by rw [List.length_cons, List.length_cons, q2], fun v hv => ?_⟩
    rcases List.mem_cons.mp hv with rfl | hv
    · exact ⟨_, _, rfl⟩
    · exact q3 v hv
theorem paired_mem {α β : Type} {F : α → β → Prop} : ∀ {l : List α} {m : List β}, Paired F l m → ∀ x ∈ l, ∃ y ∈ m, F x y
  | _, _, .cons h t, x, hx => by
    rcases List.mem_cons.mp hx with rfl | hx
    · exact ⟨_, List.mem_cons_self, h⟩
    · obtain ⟨y, hy, q⟩ := paired_mem t x hx
      exact ⟨y, List.mem_cons_of_mem _ hy, q⟩
theorem KeyT.inj (I : Inv X pins σ H s) {v : V} {k k' : Int × List Int} (h : KeyT X.K H v k) (h' : KeyT X.K H v k') : k = k' := by
  obtain ⟨t, c, rfl, ht, hc⟩ := h
  obtain ⟨t', c', e, ht', hc'⟩ := h'
  cases e
  have e1 := I.tuple_inj ht ht'
  cases k with | mk n l => cases k' with | mk n' l' =>
  simp only [List.cons.injEq, V.int.injEq, V.ref.injEq, and_true] at e1
  obtain ⟨rfl, rfl⟩ := e1
  have e2 := I.tuple_inj hc hc'
  have e3 : l = l' := by
    have : ∀ a b : List Int, a.map V.int = b.map V.int → a = b := fun a b h => (List.map_inj_right (fun x y h => by cases h; rfl)).mp h
    exact this _ _ e2
  rw [e3]
/-- the key of a value, by what stands -/
noncomputable def keyOfV (K : PySem.W.Frag) (H : Hp) (u : Value) : Int × List Int := by
  classical exact if h : ∃ k, KeyT K H (toV u) k then h.choose else (0, [])
theorem keyOfV_eq (I : Inv X pins σ H s) {v : V} {u : Value} {k : Int × List Int} (r : RelV v u) (h : KeyT X.K H v k) : keyOfV X.K H u = k := by
  unfold keyOfV
  have e : ∃ k, KeyT X.K H (toV u) k := ⟨k, by rw [toV_of r]; exact h⟩
  rw [dif_pos e]
  have q : ∀ x, x = v → KeyT X.K H x e.choose → e.choose = k := fun x hx q => KeyT.inj I (hx ▸ q) h
  exact q (toV u) (toV_of r) e.choose_spec
theorem kt_all (I : Inv X pins σ H s) (hu : A.units + 64 < cLine) {kv : List V} {ks : List Value} {kz : List (Int × List Int)} (r : Vals kv ks) (p : Paired (KeyT X.K H) kv kz) (h2 : 2 ≤ ks.length) :
    ∃ κ, (∀ (Q : SortKind → Shared → Prop) (E : Value → Shared → Prop), Q κ s → wpAny (model X.prog X.w) A (keyKind' ks.toArray) Q E s) ∧ Cmp X.prog X.w A s κ (fun p => p.1 ∈ ks) (lt2 fun u v => ltKT (keyOfV X.K H u) (keyOfV X.K H v)) := by
  refine ⟨tuples' true, fun Q E q => ?_, fun a b ha hb => ?_⟩
  · obtain ⟨fs, q1, q2, q3⟩ := kt_kind I r p
    refine PySem.W.kat_kind (T := .type "int") q1 (by omega) (fun f hm => ?_) (by rfl) ?_
    · obtain ⟨x, t, rfl⟩ := q3 f hm
      exact PySem.W.Looks.now
    · have e : (Value.type "int" != Value.type "tuple") = true := by first | decide +kernel | rfl | decide
      rw [e]
      exact q
  · have at_ : ∀ u ∈ ks, ∃ v k, RelV v u ∧ KeyT X.K H v k := fun u hu => by
      have hv := vals_mem r u hu
      have hm : toV u ∈ kv := by rw [vals_toV r]; exact List.mem_map.mpr ⟨u, hu, rfl⟩
      obtain ⟨k, _, q⟩ := paired_mem p _ hm
      exact ⟨_, k, hv, q⟩
    obtain ⟨v, k, r1, q1⟩ := at_ _ ha
    obtain ⟨v', k', r2, q2⟩ := at_ _ hb
    show wpAny _ _ (keyLt' (tuples' true) a.1 b.1) (fun r s' => s' = s ∧ r = ltKT (keyOfV X.K H a.1) (keyOfV X.K H b.1)) _ _
    rw [keyOfV_eq I r1 q1, keyOfV_eq I r2 q2]
    exact kt_cmp I hu r1 r2 q1 q2
end
end L2

-- part: SK4
namespace L2
open PySem PySem.Spec PyProof.Rows SrtO SrtQ
/-- the keys, one by one, then the items by their keys -/
def SortGo (K : PySem.W.Frag) (rel : V → Hp → VK → Prop) (xs : List V) (H1 : Hp) (Q : VK) : Prop := ∃ W : List V → Hp → Prop, W [] H1 ∧
  (∀ i v kv H', xs[i]? = some v → kv.length = i → W kv H' → rel v H' fun k H'' => W (kv ++ [k]) H'') ∧
  ∀ kv H', W kv H' → kv.length = xs.length →
    (∃ kz : List Int, kv = kz.map V.int ∧ ∀ zs : List (Int × V), zs.Perm (kz.zip xs) → zs.Pairwise (fun p q => p.1 ≤ q.1) → ∀ p, H' p = none → Q (.ref p) (upd H' p (.lst (zs.map (·.2))))) ∨
    (∃ kz : List (Int × List Int), Paired (KeyT K H') kv kz ∧ ∀ zs : List ((Int × List Int) × V), zs.Perm (kz.zip xs) → zs.Pairwise (fun p q => ltKT q.1 p.1 = false) → ∀ p, H' p = none → Q (.ref p) (upd H' p (.lst (zs.map (·.2)))))
/-- f is a key: what a call of it promises -/
def KeyRel (X : Cx) (P : List (Addr × Obj)) (f : Value) (rel : V → Hp → VK → Prop) : Prop := ∀ (pins : List (Addr × Obj)) (s : Shared) (σ : St) (H : Hp) (x : V) (u : Value) (Q : VK), (∀ p ∈ P, p ∈ pins) → Inv X pins σ H s → RelV x u → rel x H Q →
  wpAny (model X.prog X.w) X.A.in1.in1 (call f [u]) (EP X pins σ Q) (fun _ _ => False) s
theorem KeyRel.mono {X : Cx} {P P' : List (Addr × Obj)} {f : Value} {rel : V → Hp → VK → Prop} (h : KeyRel X P f rel) (hp : ∀ p ∈ P, p ∈ P') : KeyRel X P' f rel := fun pins s σ H x u Q z => h pins s σ H x u Q fun p q => z p (hp p q)
theorem nums_of {ks : List Value} {kz : List Int} (h : IntsAre ks kz) : ks.map numV = kz := by
  induction h with
  | nil => rfl
  | cons _ _ _ ih => rw [List.map_cons, ih]; rfl
theorem paired_len {α β : Type} {F : α → β → Prop} : ∀ {l : List α} {m : List β}, Paired F l m → l.length = m.length
  | _, _, .nil => rfl
  | _, _, .cons _ t => by rw [List.length_cons, List.length_cons, paired_len t]
theorem vals_at : ∀ {xs : List V} {us : List Value}, xs.length = us.length → (∀ (j : Nat) (u : Value), us[j]? = some u → ∃ x, xs[j]? = some x ∧ RelV x u) → Vals xs us
  | [], [], _, _ => .nil
  | [], _ :: _, h, _ => by simp at h
  | _ :: _, [], h, _ => by simp at h
  | x :: xs, u :: us, h, q => by
    obtain ⟨x', e, r⟩ := q 0 u rfl
    cases e
    exact .cons r (vals_at (by simpa using h) fun j u' hu => q (j + 1) u' hu)
section
variable {X : Cx} {pins : List (Addr × Obj)} {σ : St} {H : Hp} {s : Shared} {f : Value} {its : List Value} {xs : List V} {Q : VK} {rel : V → Hp → VK → Prop}
theorem keys_of {H' : Hp} {s' : Shared} (I : Inv X pins σ H' s') : ∀ {kv : List V} {ks : List Value} {kz : List (Int × List Int)}, Vals kv ks → Paired (KeyT X.K H') kv kz → ks.map (keyOfV X.K H') = kz
  | _, _, _, .nil, .nil => rfl
  | _, _, _, .cons r rs, .cons h hs => by rw [List.map_cons, keyOfV_eq I r h, keys_of I rs hs]
theorem sort_go {E : Value → Shared → Prop} {Z : PySem.Fin → Shared → Prop} (hu : X.A.units + 100 < cLine) (I : Inv X pins σ H s) (rv : Vals xs its) (hz : its.length ≤ sizeLine) (g : SortGo X.K rel xs H Q) (hf : KeyRel X pins f rel)
    (ht : ∀ a : Addr, Builtin.«list.sort» ⟨[.ref a], [(Str.ofString "key", f)]⟩ = ksk_tree a f false) (hZ : ∀ v s', EP X pins σ Q v s' → Z (.done (.ret v)) s') :
    wpAny (model X.prog X.w) X.A.in1 (sortRest its [(Str.ofString "key", f)]) Z E s := by
  obtain ⟨W, w0, w1, w2⟩ := g
  refine sort_part I rv hz W w0 ht (fun a => ksk_l1 _ _) (fun pins' s' H' i x u kv hp I' rx hx hl wk => ?_) (fun pins kv ks H' s' I' rk wk hl => ?_) hZ
  · refine wpAny_mono (hf pins' s' σ H' x u _ hp I' rx (w1 i x kv H' hx hl wk)) (fun k s'' ⟨kx, H'', a, b, c⟩ => ⟨kx, H'', b, a, c⟩) fun _ _ e => e
  · have lk : ks.length = its.length := by rw [← rk.length, hl, rv.length]
    rcases w2 kv H' wk hl with ⟨kz, rfl, q⟩ | ⟨kz, pk, q⟩
    · have ik := intsAre_of rk
      refine ⟨fun u v => decide (numV u < numV v), swo_of numV swo_int, fun h2 => ints_kind ik (by omega), fun ps g p hp => ?_⟩
      have e1 : (ps.map fun z => (numV z.1, toV z.2)).Perm (kz.zip xs) := by
        have q := g.2.map fun z : Value × Value => (numV z.1, toV z.2)
        have e : (ks.zip its).map (fun z : Value × Value => (numV z.1, toV z.2)) = kz.zip xs := by
          rw [vals_toV rv, ← nums_of ik, List.zip_map]
          rfl
        rw [e] at q
        exact q
      have e2 : (ps.map fun z => (numV z.1, toV z.2)).Pairwise (fun p q => p.1 ≤ q.1) := by
        refine List.pairwise_map.mpr (g.1.imp fun h => ?_)
        have := of_decide_eq_false h
        show numV _ ≤ numV _
        omega
      have z := q _ e1 e2 p hp
      rw [List.map_map] at z
      exact z
    · refine ⟨fun u v => ltKT (keyOfV X.K H' u) (keyOfV X.K H' v), swo_of (keyOfV X.K H') swo_KT, fun h2 => kt_all I' (by show X.A.units + 1 + 1 + 64 < _; omega) rk pk (by omega), fun ps g p hp => ?_⟩
      have e1 : (ps.map fun z => (keyOfV X.K H' z.1, toV z.2)).Perm (kz.zip xs) := by
        have q := g.2.map fun z : Value × Value => (keyOfV X.K H' z.1, toV z.2)
        have e : (ks.zip its).map (fun z : Value × Value => (keyOfV X.K H' z.1, toV z.2)) = kz.zip xs := by
          rw [vals_toV rv, ← keys_of I' rk pk, List.zip_map]
          rfl
        rw [e] at q
        exact q
      have e2 : (ps.map fun z => (keyOfV X.K H' z.1, toV z.2)).Pairwise (fun p q => ltKT q.1 p.1 = false) := List.pairwise_map.mpr (g.1.imp fun h => h)
      have z := q _ e1 e2 p hp
      rw [List.map_map] at z
      exact z
/-- the key's function: what the expression gives -/
def KeyOf (X : Cx) (ke : Expr) (f : Value) : Prop := ∀ (pins : List (Addr × Obj)) (s : Shared) (σ : St) (H : Hp) (R : Value → Shared → Prop), Inv X pins σ H s → R f s → wpAny (model X.prog X.w) X.A (eval ke X.env) R X.xe s
theorem key_abs {p : Pos} (hg : Gl X "abs") (hm : X.mg "abs" = none) : KeyOf X (.Name "abs" p) (.builtin "abs") := fun pins s σ H R I h => ld_blt I hg hm (by decide +kernel) h (by decide)
theorem key_def {x : Str} {p : Pos} {q : Addr} (hg : Gl X x) (hm : X.mg x = some (.ref q)) (hd : (x == ("__debug__" : Str)) = false := by decide) : KeyOf X (.Name x p) (.ref q) := fun pins s σ H R I h => ld_glob I hg hm h hd
theorem rel_abs {P : List (Addr × Obj)} : KeyRel X P (.builtin "abs") (fun x H Q => ∃ i, x = .int i ∧ Q (.int (if i < 0 then -i else i)) H) := by
  intro pins s σ H x u Q _ I r h
  obtain ⟨i, rfl, q⟩ := h
  obtain ⟨t, rfl⟩ := r
  exact call_abs_int fun u tk => ⟨.int (if i < 0 then -i else i), H, I.tok _, ⟨_, rfl⟩, q⟩
theorem rel_def {P : List (Addr × Obj)} {k : Nat} {q : Addr} {fd : FuncData} {x : Str} {sp : Sp} (F : FnOk X.prog X.w X.K X.mg X.base CX0 k q fd [x] sp) (hr : Room (k + 2) X.A) (hb : Binds X.K fd [x] []) : KeyRel X P (.ref q) (fun x H Q => sp [x] H Q E0) := by
  intro pins s σ H x u Q _ I r h
  have hl : ([u] ++ ([] : List Value)).length = 1 := rfl
  refine wpAny_call (codeAny_mono (F.run X.A.in1.in1 X.stack s H ⟨[u], []⟩ [u] [x] Q E0 hr.in1.in1 I.env0.in1.in1 (by have := hb s [u] I.kIn (by rfl); exact this) (.cons r .nil) h) fun r s' hq => ?_)
  cases r with
  | error e => exact hq.elim
  | ok fl =>
    cases fl with
    | ret u => exact I.after hq
    | next => exact False.elim hq
    | brk => exact False.elim hq
    | cont => exact False.elim hq
/-! ### sorted(e, key=ke) -/
/-- of a list; of a dict with ints and texts as keys; of one with tuples -/
def rSortL (K : PySem.W.Frag) (rel : V → Hp → VK → Prop) : V → Hp → VK → Prop := fun x H Q => ∃ a xs, x = .ref a ∧ SqL K H a xs ∧ SortGo K rel xs H Q
def rSortD (K : PySem.W.Frag) (rel : V → Hp → VK → Prop) : V → Hp → VK → Prop := fun x H Q => ∃ a kvs, x = .ref a ∧ Rd H a (.dK kvs) ∧ SortGo K rel (kvs.map fun z => kV z.1) H Q
def rSortT (K : PySem.W.Frag) (rel : V → Hp → VK → Prop) : V → Hp → VK → Prop := fun x H Q => ∃ a kvs, x = .ref a ∧ Rd H a (.dT kvs) ∧ ∀ bs, IsKeys H kvs bs → SortGo K rel (bs.map V.ref) H Q
def tSorted (r : V → Hp → VK → Prop) (t : TA) : TE := fun σ H Q => t σ H fun vs H1 => ∃ x, vs = [x] ∧ r x H1 Q
def RunS (X : Cx) (P : List (Addr × Obj)) (f : Value) (r : V → Hp → VK → Prop) : Prop := ∀ (pins : List (Addr × Obj)) (s : Shared) (σ : St) (H : Hp) (x : V) (u : Value) (Q : VK), (∀ p ∈ P, p ∈ pins) → Inv X pins σ H s → RelV x u → r x H Q →
  wpAny (model X.prog X.w) X.A (call (.builtin "sorted") [u] [(Str.ofString "key", f)]) (EP X pins σ Q) X.xe s
theorem pe_sorted {e ke : Expr} {t : TA} {p pos kpos : Pos} {r : V → Hp → VK → Prop} (run : RunS X [] f r) (hk : KeyOf X ke f) (hg : Gl X "sorted") (hm : X.mg "sorted" = none) (ha : PA X [e] t)
    (h1 : backTo pos (starEach [e] X.env) = (false, eval e X.env) :: backTo pos (starEach [] X.env) := by rfl) (hpl : (backTo pos (starEach [e] X.env)).any (·.1) = false := by rfl)
    (hall : (backToKw pos (keywordEach [⟨some "key", ke, kpos⟩] X.env)).all (·.1.isSome) = true := by rfl) (hnone : (backToKw pos (keywordEach [⟨some "key", ke, kpos⟩] X.env)).any (·.1.isNone) = false := by rfl) :
    PE X (.Call (.Name "sorted" p) [e] [⟨some "key", ke, kpos⟩] pos) (tSorted r t) := by
  refine ⟨fun pins s σ H Q I h => ?_⟩
  refine wpAny_Call_Name_kw (ld_blt I hg hm (u := .builtin "sorted") (by decide +kernel) ?_ (by decide))
  refine PyProof.Rows.callWith_kw (thn (ha.run pos pins s σ H _ I h) fun us s1 ⟨vs, H1, I1, r1, x, ex, q1⟩ => ?_) h1 hpl hall hnone
  subst ex
  obtain ⟨u, rfl, ru⟩ := vals1 r1
  show wpAny _ _ (evalAll ((do let v ← eval ke X.env; standAt pos; pure v) :: [])) _ _ s1
  refine wpAny_evalAll_cons (wpAny_bind (hk pins s1 σ H1 _ I1 (wpAny_bind (wpAny_standAt (wpAny_pure ?_)))))
  refine wpAny_evalAll_nil ?_
  exact run pins s1 σ H1 x u Q (fun _ z => nomatch z) I1 ru q1
theorem run_list {P : List (Addr × Obj)} (hu : X.A.units + 100 < cLine) (hf : KeyRel X P f rel) (ht : ∀ a : Addr, Builtin.«list.sort» ⟨[.ref a], [(Str.ofString "key", f)]⟩ = ksk_tree a f false) : RunS X P f (rSortL X.K rel) := by
  intro pins s σ H x u Q hP I r h
  obtain ⟨a, xs, rfl, hs, g⟩ := h
  cases r
  obtain ⟨its, rv, hl, hz⟩ := I.list hs
  have hz' : its.length ≤ sizeLine := by rw [← rv.length]; exact hz
  refine call_function_entry_kw kind_sorted plain_sorted entry_sorted (ksk_s1 _ _) ?_
  unfold Builtin.«sorted»
  refine wpAny_bind (m := checkCount "sorted" 1 1 _) (wpAny_pure ?_)
  refine wpAny_bind (collect_list hl.isList ?_ hz')
  have I1 : Inv X pins σ H { s with heap := (s.heap.push (seqObj "list" #[] 0)).update s.heap.objs.size (Obj.mapSeq (· ++ its.toArray)) } := I.kept (t' := s.toks) fun b o e => by
    rw [Heap.get?_update_ne _ _ _ _ (Nat.ne_of_lt (Heap.lt_size e))]
    exact Heap.get?_push_of_some _ e
  exact sort_go hu I1 rv hz' g (hf.mono hP) ht fun v s' h => ⟨v, rfl, h⟩
theorem run_dict {P : List (Addr × Obj)} (hcalm : X.calm = true) (hu : X.A.units + 100 < cLine) (hf : KeyRel X P f rel) (ht : ∀ a : Addr, Builtin.«list.sort» ⟨[.ref a], [(Str.ofString "key", f)]⟩ = ksk_tree a f false) : RunS X P f (rSortD X.K rel) := by
  intro pins s σ H x u Q hP I r h
  obtain ⟨a, kvs, rfl, hd, g⟩ := h
  cases r
  obtain ⟨z, lo, vs, rel', dd⟩ := dk_rd I.hok hd
  obtain ⟨ep, hat⟩ := dd.dictAt
  have hkeys : vs.map (·.1) = kvs.map (·.1) := rel'.keys.symm
  have hl : vs.length = kvs.length := by
    have e := congrArg List.length hkeys
    rw [List.length_map, List.length_map] at e
    exact e
  refine call_function_entry_kw kind_sorted plain_sorted entry_sorted (ksk_s1 _ _) ?_
  unfold Builtin.«sorted»
  refine wpAny_bind (m := checkCount "sorted" 1 1 _) (wpAny_pure ?_)
  refine wpAny_bind (PySem.W.kdu_collect (A := X.A.in1) (PySem.W.kdl_dict (knd := mixKind X.prog X.w) (kvs := vs) (ep := ep) lo) (I.ok.hd hcalm) hat (by rw [hl]; exact z) fun h' tk acc hk hacc => ?_)
  have hal : acc.toList.length = kvs.length := by rw [Array.length_toList, hacc.1, hl]
  have rv : Vals (kvs.map fun z => kV z.1) acc.toList := vals_at (by rw [List.length_map, hal]) fun j v e => by
    obtain ⟨k, x, e1, e2⟩ := hacc.2 j v (by rw [← Array.getElem?_toList]; exact e)
    have e3 : (vs.map (·.1))[j]? = some k := by rw [List.getElem?_map, e1]; rfl
    rw [hkeys, List.getElem?_map] at e3
    rw [List.getElem?_map]
    cases e4 : kvs[j]? with
    | none => rw [e4] at e3; cases e3
    | some y =>
      rw [e4] at e3
      have e5 : y.1 = k := Option.some.inj e3
      refine ⟨kV y.1, rfl, ?_⟩
      rw [e5]
      exact keyIs_rel e2
  have I1 : Inv X pins σ H { s with heap := h', toks := tk } := I.kept hk
  exact sort_go hu I1 rv (by rw [hal]; exact z) g (hf.mono hP) ht fun v s' h => ⟨v, rfl, h⟩
theorem run_dictT {P : List (Addr × Obj)} (hcalm : X.calm = true) (hu : X.A.units + 100 < cLine) (hf : KeyRel X P f rel) (ht : ∀ a : Addr, Builtin.«list.sort» ⟨[.ref a], [(Str.ofString "key", f)]⟩ = ksk_tree a f false) : RunS X P f (rSortT X.K rel) := by
  intro pins s σ H x u Q hP I r h
  obtain ⟨d, kvs, rfl, hd, g⟩ := h
  cases r
  obtain ⟨z, hs, ks, pr, o, es, ep, ho, hx, hdt, he, hn⟩ := (show ObjOk X.prog X.w H s.heap d (.dT kvs) from hd.ok I.hok)
  have l1 : es.size = ks.length := size_of_entries he
  have l2 : kvs.length = ks.length := Paired.length pr
  refine call_function_entry_kw kind_sorted plain_sorted entry_sorted (ksk_s1 _ _) ?_
  unfold Builtin.«sorted»
  refine wpAny_bind (m := checkCount "sorted" 1 1 _) (wpAny_pure ?_)
  refine wpAny_bind (PySem.W.kdu_collect (A := X.A.in1) (kdl_raw hs hx hdt) (I.ok.hd hcalm) ho (by omega) fun h' tk acc' kp it => ?_)
  have ea : acc'.toList = ks.map fun x => Value.ref x.2.1 := by
    have hl : acc'.toList.length = ks.length := by rw [Array.length_toList, it.1]; exact l1
    apply List.ext_getElem?
    intro j
    rw [List.getElem?_map]
    cases hj : acc'.toList[j]? with
    | none =>
      have h1 := List.getElem?_eq_none_iff.mp hj
      rw [List.getElem?_eq_none (by omega)]
      all_goals rfl
    | some v =>
      obtain ⟨en, hen, hv⟩ := it.2 j v (by rw [← Array.getElem?_toList]; exact hj)
      have qe := entry_at he j
      rw [hen] at qe
      cases hb : ks[j]? with
      | none =>
        rw [hb] at qe
        exact nomatch (show some en = none from qe)
      | some b =>
        rw [hb] at qe
        have e2 : en = entryOfKey (tupleKind (mixKind X.prog X.w)) b := Option.some.inj qe
        rw [hv, e2]
        all_goals rfl
  have eb : acc'.toList = (ks.map fun x => x.2.1).map Value.ref := by rw [ea, List.map_map]; all_goals rfl
  have rv : Vals ((ks.map fun x => x.2.1).map V.ref) acc'.toList := by rw [eb]; exact vals_refs _
  have I1 : Inv X pins σ H { s with heap := h', toks := tk } := I.kept kp
  exact sort_go hu I1 rv (by rw [ea, List.length_map]; omega) (g _ (isKeys_of pr)) (hf.mono hP) ht fun v s' h => ⟨v, rfl, h⟩
end
end L2

-- part: SK5
namespace L2
open PySem PySem.Spec PyProof.Rows SrtO SrtQ LamX
section
variable {X : Cx} {pins : List (Addr × Obj)} {σ : St} {H : Hp} {s : Shared} {xs : List V} {Q : VK}
abbrev lamQ (X : Cx) : Str := X.env.qual ++ "<lambda>"
/-- a lambda of one parameter, no captured names: its call -/
theorem rel_lam {k : Nat} {f c' : Addr} {x : Str} {params : Arguments} {body : Expr} {scope : Scope} {pm ctv : Value} {tb : TE} (S : FnScope [x] [x] scope) (hr : Room (k + 3) X.A)
    (hbind : ∀ u : Value, bindArgs (PySem.W.kla_fn "<lambda>" (lamQ X) params body scope [] pm (.ref c') ctv) ⟨[u], []⟩ = pure [(x, u)])
    (hbody : ∀ (A : Around) (outer : List Env) (s : Shared) (H : Hp), Room k (A.deeper (envOfC (lamQ X) scope s.heap.objs.size f (.ref c'))) → PE (cxOf CX0 X.prog X.w X.K X.mg X.base [x] (lamQ X) scope f (.ref c') A outer s H E0) body tb) :
    KeyRel X [(f, PySem.W.kla_obj "<lambda>" (lamQ X) params body scope [] pm c' ctv)] (.ref f) (fun v H Q => H c' = some (CodeO c' (lamQ X)) ∧ tb [some v] H Q) := by
  intro pins s σ H v u Q hP I r ⟨hc, ht⟩
  have hf : s.heap.get? f = some (PySem.W.kla_obj "<lambda>" (lamQ X) params body scope [] pm c' ctv) := (I.pin _ (List.mem_append_right _ (hP _ List.mem_cons_self))).1
  obtain ⟨⟨oc, vs, t, hoc, hdc, hvc⟩, _, _⟩ := I.hok c' _ hc
  have hr2 : Room (k + 1) X.A.in1.in1 := hr.in1.in1
  have rc : codeAny (model X.prog X.w) X.A.in1.in1 (.call (.ref f) ⟨[u], []⟩) (CR CX0 X.stack X.prog X.w H s Q E0) s := by
    refine PySem.W.kla_callFunE hr2.depth hf rfl S.co S.gen rfl ⟨c', oc, vs, t, rfl, hoc, hdc, hvc⟩ ?_
    rw [hbind]
    have hkind : ∀ y ∈ [x].zip [u], scope.names.lookup y.1 = some .local ∨ (scope.names.lookup y.1 = some .cell ∧ ((cellsFrom (s.heap.objs.size + 1) scope.names []).lookup y.1).isSome = true) := fun ⟨n, v⟩ hy => by
      rcases S.par n (List.of_mem_zip hy).1 with q | q
      · exact .inl q
      · exact .inr ⟨q, PySem.W.cellsFrom_some _ _ _ (.inl q)⟩
    refine wpAny_pure (wpAny_newFunctionEnv_cells S.kind hkind fun env he s1 z => ?_)
    subst he
    refine ⟨I.nolimit.keeps z.toInCall.keep, ?_⟩
    have J : Inv (cxOf CX0 X.prog X.w X.K X.mg X.base [x] (lamQ X) scope f (.ref c') X.A.in1.in1 X.stack s H E0) [] (start [x] [v]) H s1 := inv_start S hr2.hd I.env0.in1.in1 rfl (.cons r .nil) z
    refine PySem.W.kla_codeExpr (wpAny_mono ((hbody _ _ s H (hr2.deeper _)).run [] _ _ H Q J ht) (fun v' s' hq => ?_) fun e s' hq => hq)
    obtain ⟨w', H', J', rv, q⟩ := hq
    exact ⟨w', H', J'.os, J'.bare, J'.base, J'.hok, rv, q⟩
  refine wpAny_call (codeAny_mono rc fun r s' hq => ?_)
  cases r with
  | error e => exact hq.elim
  | ok fl =>
    cases fl with
    | ret u => exact I.after hq
    | next => exact False.elim hq
    | brk => exact False.elim hq
    | cont => exact False.elim hq
/-- sorted(e, key=lambda x: body) -/
def tSortedLam (X : Cx) (T : List (Addr × Str)) (r : Addr → V → Hp → VK → Prop) (t : TA) : TE := fun σ H Q => t σ H fun vs H1 => ∃ x, vs = [x] ∧ Tabs T H1 ∧ ∀ c' H2, ExtN H1 H2 → Tabs T H2 → H2 c' = some (CodeO c' (lamQ X)) → r c' x H2 Q
theorem pe_sortedLam {e : Expr} {t : TA} {p pos kpos lpos : Pos} {r : Addr → V → Hp → VK → Prop} {T : List (Addr × Str)} {c P : Addr} {params : Arguments} {body : Expr} {scope : Scope}
    (run : ∀ (f c' : Addr) (pm ctv : Value), RunS X [(f, PySem.W.kla_obj "<lambda>" (lamQ X) params body scope [] pm c' ctv)] (.ref f) (r c')) (TB : TabB X.base X.mg c P) (hcode : X.env.code = .ref c)
    (hT : (P, lamQ X) ∈ T) (hu : ∀ p ∈ T, p.1 = P → p.2 = lamQ X) (hcl : cloFrom X.env.cells scope.names [] = []) (hfree : ∀ y ∈ scope.names, y.2 ≠ .free)
    (hg : Gl X "sorted") (hm : X.mg "sorted" = none) (ha : PA X [e] t) (hdef : defaultsOf params X.env = ([], []) := by rfl)
    (h1 : backTo pos (starEach [e] X.env) = (false, eval e X.env) :: backTo pos (starEach [] X.env) := by rfl) (hpl : (backTo pos (starEach [e] X.env)).any (·.1) = false := by rfl)
    (hall : (backToKw pos (keywordEach [⟨some "key", .Lambda params body scope lpos, kpos⟩] X.env)).all (·.1.isSome) = true := by rfl) (hnone : (backToKw pos (keywordEach [⟨some "key", .Lambda params body scope lpos, kpos⟩] X.env)).any (·.1.isNone) = false := by rfl) :
    PE X (.Call (.Name "sorted" p) [e] [⟨some "key", .Lambda params body scope lpos, kpos⟩] pos) (tSortedLam X T r t) := by
  refine ⟨fun pins s σ H Q I h => ?_⟩
  refine wpAny_Call_Name_kw (ld_blt I hg hm (u := .builtin "sorted") (by decide +kernel) ?_ (by decide))
  refine PyProof.Rows.callWith_kw (thn (ha.run pos pins s σ H _ I h) fun us s1 ⟨vs, H1, I1, r1, x, ex, hTab, q1⟩ => ?_) h1 hpl hall hnone
  subst ex
  obtain ⟨u, rfl, ru⟩ := vals1 r1
  show wpAny _ _ (evalAll ((do let v ← eval (.Lambda params body scope lpos) X.env; standAt pos; pure v) :: [])) _ _ s1
  refine wpAny_evalAll_cons (wpAny_bind (lam_make2 I1 TB hcode hT hu hTab hdef (fun y hy e => absurd e (hfree y hy)) fun f c' pm ctv H2 s2 I2 e2 t2 hf nf nfr hc => wpAny_bind (wpAny_standAt (wpAny_pure ?_))))
  refine wpAny_evalAll_nil ?_
  rw [hcl] at hf
  have nL : f ≠ X.env.locals := fun z => by
    obtain ⟨m, ⟨o, es, ep, ho, hd, _⟩, _⟩ := I2.loc
    rw [z, ho] at hf; cases hf
    cases hd
  have nF : f ∉ X.fs := fun z => nfr (by
    rcases I2.ok.stk with e | ⟨e, hfr⟩
    · rw [e]; exact z
    · rw [e]
      show f ∈ frs (X.env :: X.outer)
      unfold frs
      rw [List.filterMap_cons, hfr]
      exact List.mem_cons_of_mem _ z)
  have I3 : Inv X ((f, PySem.W.kla_obj "<lambda>" (lamQ X) params body scope [] pm c' ctv) :: pins) σ H2 s2 := I2.pins_of fun p hp => by
    rcases List.mem_cons.mp hp with rfl | hp
    · exact ⟨hf, nf, nL, nF, fun v z => by cases z⟩
    · exact I2.pin p (List.mem_append_right _ hp)
  refine thn (run f c' pm ctv _ s2 σ H2 x u Q (fun p hp => by rw [List.mem_singleton.mp hp]; exact List.mem_cons_self) I3 ru (q1 c' H2 e2 t2 hc)) fun v s3 ⟨y, H3, I4, r4, q4⟩ => ?_
  exact ⟨y, H3, I4.pins_of fun p hp => I4.pin p (List.mem_append_right _ (List.mem_cons_of_mem _ hp)), r4, q4⟩
end
end L2

-- part: TY1
namespace L2
open PySem PySem.Spec PyProof.Rows
/-- the built-in classes that are compared -/
def Kn (n : String) : Prop := n = "int" ∨ n = "str" ∨ n = "bool" ∨ n = "NoneType" ∨ n = "list" ∨ n = "tuple" ∨ n = "dict" ∨ n = "bytes"
theorem Kn.is {n : String} (h : Kn n) (s : Shared) : s.TypeIs (.type n) "type" := by
  rcases h with rfl | rfl | rfl | rfl | rfl | rfl | rfl | rfl
  · exact TypeEq.meta_int s
  · exact TypeEq.meta_str s
  · exact TypeEq.meta_bool s
  · exact TypeEq.meta_NoneType s
  · exact TypeEq.meta_list s
  · exact TypeEq.meta_tuple s
  · exact TypeEq.meta_dict s
  · exact TypeEq.meta_bytes s
theorem Kn.ty {K : PySem.W.Frag} {H : Hp} {x : V} {T : String} (t : TyB K H x T) : Kn T := by cases t <;> simp [Kn]
theorem eqAt_ty {a b : String} (ha : Kn a) (hb : Kn b) (A : Around) (s : Shared) : SeqAt.EqAt A s (.type a) (.type b) (decide (a = b)) := by
  intro prog w E Q q
  by_cases e : a = b
  · subst e
    rw [decide_eq_true rfl] at q
    unfold eqBool
    refine wpAny_holding ?_
    rw [if_pos (by simp)]
    exact wpAny_bind (wpAny_rule (wpAny_pure q))
  · rw [decide_eq_false e] at q
    have hb' : (Value.type a == Value.type b) = false := by rw [ty_beq]; exact decide_eq_false e
    unfold eqBool
    refine wpAny_holding ?_
    rw [if_neg (by rw [hb']; decide)]
    refine wpAny_bind (wpAny_mono (TypeEq.eq_type_other (fun s' => ha.is s') (fun s' => hb.is s') hb' (Q := fun v s' => v = .bool false ∧ Q false s') ⟨rfl, q⟩) (fun v s' hv => ?_) fun _ _ x => x)
    obtain ⟨rfl, q⟩ := hv
    exact wpAny_truthy_bool q
section
variable {X : Cx}
theorem op_eqTy : OpR X (compareOp .Eq) (fun x y H Q => ∃ a b, x = .ty a ∧ y = .ty b ∧ Kn a ∧ Kn b ∧ Q (.bl (decide (a = b))) H) := by
  intro pins s σ H x y v u Q I rx ry h
  obtain ⟨a, b, rfl, rfl, ka, kb, q⟩ := h
  cases rx
  cases ry
  by_cases e : a = b
  · subst e
    rw [decide_eq_true rfl] at q
    exact TypeEq.eq_type_same (fun s' => ka.is s') ⟨.bl true, H, I, rfl, q⟩
  · rw [decide_eq_false e] at q
    exact TypeEq.eq_type_other (fun s' => ka.is s') (fun s' => kb.is s') (by rw [ty_beq]; exact decide_eq_false e) ⟨.bl false, H, I, rfl, q⟩
theorem op_neTy : OpR X (compareOp .NotEq) (fun x y H Q => False) := fun _ _ _ _ _ _ _ _ _ _ _ _ h => h.elim
theorem vals_tys : ∀ {bs : List String} {us : List Value}, Vals (bs.map V.ty) us → us = bs.map Value.type
  | [], _, .nil => rfl
  | b :: bs, _, .cons r t => by
    cases r
    rw [vals_tys t]; rfl
theorem op_inTy : OpR X (compareOp .In) (fun x y H Q => ∃ (a : String) (p : Addr) (bs : List String), x = .ty a ∧ y = .ref p ∧ SqT X.K H p (bs.map V.ty) ∧ Kn a ∧ (∀ b ∈ bs, Kn b) ∧ Q (.bl (bs.contains a)) H) := by
  intro pins s σ H x y v u Q I rx ry h
  obtain ⟨a, p, bs, rfl, rfl, hq, ka, kb, q⟩ := h
  cases rx
  cases ry
  obtain ⟨its, r, pl, hz⟩ := I.tuple hq
  have e := vals_tys r
  subst e
  refine SeqAt.in_tupleAt (fun y => match y with | .type n => decide (n = a) | _ => false) pl (fun y hy => ?_) ⟨.bl _, H, I, rfl, ?_⟩
  · have hy' : y ∈ bs.map Value.type := by simpa using hy
    obtain ⟨b, hb, rfl⟩ := List.mem_map.mp hy'
    exact eqAt_ty (kb b hb) ka _ _
  · have e2 : ((bs.map Value.type).toArray.any fun y => match y with | .type n => decide (n = a) | _ => false) = bs.contains a := by
      rw [List.any_toArray, List.any_map]
      rw [List.contains_eq_any_beq]
      congr 1
      funext n
      show decide (n = a) = (a == n)
      by_cases h : n = a
      · simp [h]
      · rw [decide_eq_false h]
        exact (beq_eq_false_iff_ne.mpr (Ne.symm h)).symm
    rw [e2]
    exact q
end
/-- walked as this or as that -/
def iOr (w1 w2 : TI) : TI := fun σ H R => w1 σ H R ∨ w2 σ H R
theorem pi_or {X : Cx} {tg it : Expr} {w1 w2 : TI} (h1 : PI X tg it w1) (h2 : PI X tg it w2) : PI X tg it (iOr w1 w2) :=
  ⟨fun pins s σ H R I h => h.elim (fun h => h1.run pins s σ H R I h) fun h => h2.run pins s σ H R I h⟩
end L2

-- part: EN1
/-! enumerate of a tuple -/
namespace EnT
open PySem
open PySem.AutoSeq1 (wpAny_loadPart')
theorem made (l : Addr) (items : Array Value) (n : Nat) (dct : Option Addr) (sl : Array (Option Value)) :
    Meets (Builtin.«enumerate.__new__» ⟨[.type "enumerate", .ref l], []⟩) (fun _ R s => s.heap.get? l = some { cls := .type "tuple", dict := dct, data := .seq items n, slots := sl } ∧
      R (.ok (.ret (.ref (s.heap.push { cls := .type "tuple_iterator", data := .fields #[.ref l, .int 0 0] }).objs.size)))
        { s with heap := (s.heap.push { cls := .type "tuple_iterator", data := .fields #[.ref l, .int 0 0] }).push { cls := .type "enumerate", data := .fields #[.none, .bool false, .ref s.heap.objs.size, rawInt 0, .none, .none] } }) :=
  .of_wp fun prog w A R s h => by
    obtain ⟨hp, g, d, tk, os⟩ := s
    obtain ⟨hl, h⟩ := h
    have hsub := sub_enumerate
    have hL : Heap.IsTuple (Shared.heap ⟨hp, g, d, tk, os⟩) l items := ⟨_, hl, rfl, n, rfl⟩
    wp_walk using wpAny_loadPart' hl
    refine wpAny_stack_any fun st => wpAny_pure ?_
    split
    · rename_i c _ _ _ _ _
      cases (c == Value.type "enumerate")
      · wp_walk using wpAny_loadPart' hl, wpAny_pyIter_tuple hL
        exact ⟨_, rfl, h⟩
      · wp_walk using wpAny_loadPart' hl, wpAny_pyIter_tuple hL
        exact ⟨_, rfl, h⟩
    · wp_walk using wpAny_loadPart' hl, wpAny_pyIter_tuple hL
      exact ⟨_, rfl, h⟩
section
variable {prog : Program} {w : World} {A : Around} {E : Value → Shared → Prop} {s : Shared}
theorem call_enum {l : Addr} {items : Array Value} {Q : Value → Shared → Prop} (hL : s.heap.IsTuple l items)
    (h : ∀ h', IsEnum h' (s.heap.objs.size + 1) s.heap.objs.size 0 .none → h'.IsTupleIter s.heap.objs.size l 0 → (∀ b o, s.heap.get? b = some o → h'.get? b = some o) → Q (.ref (s.heap.objs.size + 1)) { s with heap := h' }) :
    wpAny (model prog w) A (call (.type "enumerate") [.ref l]) Q E s := by
  obtain ⟨⟨c, dct, dt, sl⟩, hl, hc, n, hd⟩ := hL
  obtain rfl : c = .type "tuple" := hc
  obtain rfl : dt = .seq items n := hd
  refine callType_new F.called_enumerate (by decide) (F.typeCall_enumerate_1 _) (F.newCall_enumerate_1 _) (fun obj => F.args_object_init_2 obj _) F.entry_enumerate_new (made l items n dct sl) ⟨hl, ?_⟩
  have hz : (s.heap.push { cls := .type "tuple_iterator", data := .fields #[.ref l, .int 0 0] }).objs.size = s.heap.objs.size + 1 := Heap.size_push ..
  have q := Heap.get?_push_size (s.heap.push { cls := .type "tuple_iterator", data := .fields #[.ref l, .int 0 0] }) (o := { cls := .type "enumerate", data := .fields #[.none, .bool false, .ref s.heap.objs.size, rawInt 0, .none, .none] }) rfl
  rw [hz] at q
  show _ ∧ _
  rw [hz]
  exact ⟨⟨_, q, rfl⟩, h _ q ⟨_, Heap.get?_push_of_some _ (Heap.get?_push_size _ rfl), rfl, rfl⟩ fun b o x => Heap.get?_push_of_some _ (Heap.get?_push_of_some _ x)⟩
/-- one turn: y, the iterator below, hands out x -/
theorem next_item {e it l : Addr} {i : Nat} {items : Array Value} {x old : Value} {Q : Option Value → Shared → Prop}
    (he : IsEnum s.heap e it i old) (hit : s.heap.IsTupleIter it l i) (hl : s.heap.IsTuple l items) (hx : items[i]? = some x) (hne : e ≠ it)
    (hQ : ∀ h', IsEnumOut h' e it ((i : Int) + 1) x s.heap.objs.size → h'.IsTupleIter it l (i + 1) → h'.get? s.heap.objs.size = some { cls := .type "tuple", data := .seq #[.int i s.toks, x] } →
      (∀ b o, b ≠ e → b ≠ it → s.heap.get? b = some o → h'.get? b = some o) → Q (some (.ref s.heap.objs.size)) { s with heap := h', toks := s.toks + 1 }) :
    wpAny (model prog w) A (pyNext (.ref e)) Q E s := by
  have hT : s.TypeIs (.ref e) "enumerate" := ⟨_, he, rfl⟩
  unfold pyNext
  refine wpAny_bind (wpAny_attempt (wpAny_callSpecial?_slot (name := Str.ofString "__next__") hT F.slot_enumerate_next (wpAny_call_entry F.slot_enumerate_next hT F.entry_enumerate_next ?_ (F.args_enumerate_next_1 _))))
  obtain ⟨hp, g, d, tk, os⟩ := s
  show wpAny _ _ (field (.ref e) 2 >>= _) _ _ _
  refine wpAny_bind (wpAny_field he rfl (x := .ref it) rfl (wpAny_bind (RZ.nextOf_tuple_item hit hl hx fun h1 hit1 k1 => ?_)))
  have k1 : Heap.SameBut it hp h1 := k1
  have he1 : IsEnum h1 e it i old := (k1.2 e hne).trans he
  show wpAny _ _ (field (.ref e) 3 >>= _) _ _ ⟨h1, g, d, tk, os⟩
  refine wpAny_bind (wpAny_field he1 rfl (x := rawInt i) rfl ?_)
  show wpAny _ _ (field (.ref e) 4 >>= _) _ _ ⟨h1, g, d, tk, os⟩
  refine wpAny_bind (wpAny_field he1 rfl (x := .none) rfl ?_)
  show wpAny _ _ (mkInt i >>= _) _ _ ⟨h1, g, d, tk, os⟩
  refine wpAny_bind (wpAny_mkInt ?_)
  refine wpAny_bind (wpAny_setField_rec (s := ⟨h1, g, d, tk + 1, os⟩) he1 (by simp) fun h2 he2 k2 => ?_)
  have k2 : Heap.SameBut e h1 h2 := k2
  have he2 : IsEnum h2 e it ((i : Int) + 1) old := he2
  refine wpAny_bind (wpAny_setField_rec (s := ⟨h2, g, d, tk + 1, os⟩) he2 (by simp) fun h3 he3 k3 => ?_)
  have k3 : Heap.SameBut e h2 h3 := k3
  have he3 : IsEnum h3 e it ((i : Int) + 1) old := he3
  have z3 : h3.objs.size = hp.objs.size := by rw [k3.1, k2.1, k1.1]
  have hel : e < hp.objs.size := Heap.lt_size he
  show wpAny _ _ (newTuple [.int i tk, x] >>= _) _ _ ⟨h3, g, d, tk + 1, os⟩
  refine wpAny_bind (wpAny_newTuple ?_)
  have he4 : IsEnum (h3.push { cls := .type "tuple", data := .seq #[.int i tk, x] }) e it ((i : Int) + 1) old := Heap.get?_push_of_some _ he3
  have ht4 : (h3.push { cls := .type "tuple", data := .seq #[.int i tk, x] }).get? hp.objs.size = some { cls := .type "tuple", data := .seq #[.int i tk, x] } := by rw [← z3]; exact Heap.get?_push_size _ rfl
  have kk : ∀ b o, b ≠ e → b ≠ it → hp.get? b = some o → (h3.push { cls := .type "tuple", data := .seq #[.int i tk, x] }).get? b = some o := fun b o n1 n2 q =>
    Heap.get?_push_of_some _ (k3.extBut b o n1 (k2.extBut b o n1 (k1.extBut b o n2 q)))
  have hit4 : (h3.push { cls := .type "tuple", data := .seq #[.int i tk, x] }).IsTupleIter it l (i + 1) := by
    obtain ⟨o, ho, r⟩ := (hit1.extBut k2.extBut (Ne.symm hne)).extBut k3.extBut (Ne.symm hne)
    exact ⟨o, Heap.get?_push_of_some _ ho, r⟩
  rw [z3]
  generalize h3.push { cls := .type "tuple", data := .seq #[.int i tk, x] } = h4 at he4 ht4 kk hit4
  show wpAny _ _ (Builtin.SmallTypes.ownedTupleIsFree (.ref e) >>= _) _ _ ⟨h4, g, d, tk + 1, os⟩
  refine wpAny_bind ?_
  unfold Builtin.SmallTypes.ownedTupleIsFree
  refine wpAny_bind (wpAny_field he4 rfl (x := .none) rfl (wpAny_pure ?_))
  simp only [if_true]
  refine wpAny_bind (wpAny_rule (wpAny_bind (wpAny_field he4 rfl (x := old) rfl ?_)))
  refine wpAny_bind (wpAny_setField_rec (s := ⟨h4, g, d, tk + 1, os⟩) he4 (by simp) fun h5 he5 k5 => ?_)
  have k5 : Heap.SameBut e h4 h5 := k5
  have he5 : IsEnum h5 e it ((i : Int) + 1) x := he5
  show wpAny _ _ (Builtin.SmallTypes.ownedTupleHandOut (.ref e) (.ref hp.objs.size) >>= _) _ _ ⟨h5, g, d, tk + 1, os⟩
  refine wpAny_bind ?_
  unfold Builtin.SmallTypes.ownedTupleHandOut
  refine wpAny_bind (wpAny_setField_rec he5 (by simp) fun h6 he6 k6 => ?_)
  have k6 : Heap.SameBut e h5 h6 := k6
  have he6 : IsEnumOut h6 e it ((i : Int) + 1) x hp.objs.size := he6
  refine wpAny_setField_rec he6 (by simp) fun h7 he7 k7 => ?_
  have k7 : Heap.SameBut e h6 h7 := k7
  have he7 : IsEnumOut h7 e it ((i : Int) + 1) x hp.objs.size := he7
  refine wpAny_bind (wpAny_letGo (wpAny_pure ⟨_, rfl, wpAny_pure (hQ h7 he7 ?_ ?_ ?_)⟩))
  · exact ((hit4.extBut k5.extBut (Ne.symm hne)).extBut k6.extBut (Ne.symm hne)).extBut k7.extBut (Ne.symm hne)
  · exact k7.extBut _ _ (Nat.ne_of_gt hel) (k6.extBut _ _ (Nat.ne_of_gt hel) (k5.extBut _ _ (Nat.ne_of_gt hel) ht4))
  · exact fun b o n1 n2 q => k7.extBut b o n1 (k6.extBut b o n1 (k5.extBut b o n1 (kk b o n1 n2 q)))
theorem next_end {e it l : Addr} {i : Nat} {items : Array Value} {old : Value} {Q : Option Value → Shared → Prop} (hh : A.handled = none)
    (he : IsEnum s.heap e it i old) (hit : s.heap.IsTupleIter it l i) (hl : s.heap.IsTuple l items) (hx : items[i]? = none)
    (hQ : ∀ h', Heap.ExtBut it s.heap h' → Q none { s with heap := h' }) : wpAny (model prog w) A (pyNext (.ref e)) Q E s := by
  have hT : s.TypeIs (.ref e) "enumerate" := ⟨_, he, rfl⟩
  unfold pyNext
  refine wpAny_bind (wpAny_attempt (wpAny_callSpecial?_slot (name := Str.ofString "__next__") hT F.slot_enumerate_next (wpAny_call_entry F.slot_enumerate_next hT F.entry_enumerate_next ?_ (F.args_enumerate_next_1 _))))
  show wpAny _ _ (field (.ref e) 2 >>= _) _ _ _
  refine wpAny_bind (wpAny_field he rfl (x := .ref it) rfl (wpAny_bind (RZ.nextOf_tuple_end hh hit hl hx fun h' y ke hy => ?_)))
  obtain ⟨o, ho, hc⟩ := hy
  exact wpAny_bind (wpAny_isInstance (T := "StopIteration") (b := true) ⟨o, ho, hc⟩ isSubtype_stop (wpAny_pure (hQ _ ke)))
end
end EnT
namespace L2
open PySem PySem.Spec PyProof.Rows
/-- the tuple at a, each item in a new pair -/
def IteT (K : PySem.W.Frag) (a : Addr) : It :=
  ⟨fun i H => ∃ (xs : List V) (x : V), SqT K H a xs ∧ xs[i]? = some x, fun i H v H' => ∃ T x, v = .ref T ∧ H T = none ∧ H' = upd H T (.tup [.int (i : Nat), x]) ∧ ∀ xs, SqT K H a xs → xs[i]? = some x, fun i H => ∃ xs : List V, SqT K H a xs ∧ xs.length ≤ i⟩
theorem turn_enumT {P : Program} {w : World} {K : PySem.W.Frag} {elts : List Expr} {kk : Nat} {tpos : Pos} (a e it : Addr) :
    Turn P w K (.Tuple elts kk tpos) (IteT K a) [e, it] e (fun i h => (∃ old, IsEnum h e it ((i : Nat) : Int) old) ∧ h.IsTupleIter it a i ∧ e ≠ it) where
  mem := by simp
  obj := fun i h ⟨⟨old, he⟩, ⟨o, ho, hc, hd⟩, _⟩ b hb => by
    rcases (show b = e ∨ b = it by simpa using hb) with z | z
    · rw [z]; exact ⟨_, he, fun v q => nomatch q⟩
    · rw [z]; exact ⟨o, ho, fun v q => by rw [hd] at q; cases q⟩
  keep := fun i h h' st k => let ⟨⟨old, he⟩, hi, hne⟩ := st; ⟨⟨old, k e (by simp) _ he⟩, hi.at fun o q => k it (by simp) o q, hne⟩
  item := by
    intro X hP hw hK hc i pins s σ H E I hf st hg
    subst hP hw hK
    obtain ⟨⟨old, he⟩, hit, hne⟩ := st
    obtain ⟨xs, x, hq, hx⟩ := hg
    obtain ⟨its, rv, p, hz⟩ := I.tuple hq
    obtain ⟨u, hu, ru⟩ := rv.get hx
    have hel : e < s.heap.objs.size := Heap.lt_size he
    have hil : it < s.heap.objs.size := by obtain ⟨_, q, _⟩ := hit; exact Heap.lt_size q
    refine EnT.next_item he hit p (x := u) (by simpa using hu) hne fun h' ho hit' hT hk => ?_
    refine ⟨_, rfl, wpAny_letOwnedTupleGo_enum (s := { s with heap := h', toks := s.toks + 1 }) ho fun h2 he2 sb => ?_⟩
    have hT2 : h2.get? s.heap.objs.size = some { cls := .type "tuple", data := .seq #[.int i s.toks, u] } := (sb.2 _ (Nat.ne_of_gt hel)).trans hT
    have I1 : Inv X pins σ (upd H s.heap.objs.size (.tup [.int (i : Nat), x])) { s with heap := h2, toks := s.toks + 1 } :=
      I.turnedNew (ch := [e, it]) (fun b ob hb q => (sb.2 b (fun z => hb (by simp [z]))).trans (hk b ob (fun z => hb (by simp [z])) (fun z => hb (by simp [z])) q)) hf (Nat.le_refl _)
        ⟨by show 2 ≤ sizeLine; decide, [.int i s.toks, u], .cons ⟨_, rfl⟩ (.cons ru .nil), ⟨_, hT2, rfl, _, rfl⟩⟩
    refine ⟨.ref s.heap.objs.size, _, I1, rfl, ⟨_, x, rfl, I.hok.fresh (Nat.le_refl _), rfl, fun ys hy => by rw [I.tuple_inj hy hq]; exact hx⟩, ⟨⟨u, ?_⟩, hit'.at fun o q => (sb.2 it (Ne.symm hne)).trans q, hne⟩, fun b hb => ?_⟩
    · rw [show ((i + 1 : Nat) : Int) = (i : Int) + 1 by omega]
      exact he2
    · have hb' : b < s.heap.objs.size := by
        rcases (show b = e ∨ b = it by simpa using hb) with z | z
        · rw [z]; exact hel
        · rw [z]; exact hil
      rw [upd_ne (Nat.ne_of_lt hb')]
      exact (hf b hb).1
  done := by
    intro X hP hw hK hc i pins s σ H E I hf st hg
    subst hP hw hK
    obtain ⟨⟨old, he⟩, hit, hne⟩ := st
    obtain ⟨xs, hq, hx⟩ := hg
    obtain ⟨its, rv, p, hz⟩ := I.tuple hq
    obtain ⟨f0, f1, f2, f3, f4, f5⟩ := hf it (by simp)
    have hl := rv.length
    exact EnT.next_end (I.ok.hd hc) he hit p (by simp; omega) fun h' eb => ⟨rfl, I.turned (t' := s.toks) (fun b o hb q => eb b o hb q) f0 f1 f3 f4 f5⟩
  self := fun A i s Q E st h => let ⟨⟨_, he⟩, _⟩ := st; wpAny_pyIter_enum he h
def iEnumT (K : PySem.W.Frag) (ta : TA) : TI := fun σ H R => ta σ H fun vs H1 => ∃ a xs, vs = [.ref a] ∧ SqT K H1 a xs ∧ R (IteT K a) H1
theorem pi_enumT {X : Cx} {e : Expr} {ta : TA} {p pos tpos : Pos} {elts : List Expr} {kk : Nat} (hg : Gl X "enumerate") (hm : X.mg "enumerate" = none) (ha : PA X [e] ta) (hs : starEach [e] X.env = [(false, eval e X.env)] := by rfl) :
    PI X (.Tuple elts kk tpos) (.Call (.Name "enumerate" p) [e] [] pos) (iEnumT X.K ta) := by
  refine ⟨fun pins s σ H R I h => ?_⟩
  refine Call_ (ld_blt I hg hm boot_enumerate (PyProof.Rows.callWith_type1 (thn (ha.run pos pins s σ H _ I h) fun us s1 ⟨vs, H1, I1, r1, a, xs, ex, hq, q⟩ => ?_) hs rfl))
  subst ex
  obtain ⟨u, rfl, ru⟩ := vals1 r1
  cases ru
  obtain ⟨its, rv, p', hz⟩ := I1.tuple hq
  refine EnT.call_enum p' fun h' he hit hk => wpAny_pyIter_enum he ?_
  refine ⟨s1.heap.objs.size + 1, [s1.heap.objs.size + 1, s1.heap.objs.size], _, _, H1, rfl, I1.kept (t' := s1.toks) hk, turn_enumT a (s1.heap.objs.size + 1) s1.heap.objs.size, ⟨⟨.none, he⟩, hit, Nat.succ_ne_self _⟩, fun b hb => ?_, q⟩
  have hle : s1.heap.objs.size ≤ b := by
    rcases (show b = s1.heap.objs.size + 1 ∨ b = s1.heap.objs.size by simpa using hb) with z | z
    · rw [z]; exact Nat.le_add_right _ _
    · rw [z]; exact Nat.le_refl _
  exact I1.fpOk hle (I1.hok.fresh hle)
/-- for the loop over such pairs: the turn -/
theorem for_enumA {xs : List V} {J : It} {g : TG} {tb : TS} {D : Ends} {σ : St} {H : Hp} (S : Hp → Prop) (hgo : ∀ i H, S H → i < xs.length → J.go i H) (hst : ∀ H, S H → J.stop xs.length H)
    (hy : ∀ i H y H', S H → J.yld i H y H' → ∃ T x, y = V.ref T ∧ H T = none ∧ H' = upd H T (.tup [.int (i : Nat), x]) ∧ xs[i]? = some x)
    (Pv : Nat → St → Hp → Prop) (h0 : Pv 0 σ H) (hl : ∀ i σ H, i ≤ xs.length → Pv i σ H → S H)
    (hs : ∀ i x T σ H, xs[i]? = some x → Pv i σ H → H T = none → g (.ref T) σ (upd H T (.tup [.int (i : Nat), x])) fun σ2 H2 => tb { D with nx := Pv (i + 1), ct := Pv (i + 1), bk := D.nx } σ2 H2) (hd : ∀ σ H, Pv xs.length σ H → D.nx σ H) :
    ∃ W : Nat → Nat → St → Hp → Prop, (∃ m, W 0 m σ H) ∧ ∀ i m σ H, W i m σ H →
      (J.stop i H ∧ D.nx σ H) ∨ (J.go i H ∧ ∃ N : St → Hp → Prop, (∀ σ' H', N σ' H' → ∃ m', m' < m ∧ W (i + 1) m' σ' H') ∧ ∀ x H', J.yld i H x H' → g x σ H' fun σ2 H2 => tb { D with nx := N, ct := N, bk := D.nx } σ2 H2) := by
  refine ⟨fun i m σ H => m = xs.length - i ∧ i ≤ xs.length ∧ Pv i σ H, ⟨xs.length, by simp, Nat.zero_le _, h0⟩, ?_⟩
  rintro i m σ H ⟨rfl, hi, p⟩
  have st := hl i σ H hi p
  by_cases hlt : i < xs.length
  · refine .inr ⟨hgo i H st hlt, Pv (i + 1), fun σ' H' q => ⟨xs.length - (i + 1), by omega, rfl, by omega, q⟩, fun y H' h => ?_⟩
    obtain ⟨T, x, rfl, hT, rfl, hx⟩ := hy i H y H' st h
    exact hs i x T σ H hx p hT
  · have e : i = xs.length := by omega
    subst e
    exact .inl ⟨hst H st, hd σ H p⟩
section
variable {K : PySem.W.Frag} {a : Addr} {xs : List V} {g : TG} {tb : TS} {D : Ends} {σ : St} {H : Hp} (Pv : Nat → St → Hp → Prop) (h0 : Pv 0 σ H)
  (hs : ∀ i x T σ H, xs[i]? = some x → Pv i σ H → H T = none → g (.ref T) σ (upd H T (.tup [.int (i : Nat), x])) fun σ2 H2 => tb { D with nx := Pv (i + 1), ct := Pv (i + 1), bk := D.nx } σ2 H2) (hd : ∀ σ H, Pv xs.length σ H → D.nx σ H)
include h0 hs hd
theorem for_enumL (hl : ∀ i σ H, i ≤ xs.length → Pv i σ H → SqL K H a xs) : ∃ W : Nat → Nat → St → Hp → Prop, (∃ m, W 0 m σ H) ∧ ∀ i m σ H, W i m σ H →
      ((Ite K a).stop i H ∧ D.nx σ H) ∨ ((Ite K a).go i H ∧ ∃ N : St → Hp → Prop, (∀ σ' H', N σ' H' → ∃ m', m' < m ∧ W (i + 1) m' σ' H') ∧ ∀ x H', (Ite K a).yld i H x H' → g x σ H' fun σ2 H2 => tb { D with nx := N, ct := N, bk := D.nx } σ2 H2) :=
  for_enumA (J := Ite K a) (fun H => SqL K H a xs) (fun i H h hi => ⟨xs, _, h, List.getElem?_eq_getElem hi⟩) (fun H h => ⟨xs, h, Nat.le_refl _⟩) (fun i H y H' h ⟨T, x, e, hT, e2, q⟩ => ⟨T, x, e, hT, e2, q xs h⟩) Pv h0 hl hs hd
theorem for_enumT (hl : ∀ i σ H, i ≤ xs.length → Pv i σ H → SqT K H a xs) : ∃ W : Nat → Nat → St → Hp → Prop, (∃ m, W 0 m σ H) ∧ ∀ i m σ H, W i m σ H →
      ((IteT K a).stop i H ∧ D.nx σ H) ∨ ((IteT K a).go i H ∧ ∃ N : St → Hp → Prop, (∀ σ' H', N σ' H' → ∃ m', m' < m ∧ W (i + 1) m' σ' H') ∧ ∀ x H', (IteT K a).yld i H x H' → g x σ H' fun σ2 H2 => tb { D with nx := N, ct := N, bk := D.nx } σ2 H2) :=
  for_enumA (J := IteT K a) (fun H => SqT K H a xs) (fun i H h hi => ⟨xs, _, h, List.getElem?_eq_getElem hi⟩) (fun H h => ⟨xs, h, Nat.le_refl _⟩) (fun i H y H' h ⟨T, x, e, hT, e2, q⟩ => ⟨T, x, e, hT, e2, q xs h⟩) Pv h0 hl hs hd
end
end L2

-- part: OQ1
namespace L2
open PySem PySem.Spec PyProof.Rows
/-- what stands on the right of an own ==: a built-in thing, or an instance of the class itself -/
inductive RightOf (K : PySem.W.Frag) (H : Hp) (C : Addr) : V → Prop where
  | bi {y : V} {T : String} (t : TyB K H y T) (n : PySem.W.notFirst K C (.type T) = true) : RightOf K H C y
  | ins {b dy : Addr} {gs : List (Str × V)} (h : H b = some (.ins C dy gs)) : RightOf K H C (.ref b)
def rEqIns (K : PySem.W.Frag) (C : Addr) (sp : Sp) : R2 := fun x y H Q => ∃ a dx fs, x = .ref a ∧ H a = some (.ins C dx fs) ∧ RightOf K H C y ∧ sp [x, y] H (fun v H' => ∃ b, v = .bl b ∧ Q v H') E0
section
variable {X : Cx}
theorem op_eqIns {n : Nat} {C f : Addr} {fd : FuncData} {ps : List Str} {sp : Sp} (F : FnOk X.prog X.w X.K X.mg X.base CX0 n f fd ps sp) (hr : Room n X.A)
    (hs : PySem.W.findIn X.K (.ref C) "__eq__" = some (some (.ref f))) (hf : PySem.W.isFn X.K (.ref f) = true) (hb : Binds X.K fd ps []) : OpR X (compareOp .Eq) (rEqIns X.K C sp) := by
  intro pins s σ H x y v u Q I rx ry h
  obtain ⟨a, dx, fs, rfl, ha, hR, hsp⟩ := h
  cases rx
  obtain ⟨mA, J, _⟩ := ins_get I.hok ha
  obtain ⟨od, J, _⟩ := J.look
  obtain ⟨m, hF⟩ := I.fr
  show wpAny (model X.prog X.w) X.A (richCompare .Eq (.ref a) u) (EP X pins σ Q) X.xe s
  have go : ∀ tb, PySem.W.Looks (model X.prog X.w) s.heap (typeOf u) tb → PySem.W.notFirst X.K C tb = true → wpAny (model X.prog X.w) X.A (richCompare .Eq (.ref a) u) (EP X pins σ Q) X.xe s := by
    intro tb hT hn
    refine PySem.W.cmp_K (op := .Eq) (tb := tb) hr.units0 hF I.ok.mod.kin J hT hn hs hf ?_
    have hl := F.len _ _ _ _ hsp
    have r2 : Vals [V.ref a, y] [Value.ref a, u] := .cons rfl (.cons ry .nil)
    refine wpAny_call (codeAny_mono (F.run X.A X.stack s H ⟨[.ref a, u], []⟩ [.ref a, u] [.ref a, y] _ E0 hr I.env0 (by
      have := hb s [.ref a, u] I.kIn (by simpa using hl)
      simpa using this) r2 hsp) fun r s' hq => ?_)
    cases r with
    | error e => exact hq.elim
    | ok fl =>
      cases fl with
      | ret w =>
        obtain ⟨z, H', I', rz, ⟨b, ez, q⟩⟩ := I.after hq
        subst ez
        cases rz
        exact ⟨.bl b, H', I', rfl, q⟩
      | next => exact False.elim hq
      | brk => exact False.elim hq
      | cont => exact False.elim hq
  cases hR with
  | @bi y T t n =>
    refine go _ ?_ n
    have ht := TyB.is I ry t
    have rf : ∀ b, u = Value.ref b → PySem.W.Looks (model X.prog X.w) s.heap (typeOf u) (.type T) := fun b e => by
      subst e
      obtain ⟨o, ho, hc⟩ := ht
      rw [← hc]
      exact (PySem.W.Looks.ld ho).andThen .now
    cases t with
    | non => cases ry; exact PySem.W.Looks.now
    | bl b => cases ry; exact PySem.W.Looks.now
    | int i => obtain ⟨tk, rfl⟩ := ry; exact PySem.W.Looks.now
    | str i => obtain ⟨tk, rfl⟩ := ry; exact PySem.W.Looks.now
    | byt i => obtain ⟨tk, rfl⟩ := ry; exact PySem.W.Looks.now
    | lst h => exact rf _ ry
    | tup h => exact rf _ ry
    | dK h => exact rf _ ry
  | @ins b dy gs h =>
    cases ry
    obtain ⟨mB, J', _⟩ := ins_get I.hok h
    obtain ⟨od', J', _⟩ := J'.look
    exact go _ J'.type (by simp [PySem.W.notFirst])
end
end L2

-- part: G1
namespace Toy
open PySem L2
/-! ### letters and clauses -/
def absI (i : Int) : Int := if i < 0 then -i else i
theorem absI_nat (i : Int) : absI i = (i.natAbs : Int) := by unfold absI; split <;> omega
/-- the clause of a row: rising by truths, the same letters -/
structure IsCl (row c : List Int) : Prop where
  inc : c.Pairwise fun a b => a.natAbs < b.natAbs
  mem : ∀ x, x ∈ c ↔ x ∈ row
structure RowOk (t : Int) (row : List Int) : Prop where
  low : ∀ x ∈ row, 1 ≤ x.natAbs
  top : ∀ x ∈ row, (x.natAbs : Int) ≤ t
  one : ∀ x ∈ row, -x ∉ row
theorem inc_ext : ∀ {c d : List Int}, c.Pairwise (fun a b => a.natAbs < b.natAbs) → d.Pairwise (fun a b => a.natAbs < b.natAbs) → (∀ x, x ∈ c ↔ x ∈ d) → c = d
  | [], [], _, _, _ => rfl
  | [], y :: d, _, _, h => absurd ((h y).mpr List.mem_cons_self) (by simp)
  | x :: c, [], _, _, h => absurd ((h x).mp List.mem_cons_self) (by simp)
  | x :: c, y :: d, hc, hd, h => by
    have c1 := List.pairwise_cons.mp hc
    have d1 := List.pairwise_cons.mp hd
    have e : x = y := by
      rcases List.mem_cons.mp ((h x).mp List.mem_cons_self) with e | hx
      · exact e
      · rcases List.mem_cons.mp ((h y).mpr List.mem_cons_self) with e | hy
        · exact e.symm
        · have a1 := d1.1 x hx
          have a2 := c1.1 y hy
          omega
    subst e
    have nx : x ∉ c := fun z => by have := c1.1 x z; omega
    have ny : x ∉ d := fun z => by have := d1.1 x z; omega
    rw [inc_ext c1.2 d1.2 fun z => ⟨fun hz => (List.mem_cons.mp ((h z).mp (List.mem_cons_of_mem _ hz))).resolve_left fun e => nx (e ▸ hz), fun hz => (List.mem_cons.mp ((h z).mpr (List.mem_cons_of_mem _ hz))).resolve_left fun e => ny (e ▸ hz)⟩]
theorem IsCl.ext {row row' c c' : List Int} (h : IsCl row c) (h' : IsCl row' c') (e : ∀ x, x ∈ row ↔ x ∈ row') : c = c' :=
  inc_ext h.inc h'.inc fun x => (h.mem x).trans ((e x).trans (h'.mem x).symm)
/-- ints unlike by their truths, in order -/
theorem strict_of {ks out : List Int} (p : out.Perm ks) (nd : ks.Nodup) (one : ∀ x ∈ ks, -x ∉ ks) (low : ∀ x ∈ ks, 1 ≤ x.natAbs) (h : out.Pairwise fun a b => absI a ≤ absI b) : out.Pairwise fun a b => a.natAbs < b.natAbs := by
  have nd' : out.Nodup := p.nodup_iff.mpr nd
  have hm : ∀ x ∈ out, x ∈ ks := fun x hx => p.mem_iff.mp hx
  have q := h.imp_of_mem (S := fun a b => a ≠ b → a.natAbs < b.natAbs) fun {a b} ha hb hab ne => by
    rw [absI_nat, absI_nat] at hab
    have h1 := one a (hm a ha)
    have h2 := low a (hm a ha)
    have h3 : b ≠ -a := fun e => h1 (by rw [← e]; exact hm b hb)
    omega
  exact (q.and nd').imp fun h => h.1 h.2
section
variable {X : Cx} {H : Hp} {Q : VK}
/-- sorted by the truths -/
theorem go_abs {K : PySem.W.Frag} {ks : List Int} (q : ∀ (out : List Int) (p : Addr), out.Perm ks → out.Pairwise (fun a b => absI a ≤ absI b) → H p = none → Q (.ref p) (upd H p (.lst (out.map V.int)))) :
    SortGo K (fun x H Q => ∃ i, x = .int i ∧ Q (.int (if i < 0 then -i else i)) H) (ks.map V.int) H Q := by
  refine ⟨fun kv H' => H' = H ∧ kv = (ks.take kv.length).map fun i => V.int (absI i), ⟨rfl, by simp⟩, ?_, ?_⟩
  · rintro i v kv H' hi hl ⟨rfl, hk⟩
    rw [List.getElem?_map] at hi
    cases e : ks[i]? with
    | none => rw [e] at hi; cases hi
    | some z =>
      rw [e] at hi
      cases hi
      refine ⟨z, rfl, rfl, ?_⟩
      rw [List.length_append, List.length_singleton, hl, List.take_add_one, e]
      rw [hl] at hk
      simp only [Option.toList_some, List.map_append, List.map_cons, List.map_nil]
      rw [← hk]
      rfl
  · rintro kv H' ⟨rfl, hk⟩ hl
    rw [List.length_map] at hl
    rw [hl, List.take_length] at hk
    refine .inl ⟨ks.map absI, by rw [hk, List.map_map]; rfl, fun zs hp ho p hn => ?_⟩
    have e1 : (ks.map absI).zip (ks.map V.int) = ks.map fun i => (absI i, V.int i) := by
      rw [List.zip_map]
      have : ks.zip ks = ks.map fun i => (i, i) := by
        clear q hk hl hp
        induction ks with
        | nil => rfl
        | cons a r ih => rw [List.zip_cons_cons, ih]; rfl
      rw [this, List.map_map]
      rfl
    rw [e1] at hp
    have at_ : ∀ z ∈ zs, ∃ i, z = (absI i, V.int i) := fun z hz => by
      obtain ⟨i, _, e⟩ := List.mem_map.mp (hp.mem_iff.mp hz)
      exact ⟨i, e.symm⟩
    -- the ints of zs
    let f : Int × V → Int := fun z => match z.2 with | .int i => i | _ => 0
    have ef : zs.map (fun z => (absI (f z), V.int (f z))) = zs := by
      have : ∀ l : List (Int × V), (∀ z ∈ l, ∃ i, z = (absI i, V.int i)) → l.map (fun z => (absI (f z), V.int (f z))) = l := by
        intro l
        induction l with
        | nil => intro _; rfl
        | cons a r ih =>
          intro h
          obtain ⟨i, rfl⟩ := h a List.mem_cons_self
          rw [List.map_cons, ih fun z hz => h z (List.mem_cons_of_mem _ hz)]
      exact this zs at_
    have pk : (zs.map f).Perm ks := by
      have q1 := hp.map f
      rw [List.map_map] at q1
      have e2 : ks.map (f ∘ fun i => (absI i, V.int i)) = ks := by
        have : (f ∘ fun i => (absI i, V.int i)) = id := by funext i; rfl
        rw [this, List.map_id]
      rw [e2] at q1
      exact q1
    have po : (zs.map f).Pairwise fun a b => absI a ≤ absI b := by
      rw [← ef] at ho
      rw [List.pairwise_map] at ho ⊢
      exact ho
    have q2 := q (zs.map f) p pk po hn
    have e3 : (zs.map f).map V.int = zs.map (·.2) := by
      conv => rhs; rw [← ef]
      rw [List.map_map, List.map_map]
      rfl
    rw [e3] at q2
    exact q2
end
/-- tuples of ints at places -/
def TupsAt (H : Hp) (bs : List Addr) (cs : List (List Int)) : Prop := Paired (fun (b : Addr) (c : List Int) => H b = some (.tup (c.map V.int))) bs cs
theorem TupsAt.same {H H' : Hp} (e : Same H H') : ∀ {bs : List Addr} {cs : List (List Int)}, TupsAt H bs cs → TupsAt H' bs cs
  | _, _, .nil => .nil
  | _, _, .cons h t => .cons (e _ _ h) (TupsAt.same e t)
theorem TupsAt.len {H : Hp} : ∀ {bs : List Addr} {cs : List (List Int)}, TupsAt H bs cs → bs.length = cs.length
  | _, _, .nil => rfl
  | _, _, .cons _ t => by rw [List.length_cons, List.length_cons, TupsAt.len t]
theorem TupsAt.get {H : Hp} : ∀ {bs : List Addr} {cs : List (List Int)} {i : Nat} {b : Addr}, TupsAt H bs cs → bs[i]? = some b → ∃ c, cs[i]? = some c ∧ H b = some (.tup (c.map V.int))
  | _, _, _, _, .nil, h => by simp at h
  | _, _, 0, _, .cons h t, e => by cases e; exact ⟨_, rfl, h⟩
  | _, _, i + 1, _, .cons h t, e => TupsAt.get (i := i) t e
theorem TupsAt.zip {H : Hp} : ∀ {bs : List Addr} {cs : List (List Int)}, TupsAt H bs cs → ∀ p ∈ bs.zip cs, H p.1 = some (.tup (p.2.map V.int))
  | _, _, .nil, p, h => by simp at h
  | _, _, .cons h t, p, hp => by
    rw [List.zip_cons_cons] at hp
    rcases List.mem_cons.mp hp with rfl | hp
    · exact h
    · exact TupsAt.zip t p hp
theorem TupsAt.of_zip {H : Hp} : ∀ {zs : List (Addr × List Int)}, (∀ p ∈ zs, H p.1 = some (.tup (p.2.map V.int))) → TupsAt H (zs.map (·.1)) (zs.map (·.2))
  | [], _ => .nil
  | z :: zs, h => .cons (h z List.mem_cons_self) (TupsAt.of_zip fun p hp => h p (List.mem_cons_of_mem _ hp))
/-- shorter ones first, then rising -/
def ltC (a b : List Int) : Bool := ltKT ((a.length : Int), a) ((b.length : Int), b)
/-- what the key makes of a clause -/
def relLen (x : V) (H : Hp) (Q : VK) : Prop := ∃ c l, x = .ref c ∧ H c = some (.tup l) ∧ ∀ t, H t = none → Q (.ref t) (upd H t (.tup [.int (l.length : Int), .ref c]))
theorem go_cls {K : PySem.W.Frag} {rel : V → Hp → VK → Prop} {H : Hp} {Q : VK} {bs : List Addr} {cs : List (List Int)} (G : Hp → Prop) (g0 : G H) (gs : ∀ H1 H2, G H1 → Same H1 H2 → G H2)
    (hrel : ∀ x H Q, G H → relLen x H Q → rel x H Q) (T : TupsAt H bs cs)
    (q : ∀ (zs : List (Addr × List Int)) (H' : Hp) (p : Addr), zs.Perm (bs.zip cs) → zs.Pairwise (fun a b => ltC b.2 a.2 = false) → Same H H' → G H' → TupsAt H' (zs.map (·.1)) (zs.map (·.2)) → H' p = none → Q (.ref p) (upd H' p (.lst (zs.map fun z => V.ref z.1)))) :
    SortGo K rel (bs.map V.ref) H Q := by
  have hlen := T.len
  refine ⟨fun kv H' => Same H H' ∧ G H' ∧ ∃ ts : List Addr, kv = ts.map V.ref ∧ ∀ (i : Nat) (t b : Addr) (c : List Int), ts[i]? = some t → bs[i]? = some b → cs[i]? = some c → H' t = some (.tup [.int (c.length : Int), .ref b]), ⟨Same.refl H, g0, [], rfl, fun i t b c h => by simp at h⟩, ?_, ?_⟩
  · rintro i v kv H' hi hl ⟨sm, g, ts, rfl, hts⟩
    rw [List.getElem?_map] at hi
    cases e : bs[i]? with
    | none => rw [e] at hi; cases hi
    | some b =>
      rw [e] at hi
      cases hi
      obtain ⟨c, hc, hb⟩ := T.get e
      refine hrel _ _ _ g ⟨b, _, rfl, sm _ _ hb, fun t ht => ?_⟩
      have s2 : Same H' (upd H' t (.tup [.int ((c.map V.int).length : Int), .ref b])) := Same.new ht
      refine ⟨Same.trans sm s2, gs _ _ g s2, ts ++ [t], by rw [List.map_append]; rfl, fun j t' b' c' h1 h2 h3 => ?_⟩
      rw [List.length_map] at hl
      by_cases hj : j < ts.length
      · rw [List.getElem?_append_left hj] at h1
        exact s2 _ _ (hts j t' b' c' h1 h2 h3)
      · have hj' : j = ts.length := by
          have := (List.getElem?_eq_some_iff.mp h1).1
          rw [List.length_append, List.length_singleton] at this
          omega
        subst hj'
        rw [List.getElem?_append_right (Nat.le_refl _), Nat.sub_self] at h1
        cases h1
        rw [hl, e] at h2
        cases h2
        rw [hl, hc] at h3
        cases h3
        rw [upd_same, List.length_map]
  · rintro kv H' ⟨sm, g, ts, rfl, hts⟩ hl
    rw [List.length_map, List.length_map] at hl
    have T' := TupsAt.same sm T
    refine .inr ⟨cs.map fun c => ((c.length : Int), c), ?_, fun zs hp ho p hn => ?_⟩
    · -- the keys stand
      have : ∀ (ts bs : List Addr) (cs : List (List Int)), ts.length = bs.length → bs.length = cs.length → (∀ (i : Nat) (t b : Addr) (c : List Int), ts[i]? = some t → bs[i]? = some b → cs[i]? = some c → H' t = some (.tup [.int (c.length : Int), .ref b])) → TupsAt H' bs cs → Paired (KeyT K H') (ts.map V.ref) (cs.map fun c => ((c.length : Int), c)) := by
        intro ts
        induction ts with
        | nil =>
          intro bs cs h1 h2 _ _
          cases bs with
          | nil =>
            cases cs with
            | nil => exact .nil
            | cons c cs => simp at h2
          | cons b bs => simp at h1
        | cons t ts ih =>
          intro bs cs h1 h2 h3 h4
          cases h4 with
          | nil => simp at h1
          | cons hb ht =>
            refine .cons ⟨t, _, rfl, SqT.of (h3 0 _ _ _ rfl rfl rfl), SqT.of hb⟩ (ih _ _ (by simpa using h1) (by simpa using h2) (fun i t' b' c' a1 a2 a3 => h3 (i + 1) t' b' c' a1 a2 a3) ht)
      exact this ts bs cs hl hlen hts T'
    · have ez : (cs.map fun c => ((c.length : Int), c)).zip (bs.map V.ref) = (bs.zip cs).map fun z => (((z.2.length : Int), z.2), V.ref z.1) := by
        have : ∀ (bs : List Addr) (cs : List (List Int)), (cs.map fun c => ((c.length : Int), c)).zip (bs.map V.ref) = (bs.zip cs).map fun z => (((z.2.length : Int), z.2), V.ref z.1) := by
          intro bs
          induction bs with
          | nil => intro cs; cases cs <;> rfl
          | cons b bs ih =>
            intro cs
            cases cs with
            | nil => rfl
            | cons c cs =>
              rw [List.map_cons, List.map_cons, List.zip_cons_cons, List.zip_cons_cons, List.map_cons, ih]
        exact this bs cs
      rw [ez] at hp
      let f : (Int × List Int) × V → Addr × List Int := fun z => (match z.2 with | .ref a => a | _ => 0, z.1.2)
      have ef : zs.map (fun z => ((((f z).2.length : Int), (f z).2), V.ref (f z).1)) = zs := by
        have : ∀ l : List ((Int × List Int) × V), (∀ z ∈ l, ∃ y : Addr × List Int, z = (((y.2.length : Int), y.2), V.ref y.1)) → l.map (fun z => ((((f z).2.length : Int), (f z).2), V.ref (f z).1)) = l := by
          intro l
          induction l with
          | nil => intro _; rfl
          | cons a r ih =>
            intro h
            obtain ⟨y, rfl⟩ := h a List.mem_cons_self
            rw [List.map_cons, ih fun z hz => h z (List.mem_cons_of_mem _ hz)]
        exact this zs fun z hz => by
          obtain ⟨y, _, e⟩ := List.mem_map.mp (hp.mem_iff.mp hz)
          exact ⟨y, e.symm⟩
      have pk : (zs.map f).Perm (bs.zip cs) := by
        have q1 := hp.map f
        rw [List.map_map] at q1
        have e2 : (bs.zip cs).map (f ∘ fun z => (((z.2.length : Int), z.2), V.ref z.1)) = bs.zip cs := by
          have : (f ∘ fun z : Addr × List Int => (((z.2.length : Int), z.2), V.ref z.1)) = id := by funext z; rfl
          rw [this, List.map_id]
        rw [e2] at q1
        exact q1
      have po : (zs.map f).Pairwise fun a b => ltC b.2 a.2 = false := by
        rw [← ef] at ho
        rw [List.pairwise_map] at ho ⊢
        exact ho
      have tz : TupsAt H' ((zs.map f).map (·.1)) ((zs.map f).map (·.2)) := TupsAt.of_zip fun y hy => TupsAt.zip T' y (pk.mem_iff.mp hy)
      have q2 := q (zs.map f) H' p pk po sm g tz hn
      have e3 : (zs.map f).map (fun z => V.ref z.1) = zs.map (·.2) := by
        conv => rhs; rw [← ef]
        rw [List.map_map, List.map_map]
        rfl
      rw [e3] at q2
      exact q2
end Toy
namespace Toy
open PySem L2
/-! ### dicts by their keys -/
section
variable {κ α : Type} [DecidableEq κ] [DecidableEq α]
theorem valV_none {kvs : List (κ × V)} {k : κ} : valV kvs k = none ↔ k ∉ kvs.map (·.1) := by
  constructor
  · exact valV_not
  · intro h
    cases e : valV kvs k with
    | none => rfl
    | some v => exact absurd (valV_in e) h
/-- once more, at the end, if it isn't there -/
def addU (ks : List α) (n : α) : List α := if n ∈ ks then ks else ks ++ [n]
theorem keys_put {f : α → κ} (inj : ∀ a b, f a = f b → a = b) {kvs : List (κ × V)} {ks : List α} (h : kvs.map (·.1) = ks.map f) (n : α) (v : V) : (putK kvs (f n) v).map (·.1) = (addU ks n).map f := by
  unfold addU
  by_cases hn : n ∈ ks
  · rw [if_pos hn]
    have hm : f n ∈ kvs.map (·.1) := by rw [h]; exact List.mem_map.mpr ⟨n, hn, rfl⟩
    have ha : (kvs.any fun kv => decide (kv.1 = f n)) = true := by
      rw [List.any_eq_true]
      obtain ⟨p, hp, e⟩ := List.mem_map.mp hm
      exact ⟨p, hp, decide_eq_true e⟩
    unfold putK
    rw [if_pos ha, ← h, List.map_map]
    refine List.map_congr_left fun p _ => ?_
    show (if p.1 = f n then (p.1, v) else p).1 = p.1
    split <;> rfl
  · rw [if_neg hn]
    have hv : valV kvs (f n) = none := valV_none.mpr fun z => by
      rw [h] at z
      obtain ⟨m, hm, e⟩ := List.mem_map.mp z
      rw [inj _ _ e] at hm
      exact hn hm
    rw [putK_new v hv, List.map_append, h, List.map_append]
    rfl
theorem nd_add {ks : List α} (h : ks.Nodup) (n : α) : (addU ks n).Nodup := by
  unfold addU
  split
  · exact h
  · rename_i hn
    rw [List.nodup_append]
    exact ⟨h, by simp, fun a ha b hb => by rw [List.mem_singleton.mp hb]; exact fun e => hn (e ▸ ha)⟩
theorem mem_add {ks : List α} (n z : α) : z ∈ addU ks n ↔ z ∈ ks ∨ z = n := by
  unfold addU
  split
  · rename_i hn
    exact ⟨.inl, fun h => h.elim id fun e => e ▸ hn⟩
  · simp
theorem len_add {ks : List α} (n : α) : (addU ks n).length ≤ ks.length + 1 := by
  unfold addU
  split
  · omega
  · simp
theorem val_keys {f : α → κ} (inj : ∀ a b, f a = f b → a = b) {kvs : List (κ × V)} {ks : List α} (h : kvs.map (·.1) = ks.map f) (n : α) : (valV kvs (f n)).isSome = decide (n ∈ ks) := by
  by_cases hn : n ∈ ks
  · rw [decide_eq_true hn]
    cases e : valV kvs (f n) with
    | some v => rfl
    | none => exact absurd (by rw [h]; exact List.mem_map.mpr ⟨n, hn, rfl⟩) (valV_none.mp e)
  · rw [decide_eq_false hn, valV_none.mpr fun z => by
      rw [h] at z
      obtain ⟨m, hm, e⟩ := List.mem_map.mp z
      rw [inj _ _ e] at hm
      exact hn hm]
    rfl
end
theorem inl_inj (a b : Int) (h : (Sum.inl a : Key) = Sum.inl b) : a = b := Sum.inl.inj h
/-- a tuple of ints as a key -/
def tkey (c : List Int) : List Key := c.map Sum.inl
theorem tkey_inj (a b : List Int) (h : tkey a = tkey b) : a = b := (List.map_inj_right (fun x y h => Sum.inl.inj h)).mp h
theorem tkey_kV (c : List Int) : (tkey c).map kV = c.map V.int := by
  unfold tkey
  rw [List.map_map]
  rfl
end Toy
namespace Toy
open PySem L2
theorem e_sorted {r : V → Hp → VK → Prop} {t : TA} {σ : St} {H : Hp} {Q : VK} : tSorted r t σ H Q = t σ H fun vs H1 => ∃ x, vs = [x] ∧ r x H1 Q := rfl
end Toy
namespace Toy
open PySem L2
/-! ### the clauses of a problem -/
theorem ltC_irrefl (a : List Int) : ltC a a = false := by
  unfold ltC ltKT
  rw [if_pos rfl]
  exact lex_irrefl a
theorem ltC_total {a b : List Int} (h1 : ltC a b = false) (h2 : ltC b a = false) : a = b := by
  unfold ltC ltKT at h1 h2
  by_cases e : (a.length : Int) = (b.length : Int)
  · have h1 : HT.lexLt a b = false := by rw [if_pos e] at h1; exact h1
    have h2 : HT.lexLt b a = false := by rw [if_pos e.symm] at h2; exact h2
    exact lex_total a b h1 h2
  · rw [if_neg e] at h1
    rw [if_neg (Ne.symm e)] at h2
    have d1 := of_decide_eq_false h1
    have d2 := of_decide_eq_false h2
    omega
theorem ltC_asym {a b : List Int} (h : ltC a b = true) : ltC b a = false := swo_KT.asym _ _ h
theorem ltC_trans {a b c : List Int} (h1 : ltC a b = true) (h2 : ltC b c = true) : ltC a c = true := swo_KT.ltle h1 (swo_KT.asym _ _ h2)
/-- shorter ones first, rising: the unlike clauses of the rows -/
structure IsDue (rows cs : List (List Int)) : Prop where
  inc : cs.Pairwise fun a b => ltC a b = true
  mem : ∀ c, c ∈ cs ↔ ∃ row ∈ rows, IsCl row c
theorem ltC_ext : ∀ {c d : List (List Int)}, c.Pairwise (fun a b => ltC a b = true) → d.Pairwise (fun a b => ltC a b = true) → (∀ x, x ∈ c ↔ x ∈ d) → c = d
  | [], [], _, _, _ => rfl
  | [], y :: d, _, _, h => absurd ((h y).mpr List.mem_cons_self) (by simp)
  | x :: c, [], _, _, h => absurd ((h x).mp List.mem_cons_self) (by simp)
  | x :: c, y :: d, hc, hd, h => by
    have c1 := List.pairwise_cons.mp hc
    have d1 := List.pairwise_cons.mp hd
    have irr : ∀ z : List Int, ltC z z = true → False := fun z q => by rw [ltC_irrefl] at q; cases q
    have e : x = y := by
      rcases List.mem_cons.mp ((h x).mp List.mem_cons_self) with e | hx
      · exact e
      · rcases List.mem_cons.mp ((h y).mpr List.mem_cons_self) with e | hy
        · exact e.symm
        · exact (irr _ (ltC_trans (d1.1 x hx) (c1.1 y hy))).elim
    subst e
    have nx : x ∉ c := fun z => irr _ (c1.1 x z)
    have ny : x ∉ d := fun z => irr _ (d1.1 x z)
    rw [ltC_ext c1.2 d1.2 fun z => ⟨fun hz => (List.mem_cons.mp ((h z).mp (List.mem_cons_of_mem _ hz))).resolve_left fun e => nx (e ▸ hz), fun hz => (List.mem_cons.mp ((h z).mpr (List.mem_cons_of_mem _ hz))).resolve_left fun e => ny (e ▸ hz)⟩]
theorem IsDue.ext {r r' c c' : List (List Int)} (h : IsDue r c) (h' : IsDue r' c') (e : ∀ x, (∃ row ∈ r, IsCl row x) ↔ ∃ row ∈ r', IsCl row x) : c = c' :=
  ltC_ext h.inc h'.inc fun x => (h.mem x).trans ((e x).trans (h'.mem x).symm)
theorem inc_of {cs out : List (List Int)} (p : out.Perm cs) (nd : cs.Nodup) (h : out.Pairwise fun a b => ltC b a = false) : out.Pairwise fun a b => ltC a b = true := by
  have nd' : out.Nodup := p.nodup_iff.mpr nd
  refine (h.and nd').imp fun {a b} h => ?_
  cases e : ltC a b with
  | true => rfl
  | false => exact absurd (ltC_total e h.1) h.2
/-- the tuples that are the keys of a dict -/
theorem tups_of_keys {H : Hp} : ∀ {kvs : List (List Key × V)} {bs : List Addr} {cs : List (List Int)}, IsKeys H kvs bs → kvs.map (·.1) = cs.map tkey → TupsAt H bs cs
  | _, _, [], .nil, _ => .nil
  | _, _, _ :: _, .nil, h => by cases h
  | _, _, [], .cons _ _, h => by cases h
  | _, _, c :: cs, .cons hb t, h => by
    rw [List.map_cons, List.map_cons] at h
    have h1 := (List.cons.inj h).1
    have h2 := (List.cons.inj h).2
    refine .cons ?_ (tups_of_keys t h2)
    rw [h1, tkey_kV] at hb
    exact hb
end Toy
namespace Toy
open PySem L2
/-! ### clauses as data -/
def dTup (c : List Int) : PyData := .tuple (c.map PyData.int)
def dCls (cs : List (List Int)) : PyData := .tuple (cs.map dTup)
theorem dpAll_cls {K : PySem.W.Frag} {H : Hp} : ∀ {bs : List Addr} {cs : List (List Int)}, TupsAt H bs cs → DpAll K H (bs.map V.ref) (cs.map dTup)
  | _, _, .nil => .nil
  | _, _, .cons h t => .cons (.tup (SqT.of h) (dpAll_ints _)) (dpAll_cls t)
theorem can_cls : ∀ cs : List (List Int), PyData.canLayAll0 (cs.map dTup) = true
  | [] => by simp [PyData.canLayAll0]
  | c :: cs => by simp [PyData.canLayAll0, dTup, PyData.canLay0, can_intsD, can_cls cs]
theorem dep_cls : ∀ cs : List (List Int), PyData.depthAll (cs.map dTup) ≤ 2
  | [] => by simp [PyData.depthAll]
  | c :: cs => by
    have h1 := dep_cls cs
    have h2 := dep_intsD c
    simp only [List.map_cons, PyData.depthAll, dTup, PyData.depth]
    omega
theorem shaped_cls (cs : List (List Int)) : SeqAt.shaped (dCls cs) = true := by
  have h := dep_cls cs
  unfold SeqAt.shaped dCls
  rw [Bool.and_eq_true]
  refine ⟨by simp [PyData.canLay0, can_cls], decide_eq_true ?_⟩
  simp only [PyData.depth]
  omega
theorem eqvAll_cls : ∀ a b : List (List Int), PyData.eqvAll (a.map dTup) (b.map dTup) = decide (a = b)
  | [], [] => by simp [PyData.eqvAll]
  | [], y :: b => by simp [PyData.eqvAll]
  | x :: a, [] => by simp [PyData.eqvAll]
  | x :: a, y :: b => by
    simp only [List.map_cons, PyData.eqvAll, dTup, PyData.eqv, eqvAll_ints]
    rw [eqvAll_cls a b]
    by_cases h1 : x = y <;> by_cases h2 : a = b <;> simp [h1, h2]
theorem eqv_cls (a b : List (List Int)) : PyData.eqv (dCls a) (dCls b) = decide (a = b) := by
  unfold dCls
  simp only [PyData.eqv]
  exact eqvAll_cls a b
end Toy
namespace Toy
open PySem L2
theorem e_dsetd {td ty tx : TE} {σ : St} {H : Hp} {Q : VK} : tDSetd td ty tx σ H Q = td σ H fun x H1 => ∃ a, x = .ref a ∧ IsD H1 a ∧ ty σ H1 fun y H2 => tx σ H2 fun z H3 => ∃ (kvs : List (Key × V)) (k : Key), H3 a = some (.dK kvs) ∧ y = kV k ∧ kvs.length < sizeLine ∧
  (∀ v, valV kvs k = some v → Q v H3) ∧ (valV kvs k = none → Q z (upd H3 a (.dK (putK kvs k z)))) := rfl
/-- the draw of one of two -/
theorem at_two {a b : V} {r : Int} (h0 : 0 ≤ r) (h1 : r < 2) : (r = 0 ∧ atI [a, b] r = some a) ∨ (r = 1 ∧ atI [a, b] r = some b) := by
  have : r = 0 ∨ r = 1 := by omega
  rcases this with rfl | rfl
  · exact .inl ⟨rfl, rfl⟩
  · exact .inr ⟨rfl, rfl⟩
end Toy

local macro_rules | `(tactic| walk_at "rd") => `(tactic| try simp only [Toy.e_seq, Toy.e_asg, Toy.e_asgS, Toy.e_ret, Toy.e_ifS, Toy.e_c, Toy.e_op, Toy.e_test, Toy.e_rI0, Toy.e_rI, Toy.e_var0, Toy.e_varS, Toy.e_bl, Toy.e_nil, Toy.e_cons, Toy.e_call, Toy.e_cb, Toy.e_next, Toy.e_bl2, Toy.e_cxK, Toy.e_ii, Toy.e_lst, Toy.e_tup, Toy.e_and, Toy.e_chain, Toy.e_tif, Toy.e_not, Toy.e_tb, Toy.e_drop, Toy.e_i1, Toy.e_or, Toy.e_andT, Toy.e_din, Toy.e_dnotin, Toy.e_un, Toy.e_rU, Toy.e_dput, Toy.e_x1, Toy.e_notV, Toy.e_orV, Toy.e_sorted, Toy.e_fld, Toy.e_gName, Toy.e_bm, Toy.e_dsetd, Toy.e_par, Toy.e_vw, Toy.e_dnewK, List.set_cons_zero, List.set_cons_succ, List.append_nil, List.nil_append, List.cons_append])
-- part: P1
namespace Toy
open PySem L2
def topS (i : Nat) : Stmt := PySem.Challenge.pw_turnless_k01_problems_made.main.body.getD i (.Pass ⟨0, 0, 0, 0⟩)
/-- a def of the top -/
structure Df (K : PySem.W.Frag) (mg : Str → Option Value) (x : Str) (st : Stmt) (ps : List Str) (f : Addr) (fd : FuncData) : Prop where
  F : Fun K x x st f fd
  g : mg x = some (.ref f)
  b : Binds K fd ps []
/-- the built-in names -/
structure Bl (mg : Str → Option Value) : Prop where
  max : mg "max" = none
  min : mg "min" = none
  len : mg "len" = none
  range : mg "range" = none
  type : mg "type" = none
  int : mg "int" = none
  list : mg "list" = none
  tuple : mg "tuple" = none
  dict : mg "dict" = none
  bool : mg "bool" = none
  abs : mg "abs" = none
  sorted : mg "sorted" = none
  enumerate : mg "enumerate" = none
  isinstance : mg "isinstance" = none
  repr : mg "repr" = none
section
variable {P : Program} {w : World} {K : PySem.W.Frag} {mg : Str → Option Value} {base : Heap}
abbrev sIsNum : Stmt := topS 6
theorem scIsNum : FnScope ["thing"] ["thing"] (defScope sIsNum) := ⟨rfl, rfl, rfl, by decide +kernel, rfl, by decide +kernel, by decide +kernel⟩
def spIsNum (K : PySem.W.Frag) : Sp := fun vs H Q _ => ∃ x T, vs = [x] ∧ TyB K H x T ∧ Q (.bl (decide (T = "int"))) H
theorem ok_isNum {f : Addr} {fd : FuncData} (F : Fun K "is_number" "is_number" sIsNum f fd) (B : Bl mg) : FnOk P w K mg base CX0 1 f fd ["thing"] (spIsNum K) := by
  refine F.ok scIsNum (fun vs H Q E h => ?_) (fun cdv A outer s H vs Q E hr h => ?_)
  · obtain ⟨x, T, rfl, _⟩ := h
    rfl
  · obtain ⟨x, T, rfl, ty, q⟩ := h
    refine ⟨_, pss_one (ps_ret (pe_cmpR op_eqTy (pe_callTy call_type1 (by rfl) B.type (by decide +kernel) (pa_cons (pv 0) pa_nil)) (pe_bltn (v := .ty "int") (by rfl) B.int (by decide +kernel) rfl) (nomark _))), ?_⟩
    show tRet _ _ [some x] H
    walk_at "rd"
    exact ⟨x, T, rfl, ty, _, _, rfl, rfl, Kn.ty ty, .inl rfl, q⟩
abbrev sIsList : Stmt := topS 7
theorem scIsList : FnScope ["thing"] ["thing"] (defScope sIsList) := ⟨rfl, rfl, rfl, by decide +kernel, rfl, by decide +kernel, by decide +kernel⟩
def spIsList (K : PySem.W.Frag) : Sp := fun vs H Q _ => ∃ x T, vs = [x] ∧ TyB K H x T ∧ ∀ H', Same H H' → Q (.bl (["list", "tuple"].contains T)) H'
theorem ok_isList {f : Addr} {fd : FuncData} (F : Fun K "is_list" "is_list" sIsList f fd) (B : Bl mg) : FnOk P w K mg base CX0 1 f fd ["thing"] (spIsList K) := by
  refine F.ok scIsList (fun vs H Q E h => ?_) (fun cdv A outer s H vs Q E hr h => ?_)
  · obtain ⟨x, T, rfl, _⟩ := h
    rfl
  · obtain ⟨x, T, rfl, ty, q⟩ := h
    refine ⟨_, pss_one (ps_ret (pe_cmpR op_inTy (pe_callTy call_type1 (by rfl) B.type (by decide +kernel) (pa_cons (pv 0) pa_nil)) (pe_tup (pa_cons (pe_bltn (v := .ty "list") (by rfl) B.list (by decide +kernel) rfl) (pa_cons (pe_bltn (v := .ty "tuple") (by rfl) B.tuple (by decide +kernel) rfl) pa_nil))) (by rfl))), ?_⟩
    show tRet _ _ [some x] H
    walk_at "rd"
    refine ⟨x, T, rfl, ty, by show 2 ≤ sizeLine; decide, fun p hp => ?_⟩
    exact ⟨T, p, ["list", "tuple"], rfl, rfl, SqT.of upd_same, Kn.ty ty, by simp [Kn], q _ (Same.new hp)⟩
abbrev sIsLet : Stmt := topS 8
theorem scIsLet : FnScope ["thing", "many"] ["thing", "many"] (defScope sIsLet) := ⟨rfl, rfl, rfl, by decide +kernel, rfl, by decide +kernel, by decide +kernel⟩
/-- whether x is a letter of t truths -/
def letB (x : V) (t : Int) : Bool := match x with
  | .int i => decide (1 ≤ absI i) && decide (absI i ≤ t)
  | _ => false
def spIsLet (K : PySem.W.Frag) : Sp := fun vs H Q _ => ∃ x T t, vs = [x, .int t] ∧ TyB K H x T ∧ Q (.bl (letB x t)) H
theorem ok_isLet {f fN : Addr} {fd fdN : FuncData} (F : Fun K "is_letter" "is_letter" sIsLet f fd) (B : Bl mg) (N : Df K mg "is_number" sIsNum ["thing"] fN fdN) : FnOk P w K mg base CX0 2 f fd ["thing", "many"] (spIsLet K) := by
  have GN : FnOk P w K mg base CX0 1 fN fdN ["thing"] (spIsNum K) := ok_isNum N.F B
  refine F.ok scIsLet (fun vs H Q E h => ?_) (fun cdv A outer s H vs Q E hr h => ?_)
  · obtain ⟨x, T, t, rfl, _⟩ := h
    rfl
  · obtain ⟨x, T, t, rfl, ty, q⟩ := h
    refine ⟨_, pss_one (ps_ret (pe_and (pe_call GN hr rfl N.g N.F.kp N.b .nil pass0 (pa_cons (pv 0) pa_nil)) (pe_one (pe_chain op_le op_le pe_int (pe_callB call_abs (by rfl) B.abs (by decide +kernel) (pa_cons (pv 0) pa_nil)) (pv 1))))), ?_⟩
    show tRet _ _ [some x, some (.int t)] H
    walk_at "rd"
    refine ⟨x, T, rfl, ty, ?_⟩
    walk_at "rd"
    cases ty with
    | int i =>
      refine iteT ?_
      walk_at "rd"
      by_cases h1 : 1 ≤ absI i
      · have e : decide (1 ≤ if i < 0 then -i else i) = true := decide_eq_true h1
        rw [e]
        refine iteT ?_
        have q' := q
        unfold letB at q'
        simp only [h1, decide_true, Bool.true_and] at q'
        exact q'
      · have e : decide (1 ≤ if i < 0 then -i else i) = false := decide_eq_false h1
        rw [e]
        refine iteF ?_
        have q' := q
        unfold letB at q'
        simp only [h1, decide_false, Bool.false_and] at q'
        exact q'
    | _ => exact q
end
end Toy

-- part: P2
namespace Toy
open PySem L2
section
variable {P : Program} {w : World} {K : PySem.W.Frag} {mg : Str → Option Value} {base : Heap}
abbrev sClause : Stmt := topS 9
theorem scClause : FnScope ["thing", "many", "letters", "letter"] ["thing", "many"] (defScope sClause) := ⟨rfl, rfl, rfl, by decide +kernel, rfl, by decide +kernel, by decide +kernel⟩
/-- a list or a tuple of these -/
def SqA (K : PySem.W.Frag) (H : Hp) (p : Addr) (xs : List V) : Prop := SqL K H p xs ∨ SqT K H p xs
theorem Same.sqt {K : PySem.W.Frag} {H H' : Hp} {a : Addr} {xs : List V} (e : Same H H') (h : SqT K H a xs) : SqT K H' a xs := by
  rcases h with (h | ⟨o, h⟩) | h
  · exact .inl (.inl (e _ _ h))
  · exact .inl (.inr ⟨o, e _ _ h⟩)
  · exact .inr h
theorem SqA.same {K : PySem.W.Frag} {H H' : Hp} {p : Addr} {xs : List V} (e : Same H H') (h : SqA K H p xs) : SqA K H' p xs := h.elim (fun h => .inl (Same.seq e h)) fun h => .inr (Same.sqt e h)
theorem SqA.ty {K : PySem.W.Frag} {H : Hp} {p : Addr} {xs : List V} (h : SqA K H p xs) : ∃ T, TyB K H (.ref p) T ∧ (["list", "tuple"].contains T) = true := h.elim (fun h => ⟨"list", .lst h, by decide⟩) fun h => ⟨"tuple", .tup h, by decide⟩
theorem u100 {k : Nat} {A : Around} (hr : Room k A) : A.units + 100 < cLine := by have := hr.un; omega
def spClause (K : PySem.W.Frag) : Sp := fun vs H Q _ => ∃ p row t, vs = [.ref p, .int t] ∧ SqA K H p (row.map V.int) ∧ RowOk t row ∧ row.length ≤ 1000 ∧ ∀ (c : List Int) (a : Addr) (H' : Hp), IsCl row c → Same H H' → H' a = some (.tup (c.map V.int)) → Q (.ref a) H'
theorem ok_clause {f fN fL fT : Addr} {fd fdN fdL fdT : FuncData} (F : Fun K "clause_of" "clause_of" sClause f fd) (B : Bl mg) (N : Df K mg "is_number" sIsNum ["thing"] fN fdN) (L : Df K mg "is_list" sIsList ["thing"] fL fdL) (T : Df K mg "is_letter" sIsLet ["thing", "many"] fT fdT) :
    FnOk P w K mg base CX0 3 f fd ["thing", "many"] (spClause K) := by
  have GL : FnOk P w K mg base CX0 1 fL fdL ["thing"] (spIsList K) := ok_isList L.F B
  have GT : FnOk P w K mg base CX0 2 fT fdT ["thing", "many"] (spIsLet K) := ok_isLet T.F B N
  refine F.ok scClause (fun vs H Q E h => ?_) (fun cdv A outer s H vs Q E hr h => ?_)
  · obtain ⟨p, row, t, rfl, _⟩ := h
    rfl
  · obtain ⟨p, row, t, rfl, hS, ok, hlen, q⟩ := h
    have hu := hu_of hr
    refine ⟨_, pss_cons (ps_if (pt_not (pt_val (pe_call GL (hr.mono (by decide)) rfl L.g L.F.kp L.b .nil pass0 (pa_cons (pv 0) pa_nil)))) (pss_one (ps_ret pe_non)) pss_nil)
      (pss_cons (ps_set (i := 2) scClause.nd rfl (Or.inl rfl) pe_dnewK)
      (pss_cons (ps_for PassesOwn.never rfl (pi_or (pi_list (pv 0)) (pi_tup (pv 0))) (pg_name (i := 3) scClause.nd rfl (Or.inl rfl))
        (pss_cons (ps_if (PW.pt (pw_or (pt_not (pt_val (pe_call GT hr rfl T.g T.F.kp T.b .nil pass0 (pa_cons (pv 3) (pa_cons (pv 1) pa_nil))))) (pw_or1 (pt_cmp (pc_din hu (pe_un un_neg (pv 3)) (pv 2)))))) (pss_one (ps_ret pe_non)) pss_nil)
        (pss_one (ps_dput hu (pv 2) (pv 3) pe_bl rfl))))
      (pss_one (ps_ret (pe_callTy call_tuple_of (by rfl) B.tuple (by decide +kernel) (pa_cons (pe_sorted (run_list (u100 hr) rel_abs fun a => PyProof.Rows.ksk_t4 "abs" a) (key_abs (by rfl) B.abs) (by rfl) B.sorted
        (pa_cons (pe_callTy (call_listD rfl) (by rfl) B.list (by decide +kernel) (pa_cons (pv 2) pa_nil)) pa_nil)) pa_nil)))))), ?_⟩
    show tSeq _ _ _ [some (.ref p), some (.int t), none, none] H
    walk_at "rd"
    obtain ⟨Ty, ty, hty⟩ := hS.ty
    refine ⟨.ref p, Ty, rfl, ty, fun H1 s1 => ?_⟩
    rw [hty]
    walk_at "rd"
    refine iteF ?_
    walk_at "rd"
    intro d hd
    walk_at "rd"
    have nd1 : Same H1 (upd H1 d (.dK [])) := Same.new hd
    let Pv : Nat → St → Hp → Prop := fun i σ H' => ∃ (kvs : List (Key × V)) (ks : List Int) (lv : Option V), σ = [some (.ref p), some (.int t), some (.ref d), lv] ∧ Same H1 H' ∧ H' d = some (.dK kvs) ∧ kvs.map (·.1) = ks.map Sum.inl ∧ ks.Nodup ∧ (∀ z, z ∈ ks ↔ z ∈ row.take i) ∧ ks.length ≤ i
    have h0 : Pv 0 [some (.ref p), some (.int t), some (.ref d), none] (upd H1 d (.dK [])) := ⟨[], [], none, rfl, nd1, upd_same, rfl, List.nodup_nil, by simp, Nat.le_refl _⟩
    have sS : ∀ i σ H', Pv i σ H' → SqA K H' p (row.map V.int) := fun i σ H' ⟨_, _, _, _, e, _⟩ => SqA.same (Same.trans s1 e) hS
    have hs : ∀ (D : Ends) i x σ H', (row.map V.int)[i]? = some x → Pv i σ H' → (tSeq (tIfS (tOr (tNot (tB (tCall (spIsLet K) [] E0 (tCons (tVar 3) (tCons (tVar 1) tNil))))) (tB (tDIn (tUn (rU fun i => V.int (-i)) (tVar 3)) (tVar 2)))) (tRet (tC V.non)) tNext) (sDPut (tVar 2) (tVar 3) (tC (V.bl true)))) { D with nx := Pv (i + 1), ct := Pv (i + 1), bk := D.nx } (σ.set 3 (some x)) H' := by
      rintro D i x σ H' hi ⟨kvs, ks, lv, rfl, e1, hk, hkeys, hnd, hmem, hkl⟩
      rw [List.getElem?_map] at hi
      cases ez : row[i]? with
      | none => rw [ez] at hi; cases hi
      | some z =>
        rw [ez] at hi
        cases hi
        have zr : z ∈ row := List.mem_of_getElem? ez
        have hz1 := ok.low z zr
        have hz2 := ok.top z zr
        have hil : i < row.length := (List.getElem?_eq_some_iff.mp ez).1
        walk_at "rd"
        refine ⟨.int z, "int", t, rfl, .int z, ?_⟩
        have el : letB (.int z) t = true := by
          show (decide (1 ≤ absI z) && decide (absI z ≤ t)) = true
          rw [absI_nat]
          simp only [Bool.and_eq_true, decide_eq_true_eq]
          omega
        rw [el]
        walk_at "rd"
        refine iteF ?_
        refine ⟨d, _, rfl, DGet.k (k := Sum.inl (-z)) hk, ?_⟩
        rw [val_keys inl_inj hkeys (-z), decide_eq_false (fun h => ok.one z zr (List.mem_of_mem_take ((hmem _).mp h)))]
        walk_at "rd"
        refine iteF ?_
        walk_at "rd"
        refine ⟨d, _, rfl, DPut.k (k := Sum.inl z) hk ?_, ?_⟩
        · have := congrArg List.length hkeys
          rw [List.length_map, List.length_map] at this
          exact small1000 (by omega)
        · refine ⟨_, addU ks z, _, rfl, fun b o e => ?_, upd_same, keys_put inl_inj hkeys z _, nd_add hnd z, fun y => ?_, Nat.le_trans (len_add z) (by omega)⟩
          · have hb : b ≠ d := ne_of_none e hd
            rw [upd_ne hb]
            exact e1 b o e
          · rw [mem_add, hmem, List.take_add_one, ez]
            simp
    have hd' : ∀ σ H', Pv (row.map V.int).length σ H' → (tRet (tCB (fun xs H Q => ∃ p ys, xs = [V.ref p] ∧ ((SqL K H p ys ∧ ∀ (l : Addr), H l = none → Q (V.ref l) (upd H l (HO.tup ys))) ∨ SqT K H p ys ∧ Q (V.ref p) H)) (tCons (tSorted (rSortL K fun x H Q => ∃ i, x = V.int i ∧ Q (V.int (if i < 0 then -i else i)) H)
        (tCons (tCB (fun xs H Q => ∃ a kvs, xs = [V.ref a] ∧ Rd H a (HO.dK kvs) ∧ ∀ (p : Addr), H p = none → Q (V.ref p) (upd H p (HO.lst (List.map (fun kv => kV kv.fst) kvs)))) (tCons (tVar 2) tNil)) tNil)) tNil))) { nx := fun x H' => Q V.non H', rt := Q } σ H' := by
      rintro σ H' ⟨kvs, ks, lv, rfl, e1, hk, hkeys, hnd, hmem, hkl⟩
      rw [List.length_map] at hmem hkl
      rw [List.take_length] at hmem
      walk_at "rd"
      refine ⟨d, kvs, rfl, .inl hk, fun l hl => ?_⟩
      walk_at "rd"
      refine ⟨l, _, rfl, SqL.of upd_same, ?_⟩
      have ek : kvs.map (fun kv => kV kv.1) = ks.map V.int := by
        have := congrArg (List.map kV) hkeys
        rw [List.map_map, List.map_map] at this
        exact this
      rw [ek]
      refine go_abs fun out p2 hp ho hn => ?_
      refine ⟨p2, _, rfl, .inl ⟨SqL.of upd_same, fun l2 hl2 => ?_⟩⟩
      refine q out l2 _ ⟨strict_of hp hnd (fun x hx h => ok.one x ((hmem x).mp hx) ((hmem _).mp h)) (fun x hx => ok.low x ((hmem x).mp hx)) ho, fun x => (hp.mem_iff).trans (hmem x)⟩ ?_ upd_same
      exact Same.trans s1 (Same.trans e1 (Same.trans (Same.new hl) (Same.trans (Same.new hn) (Same.new hl2))))
    rcases hS with hS | hS
    · exact Or.inl ⟨_, rfl, p, rfl, ⟨_, Same.seq (Same.trans s1 nd1) hS⟩, for_list (K := K) (a := p) (xs := row.map V.int) Pv h0 (fun i σ H' _ ⟨_, _, _, _, e, _⟩ => Same.seq (Same.trans s1 e) hS) (hs _) hd'⟩
    · exact Or.inr ⟨_, rfl, p, rfl, ⟨_, Same.sqt (Same.trans s1 nd1) hS⟩, for_tup (K := K) (a := p) (xs := row.map V.int) Pv h0 (fun i σ H' _ ⟨_, _, _, _, e, _⟩ => Same.sqt (Same.trans s1 e) hS) (hs _) hd'⟩
end
end Toy

-- part: P3
namespace Toy
open PySem L2
section
variable {P : Program} {w : World} {K : PySem.W.Frag} {mg : Str → Option Value} {base : Heap}
abbrev sByLen : Stmt := topS 15
theorem scByLen : FnScope ["clause"] ["clause"] (defScope sByLen) := ⟨rfl, rfl, rfl, by decide +kernel, rfl, by decide +kernel, by decide +kernel⟩
def spByLen : Sp := fun vs H Q _ => ∃ x, vs = [x] ∧ relLen x H Q
theorem ok_byLen {f : Addr} {fd : FuncData} (F : Fun K "_by_length" "_by_length" sByLen f fd) (B : Bl mg) : FnOk P w K mg base CX0 1 f fd ["clause"] spByLen := by
  refine F.ok scByLen (fun vs H Q E h => ?_) (fun cdv A outer s H vs Q E hr h => ?_)
  · obtain ⟨x, rfl, _⟩ := h
    rfl
  · obtain ⟨x, rfl, c, l, rfl, hc, q⟩ := h
    refine ⟨_, pss_one (ps_ret (pe_tup (pa_cons (pe_callB call_len_seq (by rfl) B.len PySem.boot_len (pa_cons (pv 0) pa_nil)) (pa_cons (pv 0) pa_nil)))), ?_⟩
    show tRet _ _ [some (.ref c)] H
    walk_at "rd"
    refine ⟨c, l, rfl, .inr (SqT.of hc), by show 2 ≤ sizeLine; decide, fun p hp => q p hp⟩
abbrev sUnlike : Stmt := topS 14
theorem scUnlike : FnScope ["things", "many", "found", "at", "thing", "clause"] ["things", "many"] (defScope sUnlike) := ⟨rfl, rfl, rfl, by decide +kernel, rfl, by decide +kernel, by decide +kernel⟩
/-- rows of letters, each a list or a tuple -/
def RowsAt (K : PySem.W.Frag) (H : Hp) (xs : List V) (rows : List (List Int)) : Prop := Paired (fun (x : V) (row : List Int) => ∃ p, x = .ref p ∧ SqA K H p (row.map V.int)) xs rows
theorem RowsAt.same {H H' : Hp} (e : Same H H') : ∀ {xs : List V} {rows : List (List Int)}, RowsAt K H xs rows → RowsAt K H' xs rows
  | _, _, .nil => .nil
  | _, _, .cons ⟨p, h1, h2⟩ t => .cons ⟨p, h1, SqA.same e h2⟩ (RowsAt.same e t)
theorem RowsAt.get {H : Hp} : ∀ {xs : List V} {rows : List (List Int)} {i : Nat} {x : V}, RowsAt K H xs rows → xs[i]? = some x → ∃ row p, rows[i]? = some row ∧ x = .ref p ∧ SqA K H p (row.map V.int)
  | _, _, _, _, .nil, h => by simp at h
  | _, _, 0, _, .cons ⟨p, h1, h2⟩ t, e => by cases e; exact ⟨_, p, rfl, h1, h2⟩
  | _, _, i + 1, _, .cons h t, e => RowsAt.get (i := i) t e
theorem RowsAt.len {H : Hp} : ∀ {xs : List V} {rows : List (List Int)}, RowsAt K H xs rows → xs.length = rows.length
  | _, _, .nil => rfl
  | _, _, .cons _ t => by rw [List.length_cons, List.length_cons, RowsAt.len t]
/-- rows that make a problem of t truths -/
def RowsOk (t : Int) (rows : List (List Int)) : Prop := rows.length ≤ 400 ∧ ∀ row ∈ rows, RowOk t row ∧ row.length ≤ 1000
def spUnlike (K : PySem.W.Frag) : Sp := fun vs H Q _ => ∃ p xs rows t, vs = [.ref p, .int t] ∧ SqA K H p xs ∧ RowsAt K H xs rows ∧ RowsOk t rows ∧
  ∀ (l : Addr) (bs : List Addr) (cs : List (List Int)) (H' : Hp), Same H H' → H' l = some (.lst (bs.map V.ref)) → TupsAt H' bs cs → cs.Nodup → (∀ c, c ∈ cs ↔ ∃ row ∈ rows, IsCl row c) → cs.length ≤ rows.length → Q (.ref l) H'
theorem ok_unlike {f fN fL fT fC : Addr} {fd fdN fdL fdT fdC : FuncData} (F : Fun K "_unlike_clauses" "_unlike_clauses" sUnlike f fd) (B : Bl mg) (N : Df K mg "is_number" sIsNum ["thing"] fN fdN) (L : Df K mg "is_list" sIsList ["thing"] fL fdL) (T : Df K mg "is_letter" sIsLet ["thing", "many"] fT fdT)
    (C : Df K mg "clause_of" sClause ["thing", "many"] fC fdC) : FnOk P w K mg base CX0 4 f fd ["things", "many"] (spUnlike K) := by
  have GC : FnOk P w K mg base CX0 3 fC fdC ["thing", "many"] (spClause K) := ok_clause C.F B N L T
  refine F.ok scUnlike (fun vs H Q E h => ?_) (fun cdv A outer s H vs Q E hr h => ?_)
  · obtain ⟨p, xs, rows, t, rfl, _⟩ := h
    rfl
  · obtain ⟨p, xs, rows, t, rfl, hS, hR, ok, q⟩ := h
    have hu := hu_of hr
    refine ⟨_, pss_cons (ps_set (i := 2) scUnlike.nd rfl (Or.inl rfl) pe_dnewT)
      (pss_cons (ps_for PassesOwn.never rfl (pi_or (pi_enum (by rfl) B.enumerate (pa_cons (pv 0) pa_nil)) (pi_enumT (by rfl) B.enumerate (pa_cons (pv 0) pa_nil))) (pg_tup rfl (pgs_cons (pg_name (i := 3) scUnlike.nd rfl (Or.inl rfl)) (pgs_cons (pg_name (i := 4) scUnlike.nd rfl (Or.inl rfl)) pgs_nil)))
        (pss_cons (ps_set (i := 5) scUnlike.nd rfl (Or.inl rfl) (pe_call GC hr rfl C.g C.F.kp C.b .nil pass0 (pa_cons (pv 4) (pa_cons (pv 1) pa_nil))))
        (pss_cons (ps_if (pt_cmpR op_isN (pv 5) pe_non (nomark _)) (pss_one ps_never) pss_nil)
        (pss_one (ps_dput hu (pv 2) (pv 5) pe_bl rfl)))))
      (pss_one (ps_ret (pe_callTy (call_list_dT rfl) (by rfl) B.list (by decide +kernel) (pa_cons (pv 2) pa_nil))))), ?_⟩
    show tSeq _ _ _ [some (.ref p), some (.int t), none, none, none, none] H
    walk_at "rd"
    intro d hd
    have n0 : Same H (upd H d (.dT [])) := Same.new hd
    let Pv : Nat → St → Hp → Prop := fun i σ H' => ∃ (kvs : List (List Key × V)) (cs : List (List Int)) (l1 l2 l3 : Option V), σ = [some (.ref p), some (.int t), some (.ref d), l1, l2, l3] ∧ Same H H' ∧ H' d = some (.dT kvs) ∧ kvs.map (·.1) = cs.map tkey ∧ cs.Nodup ∧ (∀ c, c ∈ cs ↔ ∃ row ∈ rows.take i, IsCl row c) ∧ cs.length ≤ i
    have h0 : Pv 0 [some (.ref p), some (.int t), some (.ref d), none, none, none] (upd H d (.dT [])) := ⟨[], [], none, none, none, rfl, n0, upd_same, rfl, List.nodup_nil, by simp, Nat.le_refl _⟩
    have hs : ∀ (D : Ends) i x T σ H', xs[i]? = some x → Pv i σ H' → H' T = none → gTup K 2 (gCons (gName 3) (gCons (gName 4) gNil)) (.ref T) σ (upd H' T (.tup [.int (i : Nat), x])) fun σ2 H2 => (tSeq (tAsg (tCall (spClause K) [] E0 (tCons (tVar 4) (tCons (tVar 1) tNil))) (gName 5))
        (tSeq (tIfS (tTest (tOp (fun x y H Q => y = V.non ∧ Q (V.bl (decide (x = V.non))) H) (tVar 5) (tC V.non))) tNever tNext) (sDPut (tVar 2) (tVar 5) (tC (V.bl true))))) { D with nx := Pv (i + 1), ct := Pv (i + 1), bk := D.nx } σ2 H2 := by
      rintro D i x T σ H' hi ⟨kvs, cs, l1, l2, l3, rfl, e1, hk, hkeys, hnd, hmem, hkl⟩ hT
      have e2 : Same H (upd H' T (.tup [.int (i : Nat), x])) := Same.trans e1 (Same.new hT)
      obtain ⟨row, rp, hrow, rfl, hsq⟩ := (RowsAt.same e2 hR).get hi
      have rr : row ∈ rows := List.mem_of_getElem? hrow
      have hil : i < rows.length := (List.getElem?_eq_some_iff.mp hrow).1
      refine ⟨T, _, rfl, SqT.of upd_same, rfl, _, _, rfl, _, _, rfl, rfl, ?_⟩
      walk_at "rd"
      refine ⟨rp, row, t, rfl, hsq, (ok.2 row rr).1, (ok.2 row rr).2, fun c a H2 hc e3 ha => ?_⟩
      walk_at "rd"
      refine ⟨trivial, ?_⟩
      walk_at "rd"
      refine iteF ?_
      walk_at "rd"
      have hd2 : H2 d = some (.dT kvs) := e3 _ _ (Same.new hT _ _ hk)
      have ha' : H2 a = some (.tup ((tkey c).map kV)) := by rw [tkey_kV]; exact ha
      refine ⟨d, _, rfl, DPut.t (k := tkey c) hd2 ha' ?_, ?_⟩
      · have := congrArg List.length hkeys
        rw [List.length_map, List.length_map] at this
        have := ok.1
        exact small1000 (by omega)
      · refine ⟨_, addU cs c, _, _, _, rfl, fun b o e => ?_, upd_same, keys_put tkey_inj hkeys c _, nd_add hnd c, fun y => ?_, Nat.le_trans (len_add c) (by omega)⟩
        · have hb : b ≠ d := ne_of_none e hd
          rw [upd_ne hb]
          exact e3 _ _ (e2 b o e)
        · rw [mem_add, hmem, List.take_add_one, hrow]
          constructor
          · rintro (⟨r, h1, h2⟩ | rfl)
            · exact ⟨r, List.mem_append_left _ h1, h2⟩
            · exact ⟨row, List.mem_append_right _ (by simp), hc⟩
          · rintro ⟨r, h1, h2⟩
            rcases List.mem_append.mp h1 with h1 | h1
            · exact .inl ⟨r, h1, h2⟩
            · have : r = row := by simpa using h1
              subst this
              exact .inr (IsCl.ext h2 hc fun _ => Iff.rfl)
    have hd' : ∀ σ H', Pv xs.length σ H' → (tRet (tCB (fun xs H Q => ∃ d kvs, xs = [V.ref d] ∧ Rd H d (.dT kvs) ∧ ∀ p bs, H p = none → IsKeys H kvs bs → Q (.ref p) (upd H p (.lst (bs.map V.ref)))) (tCons (tVar 2) tNil))) { nx := fun x H' => Q V.non H', rt := Q } σ H' := by
      rintro σ H' ⟨kvs, cs, l1, l2, l3, rfl, e1, hk, hkeys, hnd, hmem, hkl⟩
      rw [hR.len, List.take_length] at hmem
      rw [hR.len] at hkl
      walk_at "rd"
      refine ⟨d, kvs, rfl, .inl hk, fun l bs hl hb => ?_⟩
      exact q l bs cs _ (Same.trans e1 (Same.new hl)) upd_same (TupsAt.same (Same.new hl) (tups_of_keys hb hkeys)) hnd hmem hkl
    rcases hS with hS | hS
    · exact Or.inl ⟨_, rfl, p, xs, rfl, Same.seq n0 hS, for_enumL (K := K) (a := p) Pv h0 (hs _) hd' (fun i σ H' _ ⟨_, _, _, _, _, _, e, _⟩ => Same.seq e hS)⟩
    · exact Or.inr ⟨_, rfl, p, xs, rfl, Same.sqt n0 hS, for_enumT (K := K) (a := p) Pv h0 (hs _) hd' (fun i σ H' _ ⟨_, _, _, _, _, _, e, _⟩ => Same.sqt e hS)⟩
end
end Toy

-- part: P4
namespace Toy
open PySem L2
section
variable {P : Program} {w : World} {K : PySem.W.Frag} {mg : Str → Option Value} {base : Heap}
abbrev sInit : Stmt := inClass (topS 13) 0
abbrev sEq : Stmt := inClass (topS 13) 1
theorem okN {x qual : Str} {params : Arguments} {body : List Stmt} {scope : Scope} {dvs : List V} {kws : List (Str × V)} {f : Addr} {fd : FuncData} {N ps : List Str} {k : Nat} {sp : Sp} (F : FunD K x qual params body scope dvs kws f fd) (S : FnScope N ps scope) (len : ∀ vs H Q E, sp vs H Q E → vs.length = ps.length)
    (hb : ∀ (cdv : Value) (A : Around) (outer : List Env) (s : Shared) (H : Hp) (vs : List V) (Q : VK) (E : XK), Room k (A.deeper (PyProof.Rows.envOfC qual scope s.heap.objs.size f cdv)) → sp vs H Q E →
      ∃ t, PSs (cxOf CX0 P w K mg base N qual scope f cdv A outer s H E).nox body t ∧ t { nx := fun _ H' => Q .non H', rt := Q } (start N vs) H) : FnOk P w K mg base CX0 (k + 1) f fd ps sp :=
  FunD.ok F S len fun cdv A outer s H vs Q E hr hsp => by
    obtain ⟨t, h, q⟩ := hb cdv A outer s H vs Q E hr hsp
    exact ⟨t, h.nox, q⟩
theorem kmc : ¬ (("many" : Str) = "clauses") := by decide +kernel
def flds (t : Int) (cp : Addr) : List (Str × V) := [("many", .int t), ("clauses", .ref cp)]
theorem flds_put (t : Int) (cp : Addr) : putF "clauses" (.ref cp) (putF "many" (.int t) []) = flds t cp := by
  show (if ("many" : Str) = "clauses" then _ else _) = _
  rw [if_neg kmc]
  rfl
theorem flds_many (t : Int) (cp : Addr) : (flds t cp).lookup ("many" : Str) = some (.int t) := by
  show List.lookup _ _ = _
  rw [← flds_put, lookup_putF, if_neg kmc, lookup_putF, if_pos rfl]
theorem flds_clauses (t : Int) (cp : Addr) : (flds t cp).lookup ("clauses" : Str) = some (.ref cp) := by
  rw [← flds_put, lookup_putF, if_pos rfl]
/-- a problem stands at x -/
structure Prb (C : Addr) (H : Hp) (x : Addr) (t : Int) (cp : Addr) (cs : List (List Int)) : Prop where
  ob : ∃ dx, H x = some (.ins C dx (flds t cp))
  cl : ∃ bs, H cp = some (.tup (bs.map V.ref)) ∧ TupsAt H bs cs
theorem Prb.same {C : Addr} {H H' : Hp} {x : Addr} {t : Int} {cp : Addr} {cs : List (List Int)} (e : Same H H') (p : Prb C H x t cp cs) : Prb C H' x t cp cs := by
  obtain ⟨⟨dx, h1⟩, bs, h2, h3⟩ := p
  exact ⟨⟨dx, e _ _ h1⟩, bs, e _ _ h2, TupsAt.same e h3⟩
/-- what the top has written of Problem and its defs -/
structure Prog (K : PySem.W.Frag) (mg : Str → Option Value) (C fN fL fT fC fU fB fI fE : Addr) (fdN fdL fdT fdC fdU fdB fdI fdE : FuncData) (eT : Addr) : Prop where
  N : Df K mg "is_number" sIsNum ["thing"] fN fdN
  L : Df K mg "is_list" sIsList ["thing"] fL fdL
  T : Df K mg "is_letter" sIsLet ["thing", "many"] fT fdT
  Cl : Df K mg "clause_of" sClause ["thing", "many"] fC fdC
  U : Df K mg "_unlike_clauses" sUnlike ["things", "many"] fU fdU
  B : Df K mg "_by_length" sByLen ["clause"] fB fdB
  I : FunD K "__init__" "Problem.__init__" (defArgs sInit) (defBody sInit) (defScope sInit) [.ref eT] [] fI fdI
  E : Fun K "__eq__" "Problem.__eq__" sEq fE fdE
  bI : Binds K fdI ["self", "many", "clauses"] []
  bD : Binds K fdI ["self", "many", "clauses"] [.ref eT]
  eT : SqT K (fun _ => none) eT []
  cl : Cls K C
  nM : NoAttr K C "many"
  nC : NoAttr K C "clauses"
  gC : mg "Problem" = some (.ref C)
  mak : Mk K C fI
  most : ∃ t, mg "MOST" = some (.int 400 t)
  mostC : ∃ t, mg "MOST_CLAUSES" = some (.int 400 t)
theorem scInit : FnScope ["self", "many", "clauses", "found"] ["self", "many", "clauses"] (defScope sInit) := ⟨rfl, rfl, rfl, by decide +kernel, rfl, by decide +kernel, by decide +kernel⟩
def spInit (K : PySem.W.Frag) (C : Addr) : Sp := fun vs H Q _ => ∃ x dx t p xs rows, vs = [.ref x, .int t, .ref p] ∧ H x = some (.ins C dx []) ∧ 1 ≤ t ∧ t ≤ 400 ∧ SqA K H p xs ∧ RowsAt K H xs rows ∧ RowsOk t rows ∧
  ∀ (cp : Addr) (cs : List (List Int)) (H' : Hp), Prb C H' x t cp cs → IsDue rows cs → Ex x H H' → Q .non H'
variable {C fN fL fT fC fU fB fI fE eT : Addr} {fdN fdL fdT fdC fdU fdB fdI fdE : FuncData}
theorem ok_init (G : Prog K mg C fN fL fT fC fU fB fI fE fdN fdL fdT fdC fdU fdB fdI fdE eT) (B : Bl mg) : FnOk P w K mg base CX0 5 fI fdI ["self", "many", "clauses"] (spInit K C) := by
  have GN : FnOk P w K mg base CX0 1 fN fdN ["thing"] (spIsNum K) := ok_isNum G.N.F B
  have GL : FnOk P w K mg base CX0 1 fL fdL ["thing"] (spIsList K) := ok_isList G.L.F B
  have GU : FnOk P w K mg base CX0 4 fU fdU ["things", "many"] (spUnlike K) := ok_unlike G.U.F B G.N G.L G.T G.Cl
  have GB : FnOk P w K mg base CX0 1 fB fdB ["clause"] spByLen := ok_byLen G.B.F B
  obtain ⟨tm, hm⟩ := G.most
  obtain ⟨tc, hmc⟩ := G.mostC
  refine okN G.I scInit (fun vs H Q E h => ?_) (fun cdv A outer s H vs Q E hr h => ?_)
  · obtain ⟨x, dx, t, p, xs, rows, rfl, _⟩ := h
    rfl
  · obtain ⟨x, dx, t, p, xs, rows, rfl, hx, t1, t4, hS, hR, ok, q⟩ := h
    have hu := hu_of hr
    refine ⟨_, pss_cons (ps_if (PW.pt (pw_or (pt_not (pt_val (pe_call GN (hr.mono (by decide)) rfl G.N.g G.N.F.kp G.N.b .nil pass0 (pa_cons (pv 1) pa_nil)))) (pw_or1 (pt_not (pt_chain op_le op_le pe_int (pv 1) (pe_glob rfl hm (v := .int 400) ⟨_, rfl⟩)))))) (pss_one ps_never) pss_nil)
      (pss_cons (ps_if (pt_not (pt_val (pe_call GL (hr.mono (by decide)) rfl G.L.g G.L.F.kp G.L.b .nil pass0 (pa_cons (pv 2) pa_nil)))) (pss_one ps_never) pss_nil)
      (pss_cons (ps_set (i := 3) scInit.nd rfl (Or.inl rfl) (pe_call GU hr rfl G.U.g G.U.F.kp G.U.b .nil pass0 (pa_cons (pv 2) (pa_cons (pv 1) pa_nil))))
      (pss_cons (ps_if (pt_cmpR op_gt (pe_callB call_len_seq (by rfl) B.len PySem.boot_len (pa_cons (pv 3) pa_nil)) (pe_glob rfl hmc (v := .int 400) ⟨_, rfl⟩) (nomark _)) (pss_one ps_never) pss_nil)
      (pss_cons (ps_fld (pv 0) (pv 1) rfl)
      (pss_one (ps_fld (pv 0) (pe_callTy call_tuple_of (by rfl) B.tuple (by decide +kernel) (pa_cons (pe_sorted (run_list (u100 hr) (rel_def GB (hr.mono (by decide)) G.B.b) fun a => PyProof.Rows.ksk_t1 _ a) (key_def (by rfl) G.B.g) (by rfl) B.sorted (pa_cons (pv 3) pa_nil)) pa_nil)) rfl)))))), ?_⟩
    show tSeq _ _ _ [some (.ref x), some (.int t), some (.ref p), none] H
    walk_at "rd"
    refine ⟨.int t, "int", rfl, .int t, ?_⟩
    walk_at "rd"
    refine iteF ?_
    rw [decide_eq_true t1, decide_eq_true t4]
    refine iteT (iteF ?_)
    obtain ⟨Ty, ty, hty⟩ := hS.ty
    refine ⟨.ref p, Ty, rfl, ty, fun H1 s1 => ?_⟩
    rw [hty]
    walk_at "rd"
    refine iteF ?_
    refine ⟨p, xs, rows, t, rfl, SqA.same s1 hS, RowsAt.same s1 hR, ok, fun l bs cs H2 s2 hl T nd hm hk => ?_⟩
    walk_at "rd"
    refine ⟨l, _, rfl, .inl (SqL.of hl), ?_⟩
    have hz : (bs.map V.ref).length ≤ 400 := by
      rw [List.length_map, T.len]
      have := ok.1
      omega
    rw [decide_eq_false (by omega)]
    refine iteF ?_
    have s02 : Same H H2 := Same.trans s1 s2
    have hx2 := s02 _ _ hx
    refine ⟨x, C, dx, [], rfl, hx2, G.cl, G.nM, (by show 0 < 1000; decide), ?_⟩
    have nlx : l ≠ x := ne_of hl hx2 (by intro z; cases z)
    have E1 : Ex x H2 (upd H2 x (.ins C dx (putF "many" (.int t) []))) := Ex.at
    have hl3 := E1 _ _ hl nlx
    have hx3 : upd H2 x (.ins C dx (putF "many" (.int t) [])) x = some (.ins C dx (putF "many" (.int t) [])) := upd_same
    have T3 : TupsAt (upd H2 x (.ins C dx (putF "many" (.int t) []))) bs cs := by
      have : ∀ (bs : List Addr) (cs : List (List Int)), TupsAt H2 bs cs → TupsAt (upd H2 x (.ins C dx (putF "many" (.int t) []))) bs cs := by
        intro bs cs h
        induction h with
        | nil => exact .nil
        | cons h t ih => exact .cons (E1 _ _ h (ne_of h hx2 (by intro z; cases z))) ih
      exact this bs cs T
    generalize upd H2 x (.ins C dx (putF "many" (.int t) [])) = H3 at *
    walk_at "rd"
    refine ⟨l, _, rfl, SqL.of hl3, ?_⟩
    refine go_cls (G := fun _ => True) trivial (fun _ _ _ _ => trivial) (fun x H Q _ h => ⟨x, rfl, h⟩) T3 fun zs H4 p4 hp ho s4 _ T4 hn4 => ?_
    walk_at "rd"
    refine ⟨p4, _, rfl, .inl ⟨SqL.of upd_same, fun l2 hl2 => ?_⟩⟩
    have s5 : Same H3 (upd (upd H4 p4 (.lst (zs.map fun z => V.ref z.1))) l2 (.tup (zs.map fun z => V.ref z.1))) := Same.trans s4 (Same.trans (Same.new hn4) (Same.new hl2))
    have s45 : Same H4 (upd (upd H4 p4 (.lst (zs.map fun z => V.ref z.1))) l2 (.tup (zs.map fun z => V.ref z.1))) := Same.trans (Same.new hn4) (Same.new hl2)
    have hx5 := s5 _ _ hx3
    have h25 : upd (upd H4 p4 (.lst (zs.map fun z => V.ref z.1))) l2 (.tup (zs.map fun z => V.ref z.1)) l2 = some (.tup (zs.map fun z => V.ref z.1)) := upd_same
    have T5 := TupsAt.same s45 T4
    generalize upd (upd H4 p4 (.lst (zs.map fun z => V.ref z.1))) l2 (.tup (zs.map fun z => V.ref z.1)) = H5 at *
    refine ⟨x, C, dx, _, rfl, hx5, G.cl, G.nC, (by show 1 < 1000; decide), ?_⟩
    have E6 : Ex x H5 (upd H5 x (.ins C dx (putF "clauses" (.ref l2) (putF "many" (.int t) [])))) := Ex.at
    have n2x : l2 ≠ x := ne_of h25 hx5 (by intro z; cases z)
    have pk : (zs.map (·.2)).Perm cs := by
      have q1 := hp.map (·.2)
      rw [List.map_snd_zip (by rw [T.len]; exact Nat.le_refl _)] at q1
      exact q1
    refine q l2 (zs.map (·.2)) _ ⟨⟨dx, ?_⟩, zs.map (·.1), ?_, ?_⟩ ⟨inc_of pk nd (List.pairwise_map.mpr ho), fun c => (pk.mem_iff).trans (hm c)⟩ ?_
    · rw [upd_same, flds_put]
    · rw [E6 _ _ h25 n2x, List.map_map]
      rfl
    · have : ∀ (bs : List Addr) (cs : List (List Int)), TupsAt H5 bs cs → TupsAt (upd H5 x (.ins C dx (putF "clauses" (.ref l2) (putF "many" (.int t) [])))) bs cs := by
        intro bs cs h
        induction h with
        | nil => exact .nil
        | cons h t ih => exact .cons (E6 _ _ h (ne_of h hx5 (by intro z; cases z))) ih
      exact this _ _ T5
    · exact Ex.trans (Ex.same s02) (Ex.trans E1 (Ex.trans (Ex.same s5) E6))
end
end Toy

-- part: P5
namespace Toy
open PySem L2
section
variable {P : Program} {w : World} {K : PySem.W.Frag} {mg : Str → Option Value} {base : Heap}
variable {C fN fL fT fC fU fB fI fE eT : Addr} {fdN fdL fdT fdC fdU fdB fdI fdE : FuncData}
theorem tyX_of {H : Hp} {x : V} {T : String} (t : TyB K H x T) : TyX K H x (.type T) := by
  cases t with
  | non => exact .base .non
  | bl b => exact .base (.bl b)
  | int i => exact .base (.int i)
  | str i => exact .base (.str i)
  | byt b => exact .byt b
  | lst h =>
    rcases h with (h | ⟨o, h⟩) | ⟨_, _, _, h, h2, _⟩
    · exact .base (.lst h)
    · exact .base (.frz h)
    · exact .kList h (by first | rfl | exact h2)
  | tup h =>
    rcases h with (h | ⟨o, h⟩) | ⟨_, _, _, h, h2, _⟩
    · exact .base (.tup h)
    · exact .fTuple h
    · exact .kTuple h (by first | rfl | exact h2)
  | dK h => exact .base (.dK h)
/-- what == is asked of beside problems -/
def OtherTy (K : PySem.W.Frag) (C : Addr) (T : String) : Prop := PySem.W.kitOne K (.type T) (.ref C) = some false ∧ PySem.W.notFirst K C (.type T) = true
theorem scEq : FnScope ["self", "other"] ["self", "other"] (defScope sEq) := ⟨rfl, rfl, rfl, by decide +kernel, rfl, by decide +kernel, by decide +kernel⟩
def spEq (K : PySem.W.Frag) (C : Addr) : Sp := fun vs H Q _ => ∃ a y t cp cs, vs = [.ref a, y] ∧ Prb C H a t cp cs ∧
  ((∃ T, TyB K H y T ∧ OtherTy K C T ∧ Q (.bl false) H) ∨ ∃ b t2 cp2 cs2, y = .ref b ∧ Prb C H b t2 cp2 cs2 ∧ Q (.bl (decide (t = t2) && decide (cs = cs2))) H)
theorem dp_prb {H : Hp} {x cp : Addr} {t : Int} {cs : List (List Int)} (p : Prb C H x t cp cs) : Dp K H (.ref cp) (dCls cs) := by
  obtain ⟨bs, h, T⟩ := p.cl
  exact .tup (SqT.of h) (dpAll_cls T)
theorem ok_eq (G : Prog K mg C fN fL fT fC fU fB fI fE fdN fdL fdT fdC fdU fdB fdI fdE eT) (B : Bl mg) (ic : C8.InsC K C) : FnOk P w K mg base CX0 1 fE fdE ["self", "other"] (spEq K C) := by
  refine G.E.ok scEq (fun vs H Q E h => ?_) (fun cdv A outer s H vs Q E hr h => ?_)
  · obtain ⟨a, y, t, cp, cs, rfl, _⟩ := h
    rfl
  · obtain ⟨a, y, t, cp, cs, rfl, p, h⟩ := h
    refine ⟨_, pss_one (ps_ret (pe_and (pe_callB call_isi (by rfl) B.isinstance (by decide +kernel) (pa_cons (pv 1) (pa_cons (pe_glob rfl G.gC (v := .ref C) rfl) pa_nil)))
      (pe_and (pe_cmpR op_eq (pe_fld (pv 0) rfl) (pe_fld (pv 1) rfl) (nomark _)) (pe_one (pe_cmpR (op_eqD hr.units) (pe_fld (pv 0) rfl) (pe_fld (pv 1) rfl) (nomark _)))))), ?_⟩
    show tRet _ _ [some (.ref a), some y] H
    walk_at "rd"
    obtain ⟨dx, hx⟩ := p.ob
    rcases h with ⟨T, ty, ⟨hk, _⟩, q⟩ | ⟨b, t2, cp2, cs2, rfl, p2, q⟩
    · refine ⟨y, .ref C, _, _, false, rfl, .own C, tyX_of ty, hk, ?_⟩
      walk_at "rd"
      exact iteF q
    · obtain ⟨dy, hy⟩ := p2.ob
      refine ⟨.ref b, .ref C, _, _, true, rfl, .own C, .base (.ins hy ic.cl ic.ha ic.hn ic.htk ic.hm), ic.me, ?_⟩
      walk_at "rd"
      refine ⟨_, rfl, a, C, dx, _, _, rfl, hx, G.cl, G.nM, flds_many t cp, _, rfl, b, C, dy, _, _, rfl, hy, G.cl, G.nM, flds_many t2 cp2, rfl, _, rfl, ?_⟩
      rw [dec_int]
      by_cases e : t = t2
      · subst e
        rw [beq_self_eq_true]
        refine iteT ?_
        refine ⟨_, rfl, a, C, dx, _, _, rfl, hx, G.cl, G.nC, flds_clauses t cp, _, rfl, b, C, dy, _, _, rfl, hy, G.cl, G.nC, flds_clauses t cp2, _, _, dp_prb p, dp_prb p2, shaped_cls _, shaped_cls _, ?_⟩
        rw [eqv_cls]
        simpa using q
      · rw [beq_eq_false_iff_ne.mpr e]
        refine iteF ?_
        simpa [e] using q
end
end Toy

-- part: L0
namespace Toy
open PySem L2
abbrev sMixed : Stmt := topS 17
theorem scMixed : FnScope ["cell", "k", "mix"] ["cell", "k"] (defScope sMixed) := ⟨rfl, rfl, rfl, by decide +kernel, rfl, by decide +kernel, by decide +kernel⟩
def spMixed : Sp := fun vs H Q _ => ∃ (c k : Int), vs = [.int c, .int k] ∧ 0 ≤ k ∧ k < 127 ∧ ∀ r : Int, 0 ≤ r → r < 2147483399 → Q (.int r) H
section
variable {P : Program} {w : World} {K : PySem.W.Frag} {mg : Str → Option Value} {base : Heap}
theorem ok_mixed {f : Addr} {fd : FuncData} (F : Fun K "_law_mixed" "_law_mixed" sMixed f fd) : FnOk P w K mg base CX0 1 f fd ["cell", "k"] spMixed := by
  refine F.ok scMixed (fun vs H Q E h => ?_) (fun cdv A outer s H vs Q E hr h => ?_)
  · obtain ⟨c, k, rfl, _⟩ := h
    rfl
  · obtain ⟨c, k, rfl, k0, k1, q⟩ := h
    refine ⟨_, pss_cons (ps_set (i := 2) scMixed.nd rfl (Or.inl rfl)
        (pe_op op_modN (pe_op op_pow (pe_op op_modN (pe_op op_mul (pe_op op_add (pe_op op_add (pe_op op_modN (pv 0) pe_int) (pe_op op_mul pe_int (pv 1))) pe_int) pe_int) pe_int) pe_int) pe_int))
      (pss_cons (ps_if (pt_cmpR op_lt (pv 0) (pe_op op_pow pe_int pe_int) (nomark _)) (pss_one (ps_ret (pv 2))) pss_nil)
      (pss_one (ps_ret (pe_op op_modN (pe_op op_add (pv 2) (pe_op op_modN (pe_op op_fdivW (pv 0) (pe_op op_pow pe_int pe_int)) (pe_op op_add pe_int (pe_op op_mul (pe_op op_add (pv 1) pe_int) pe_int)))) pe_int)))), ?_⟩
    show tSeq _ _ _ [some (.int c), some (.int k), none] H
    walk_at "rd"
    have m0 : ∀ a : Int, 0 ≤ a.fmod 2147483399 ∧ a.fmod 2147483399 < 2147483399 := fun a => by
      rw [Int.fmod_eq_emod_of_nonneg _ (by decide)]
      omega
    have m1 := m0 c
    have m2 := m0 ((c.fmod 2147483399 + 104729 * k + 11) * 48271)
    generalize c.fmod 2147483399 = x at *
    generalize ((x + 104729 * k + 11) * 48271).fmod 2147483399 = y at *
    have m3 := m0 (y ^ Int.toNat 5)
    refine ⟨by decide, .inl ⟨by decide, by decide⟩, .inl ⟨by omega, by omega⟩, by decide, ⟨by decide, by decide, by omega⟩, by decide, ⟨by decide, by decide, by decide⟩, ite2 (fun _ => q _ m3.1 m3.2) (fun _ => ?_)⟩
    have big : (1 : Int) + (k + 1) * 4014476939333036189094441199026045136645885247730 ≠ 0 := by omega
    refine ⟨⟨by decide, by decide, by decide⟩, wide_div (b := 60) (by decide) (by decide) (by decide) (by decide), .inl ⟨by omega, by omega⟩, big, by decide, q _ (m0 _).1 (m0 _).2⟩
abbrev sNext : Stmt := topS 18
theorem scNext : FnScope ["draw", "size", "at", "many", "cell"] ["draw", "size"] (defScope sNext) := ⟨rfl, rfl, rfl, by decide +kernel, rfl, by decide +kernel, by decide +kernel⟩
def spNext (K : PySem.W.Frag) : Sp := fun vs H Q _ => ∃ (d : Addr) (z : Int) (sc : Addr) (ns : List Int), vs = [.ref d, .int z] ∧ 0 < z ∧ DrA K sc ns H d ∧ ∀ (r : Int) (H' : Hp), 0 ≤ r → r < z → Ex d H H' → DrA K sc ns H' d → Q (.int r) H'
theorem ok_next {f fM : Addr} {fd fdM : FuncData} (F : Fun K "_law_next" "_law_next" sNext f fd) (B : Bl mg) (M : Df K mg "_law_mixed" sMixed ["cell", "k"] fM fdM) : FnOk P w K mg base CX0 2 f fd ["draw", "size"] (spNext K) := by
  have GM : FnOk P w K mg base CX0 1 fM fdM ["cell", "k"] spMixed := ok_mixed M.F
  refine F.ok scNext (fun vs H Q E h => ?_) (fun cdv A outer s H vs Q E hr h => ?_)
  · obtain ⟨c, k, sc, ns, rfl, _⟩ := h
    rfl
  · obtain ⟨d, z, sc, ns, rfl, z0, ⟨n, D⟩, q⟩ := h
    have hu := hu_of hr
    refine ⟨_, pss_cons (ps_set (i := 2) scNext.nd rfl (Or.inl rfl) (pe_ix ix_list (pv 0) pe_int (fun _ _ => rfl)))
      (pss_cons (ps_asg (pe_op op_add (pv 2) pe_int) (pg_sub (pv 0) pe_int set_list))
      (pss_cons (ps_set (i := 3) scNext.nd rfl (Or.inl rfl) (pe_callB (call_max2 rfl) (by rfl) B.max (by decide +kernel) (pa_cons pe_int (pa_cons (pe_callB call_len_seq (by rfl) B.len PySem.boot_len (pa_cons (pe_ix ix_list (pv 0) pe_int (fun _ _ => rfl)) pa_nil)) pa_nil))))
      (pss_cons (ps_set (i := 4) scNext.nd rfl (Or.inl rfl) pe_int)
      (pss_cons (ps_if (pt_cmpR (op_neD hr.units) (pe_ix ix_list (pv 0) pe_int (fun _ _ => rfl)) (pe_lst pa_nil) (nomark _)) (pss_one (ps_set (i := 4) scNext.nd rfl (Or.inl rfl) (pe_ix ix_list (pe_ix ix_list (pv 0) pe_int (fun _ _ => rfl)) (pe_op op_modN (pv 2) (pv 3)) (fun _ _ => rfl)))) pss_nil)
      (pss_one (ps_ret (pe_op op_modN (pe_op op_fdivN (pe_call GM hr rfl M.g M.F.kp M.b .nil pass0 (pa_cons (pv 4) (pa_cons (pe_op op_modN (pe_op op_fdivN (pv 2) (pv 3)) pe_int) pa_nil))) pe_int) (pv 1)))))))), ?_⟩
    show tSeq _ _ _ [some (.ref d), some (.int z), none, none, none] H
    walk_at "rd"
    refine p_ix (SqL.of D.dr) (i := 1) (v := .int n) rfl ?_
    walk_at "rd"
    refine p_set D.dr (j := 1) rfl ?_
    have D1 : Dr K (upd H d (.lst [.ref sc, .int (n + 1)])) d sc ns (n + 1) := ⟨upd_same, Dr.sqx D Ex.at, D.len, by have := D.pos; omega⟩
    refine p_ix (SqL.of D1.dr) (i := 0) (v := .ref sc) rfl ?_
    refine ⟨_, _, rfl, .inl D1.sq, ?_⟩
    walk_at "rd"
    refine p_ix (SqL.of D1.dr) (i := 0) (v := .ref sc) rfl ?_
    walk_at "rd"
    refine ⟨Nat.zero_le _, fun p hp => ?_⟩
    refine p_neD (.lst (Same.seq (Same.new hp) D1.sq) (dp_ints ns)) (.lst (SqL.of upd_same) .nil) (shaped_lints ns) (by decide) ?_
    walk_at "rd"
    rw [List.length_map]
    have D2 : Dr K (upd (upd H d (.lst [.ref sc, .int (n + 1)])) p (.lst [])) d sc ns (n + 1) := ⟨Same.new hp _ _ D1.dr, Same.seq (Same.new hp) D1.sq, D.len, D1.pos⟩
    have X2 : Ex d H (upd (upd H d (.lst [.ref sc, .int (n + 1)])) p (.lst [])) := Ex.trans Ex.at (Ex.same (Same.new hp))
    generalize upd (upd H d (.lst [.ref sc, .int (n + 1)])) p (.lst []) = H2 at *
    have hm : ∃ m : Int, (if (ns.length : Int) > 1 then (ns.length : Int) else 1) = m ∧ 0 < m ∧ m ≤ 63 ∧ (ns ≠ [] → m = ns.length) := by
      have l := D.len
      refine ⟨_, rfl, ?_⟩
      by_cases c : (ns.length : Int) > 1
      · rw [if_pos c]
        exact ⟨by omega, by omega, fun _ => rfl⟩
      · rw [if_neg c]
        refine ⟨by decide, by decide, fun e => ?_⟩
        have := List.length_pos_iff.mpr e
        omega
    obtain ⟨m, em, m0, m1, m2⟩ := hm
    rw [em]
    have n0 := D.pos
    have fin : ∀ c : Int, CDivN n m ∧ (127 : Int) ≠ 0 ∧ spMixed [V.int c, V.int ((n.fdiv m).fmod 127)] H2 (fun x H1 => rI CDivN (fun i j => V.int (i.fdiv j)) x (V.int 7) H1 fun x H1 => rI (fun x j => j ≠ 0) (fun i j => V.int (i.fmod j)) x (V.int z) H1 Q) E0 := by
      intro c
      refine ⟨⟨by omega, by omega⟩, by decide, c, _, rfl, ?_, ?_, fun r r0 r1 => ?_⟩
      · rw [Int.fmod_eq_emod_of_nonneg _ (by decide)]; omega
      · rw [Int.fmod_eq_emod_of_nonneg _ (by decide)]; omega
      · walk_at "rd"
        refine ⟨⟨by decide, by decide⟩, by omega, ?_⟩
        rw [Int.fmod_eq_emod_of_nonneg _ (by omega)]
        exact q _ _ (Int.emod_nonneg _ (by omega)) (Int.emod_lt_of_pos _ z0) X2 ⟨_, D2⟩
    refine ite2 (fun hc => ?_) (fun _ => fin 0)
    have hne : ns ≠ [] := fun e => by subst e; exact absurd hc (by decide)
    refine p_ix (SqL.of D2.dr) (i := 0) (v := .ref sc) rfl ?_
    refine ⟨by omega, ?_⟩
    obtain ⟨c, hc⟩ := at_ints (ns := ns) (i := n.fmod m) (by rw [Int.fmod_eq_emod_of_nonneg _ (by omega)]; exact Int.emod_nonneg _ (by omega)) (by rw [Int.fmod_eq_emod_of_nonneg _ (by omega), ← m2 hne]; exact Int.emod_lt_of_pos _ m0)
    exact p_ix D2.sq hc (fin c)
end
end Toy

-- part: L1
namespace Toy
open PySem L2
section
variable {P : Program} {w : World} {K : PySem.W.Frag} {mg : Str → Option Value} {base : Heap}
abbrev sRow : Stmt := topS 19
theorem scRow : FnScope ["draw", "truths", "signs", "row", "k", "near", "far", "truth", "sign"] ["draw", "truths"] (defScope sRow) := ⟨rfl, rfl, rfl, by decide +kernel, rfl, by decide +kernel, by decide +kernel⟩
def spRow (K : PySem.W.Frag) : Sp := fun vs H Q _ => ∃ d t sc ns, vs = [.ref d, .int t] ∧ 1 ≤ t ∧ t ≤ 400 ∧ DrA K sc ns H d ∧
  ∀ (l : Addr) (row : List Int) (H' : Hp), RowOk t row → row.length ≤ 6 → Ex d H H' → DrA K sc ns H' d → H' l = some (.lst (row.map V.int)) → H l = none → Q (.ref l) H'
theorem ok_row {f fM fX : Addr} {fd fdM fdX : FuncData} (F : Fun K "_law_row" "_law_row" sRow f fd) (B : Bl mg) (M : Df K mg "_law_mixed" sMixed ["cell", "k"] fM fdM) (X : Df K mg "_law_next" sNext ["draw", "size"] fX fdX) :
    FnOk P w K mg base CX0 3 f fd ["draw", "truths"] (spRow K) := by
  have GX : FnOk P w K mg base CX0 2 fX fdX ["draw", "size"] (spNext K) := ok_next X.F B M
  refine F.ok scRow (fun vs H Q E h => ?_) (fun cdv A outer s H vs Q E hr h => ?_)
  · obtain ⟨d, t, sc, ns, rfl, _⟩ := h
    rfl
  · obtain ⟨d, t, sc, ns, rfl, t1, t4, hD, q⟩ := h
    have hu := hu_of hr
    refine ⟨_, pss_cons (ps_par (i := 2) (j := 3) rfl scRow.nd rfl rfl (by decide) rfl rfl (pa_cons pe_dnewK (pa_cons (pe_lst pa_nil) pa_nil)) (by rfl))
      (pss_cons (ps_for PassesOwn.never rfl (pi_range1 rfl B.range (pa_cons (pe_call GX hr rfl X.g X.F.kp X.b .nil pass0 (pa_cons (pv 0) (pa_cons pe_int pa_nil))) pa_nil)) (pg_name (i := 4) scRow.nd rfl (Or.inl rfl))
        (pss_cons (ps_par (i := 5) (j := 6) rfl scRow.nd rfl rfl (by decide) rfl rfl
          (pa_cons (pe_op op_add pe_int (pe_call GX hr rfl X.g X.F.kp X.b .nil pass0 (pa_cons (pv 0) (pa_cons (pe_callB (call_min2 rfl) (by rfl) B.min (by decide +kernel) (pa_cons (pv 1) (pa_cons pe_int pa_nil))) pa_nil))))
          (pa_cons (pe_op op_sub (pv 1) (pe_call GX hr rfl X.g X.F.kp X.b .nil pass0 (pa_cons (pv 0) (pa_cons (pe_callB (call_min2 rfl) (by rfl) B.min (by decide +kernel) (pa_cons (pv 1) (pa_cons pe_int pa_nil))) pa_nil)))) pa_nil)) (by rfl))
        (pss_cons (ps_set (i := 7) scRow.nd rfl (Or.inl rfl) (pe_ix ix_list (pe_lst (pa_cons (pv 5) (pa_cons (pv 6) pa_nil))) (pe_call GX hr rfl X.g X.F.kp X.b .nil pass0 (pa_cons (pv 0) (pa_cons pe_int pa_nil))) (fun _ _ => rfl)))
        (pss_cons (ps_set (i := 8) scRow.nd rfl (Or.inl rfl) (pe_dsetd (pv 2) (pv 7) (pe_ix ix_list (pe_lst (pa_cons pe_int (pa_cons (pe_un un_neg pe_int) pa_nil))) (pe_call GX hr rfl X.g X.F.kp X.b .nil pass0 (pa_cons (pv 0) (pa_cons pe_int pa_nil))) (fun _ _ => rfl)) ⟨rfl, rfl, rfl, rfl⟩))
        (pss_one (ps_expr (pe_bm PySem.F.plainAttrs_list PySem.F.slot_list_append PySem.F.type_list_append mt_append (pv 3) (pa_cons (pe_op op_mul (pv 7) (pv 8)) pa_nil))))))))
      (pss_one (ps_ret (pv 3)))), ?_⟩
    show tSeq _ _ _ [some (.ref d), some (.int t), none, none, none, none, none, none, none] H
    walk_at "rd"
    intro g hg
    refine ⟨Nat.zero_le _, fun l hl => ?_⟩
    walk_at "rd"
    have nlg : l ≠ g := fun e => by rw [e, upd_same] at hl; cases hl
    have hlH : H l = none := by rw [upd_ne nlg] at hl; exact hl
    have s2 : Same H (upd (upd H g (.dK [])) l (.lst [])) := Same.trans (Same.new hg) (Same.new hl)
    have D2 := DrA.same s2 hD
    have hg2 : upd (upd H g (.dK [])) l (.lst []) g = some (.dK []) := by rw [upd_ne (Ne.symm nlg), upd_same]
    have hl2 : upd (upd H g (.dK [])) l (.lst []) l = some (.lst []) := upd_same
    have ngd : g ≠ d := hD.nd hg
    have nld : l ≠ d := hD.nd hlH
    generalize upd (upd H g (.dK [])) l (.lst []) = H2 at *
    refine ⟨_, rfl, d, 7, sc, ns, rfl, by decide, D2, fun r0 H3 r00 r01 E3 D3 => ⟨r0, rfl, by omega, by omega, ?_⟩⟩
    refine for_range (fun i σ H' => ∃ (kvs : List (Key × V)) (row : List Int) (ks : List Int) (l1 l2 l3 l4 l5 : Option V), σ = [some (.ref d), some (.int t), some (.ref g), some (.ref l), l1, l2, l3, l4, l5] ∧ Ex d H H' ∧ DrA K sc ns H' d ∧ H' g = some (.dK kvs) ∧ H' l = some (.lst (row.map V.int)) ∧ row.length ≤ i ∧
      kvs.map (·.1) = ks.map Sum.inl ∧ ks.length ≤ i ∧ (∀ k v, valV kvs (Sum.inl k) = some v → v = .int 1 ∨ v = .int (-1)) ∧ ∀ x ∈ row, 1 ≤ x.natAbs ∧ (x.natAbs : Int) ≤ t ∧ valV kvs (Sum.inl (absI x)) = some (.int (if x < 0 then -1 else 1)))
      ⟨[], [], [], none, none, none, none, none, rfl, Ex.trans (Ex.same s2) E3, D3, E3 _ _ hg2 ngd, E3 _ _ hl2 nld, Nat.le_refl _, rfl, Nat.le_refl _, (fun k v h => by cases h), (fun x h => nomatch h)⟩ ?_ ?_
    · rintro i σ H4 hi ⟨kvs, row, ks, l1, l2, l3, l4, l5, rfl, E4, D4, hg4, hl4, hrl, hkeys, hkl, hval, hrow⟩
      have hi7 : i < 7 := by omega
      have hm : 0 < (if 6 < t then (6 : Int) else t) ∧ (if 6 < t then (6 : Int) else t) ≤ t := by split <;> omega
      walk_at "rd"
      generalize (if 6 < t then (6 : Int) else t) = m at hm ⊢
      refine ⟨d, m, sc, ns, rfl, hm.1, D4, fun r1 H5 r10 r11 E5 D5 => ?_⟩
      walk_at "rd"
      refine ⟨d, m, sc, ns, rfl, hm.1, D5, fun r2 H6 r20 r21 E6 D6 => ?_⟩
      walk_at "rd"
      refine ⟨by show 2 ≤ sizeLine; decide, fun p hp => ?_⟩
      have D7 := DrA.same (Same.new (o := .lst [.int (1 + r1), .int (t - r2)]) hp) D6
      refine ⟨d, 2, sc, ns, rfl, by decide, D7, fun r3 H8 r30 r31 E8 D8 => ?_⟩
      have hp8 : H8 p = some (.lst [.int (1 + r1), .int (t - r2)]) := E8 _ _ upd_same (D6.nd hp)
      have htr : ∃ tr, atI [V.int (1 + r1), V.int (t - r2)] r3 = some (.int tr) ∧ 1 ≤ tr ∧ tr ≤ t := by
        rcases at_two (a := V.int (1 + r1)) (b := V.int (t - r2)) r30 r31 with ⟨_, e⟩ | ⟨_, e⟩
        · exact ⟨_, e, by omega, by omega⟩
        · exact ⟨_, e, by omega, by omega⟩
      obtain ⟨tr, htr, tr1, tr4⟩ := htr
      refine p_ix (SqL.of hp8) htr ?_
      walk_at "rd"
      have E48 : Ex d H4 H8 := Ex.trans E5 (Ex.trans E6 (Ex.trans (Ex.new hp) E8))
      have hg8 := E48 _ _ hg4 ngd
      have hl8 := E48 _ _ hl4 nld
      refine ⟨g, rfl, .inl ⟨_, .inl hg8⟩, ?_⟩
      refine ⟨by show 2 ≤ sizeLine; decide, fun p2 hp2 => ?_⟩
      have D9 := DrA.same (Same.new (o := .lst [.int 1, .int (-1)]) hp2) D8
      refine ⟨d, 2, sc, ns, rfl, by decide, D9, fun r4 Ha r40 r41 Ea Da => ?_⟩
      have hpa : Ha p2 = some (.lst [.int 1, .int (-1)]) := Ea _ _ upd_same (D8.nd hp2)
      have hsg : ∃ sg : Int, atI [V.int 1, V.int (-1)] r4 = some (.int sg) ∧ (sg = 1 ∨ sg = -1) := by
        rcases at_two (a := V.int 1) (b := V.int (-1)) r40 r41 with ⟨_, e⟩ | ⟨_, e⟩
        · exact ⟨_, e, .inl rfl⟩
        · exact ⟨_, e, .inr rfl⟩
      obtain ⟨sg, hsg, sg1⟩ := hsg
      refine p_ix (SqL.of hpa) hsg ?_
      have E4a : Ex d H4 Ha := Ex.trans E48 (Ex.trans (Ex.new hp2) Ea)
      have hga := E4a _ _ hg4 ngd
      have hla := E4a _ _ hl4 nld
      have hkz : kvs.length = ks.length := by
        have := congrArg List.length hkeys
        rw [List.length_map, List.length_map] at this
        exact this
      -- the sign s of the truth tr, the dict behind it
      have fin : ∀ (s : Int) (kvs' : List (Key × V)) (ks' : List Int) (Hb : Hp), (s = 1 ∨ s = -1) → Hb g = some (.dK kvs') → Hb l = some (.lst (row.map V.int)) → Ex d H Hb → DrA K sc ns Hb d → kvs'.map (·.1) = ks'.map Sum.inl → ks'.length ≤ i + 1 →
          (∀ k v, valV kvs' (Sum.inl k) = some v → v = .int 1 ∨ v = .int (-1)) → valV kvs' (Sum.inl tr) = some (.int s) → (∀ k v, valV kvs (Sum.inl k) = some v → valV kvs' (Sum.inl k) = some v) →
          tyV K "list" (.ref l) Hb ∧ rI CMul (fun i j => V.int (i * j)) (.int tr) (.int s) Hb fun x H1 => rAppend (.ref l) [x] H1 fun x H1 => ∃ (kvs : List (Key × V)) (row ks : List Int) (l1 l2 l3 l4 l5 : Option V), [some (V.ref d), some (.int t), some (.ref g), some (.ref l), some (.int (0 + (i : Int))), some (.int (1 + r1)), some (.int (t - r2)), some (.int tr), some (.int s)] = [some (.ref d), some (.int t), some (.ref g), some (.ref l), l1, l2, l3, l4, l5] ∧ Ex d H H1 ∧ DrA K sc ns H1 d ∧ H1 g = some (.dK kvs) ∧ H1 l = some (.lst (row.map V.int)) ∧ row.length ≤ i + 1 ∧
            kvs.map (·.1) = ks.map Sum.inl ∧ ks.length ≤ i + 1 ∧ (∀ k v, valV kvs (Sum.inl k) = some v → v = .int 1 ∨ v = .int (-1)) ∧ ∀ x ∈ row, 1 ≤ x.natAbs ∧ (x.natAbs : Int) ≤ t ∧ valV kvs (Sum.inl (absI x)) = some (.int (if x < 0 then -1 else 1)) := by
        intro s kvs' ks' Hb hs1 hgb hlb Eb Db hk' hkl' hv' htrs hmono
        refine ⟨Or.inl ⟨rfl, _, SqL.of hlb⟩, ?_⟩
        walk_at "rd"
        refine ⟨.inl ⟨by omega, by omega⟩, p_app hlb (by rw [List.length_map]; exact small1000 (by omega)) ?_⟩
        have Eu : ∀ b o, Hb b = some o → b ≠ l → upd Hb l (.lst (row.map V.int ++ [.int (tr * s)])) b = some o := fun b o e n => by rw [upd_ne n]; exact e
        refine ⟨kvs', row ++ [tr * s], ks', _, _, _, _, _, rfl, fun b o e n => Eu _ _ (Eb b o e n) (ne_of_none e hlH), ?_, Eu _ _ hgb (Ne.symm nlg), by rw [upd_same, List.map_append]; rfl, by rw [List.length_append, List.length_singleton]; omega, hk', hkl', hv', fun x hx => ?_⟩
        · exact DrA.up hD Db Eb hlH
        · rcases List.mem_append.mp hx with hx | hx
          · obtain ⟨a1, a2, a3⟩ := hrow x hx
            exact ⟨a1, a2, hmono _ _ a3⟩
          · have e : x = tr * s := by simpa using hx
            subst e
            have ea : absI (tr * s) = tr ∧ (tr * s).natAbs = tr.natAbs ∧ (if tr * s < 0 then (-1 : Int) else 1) = s := by
              rcases hs1 with rfl | rfl
              · rw [Int.mul_one]
                refine ⟨by rw [absI_nat]; omega, rfl, if_neg (by omega)⟩
              · rw [Int.mul_neg, Int.mul_one]
                refine ⟨by rw [absI_nat]; omega, by omega, if_pos (by omega)⟩
            rw [ea.1, ea.2.1, ea.2.2]
            exact ⟨by omega, by omega, htrs⟩
      have E0a : Ex d H Ha := Ex.trans E4 E4a
      refine ⟨kvs, Sum.inl tr, hga, rfl, small1000 (by omega), fun v hv => ?_, fun hn => ?_⟩
      · rcases hval tr v hv with rfl | rfl
        · exact fin 1 kvs ks Ha (.inl rfl) hga hla E0a Da hkeys (by omega) hval hv (fun _ _ h => h)
        · exact fin (-1) kvs ks Ha (.inr rfl) hga hla E0a Da hkeys (by omega) hval hv (fun _ _ h => h)
      · have Eg : ∀ b o, Ha b = some o → b ≠ g → upd Ha g (.dK (putK kvs (Sum.inl tr) (.int sg))) b = some o := fun b o e n => by rw [upd_ne n]; exact e
        refine fin sg (putK kvs (Sum.inl tr) (.int sg)) (addU ks tr) _ sg1 upd_same (Eg _ _ hla nlg) (fun b o e n => Eg _ _ (E0a b o e n) (ne_of_none e hg)) ?_ (keys_put inl_inj hkeys tr _) (Nat.le_trans (len_add tr) (by omega)) (fun k v h => ?_) (by rw [valV_put, if_pos rfl]) fun k v h => ?_
        · exact DrA.up hD Da E0a hg
        · rw [valV_put] at h
          split at h
          · cases h
            rcases sg1 with rfl | rfl
            · exact .inl rfl
            · exact .inr rfl
          · exact hval k v h
        · rw [valV_put]
          split
          · rename_i e
            rw [e, hn] at h
            cases h
          · exact h
    · rintro σ H4 ⟨kvs, row, ks, l1, l2, l3, l4, l5, rfl, E4, D4, hg4, hl4, hrl, hkeys, hkl, hval, hrow⟩
      walk_at "rd"
      refine q l row H4 ⟨fun x hx => (hrow x hx).1, fun x hx => (hrow x hx).2.1, fun x hx hn => ?_⟩ (by omega) E4 D4 hl4 hlH
      obtain ⟨a1, a2, a3⟩ := hrow x hx
      obtain ⟨b1, b2, b3⟩ := hrow _ hn
      have e : absI (-x) = absI x := by rw [absI_nat, absI_nat]; omega
      rw [e, a3] at b3
      have := Option.some.inj b3
      have := V.int.inj this
      by_cases h : x < 0
      · rw [if_pos h, if_neg (by omega)] at this
        cases this
      · rw [if_neg h, if_pos (by omega)] at this
        cases this
end
end Toy

-- part: L2a
namespace Toy
open PySem PySem.Spec PyProof.Rows L2
section
variable {P : Program} {w : World} {K : PySem.W.Frag} {mg : Str → Option Value} {base : Heap}
/-- a def whose code object stands at c -/
structure FunT (K : PySem.W.Frag) (x qual : Str) (st : Stmt) (c f : Addr) (fd : FuncData) : Prop where
  ex : ∃ (oc : Value) (od : Option Addr) (kV doc pm : Value) (an : Option Addr) (ct : Value) (osl : Array (Option Value)),
    fd = PySem.W.fnOf x qual (defArgs st) (defBody st) (defScope st) .none kV doc pm an (.ref c) ct ∧ K.lookup f = some ⟨oc, od, .func fd, osl⟩ ∧ PySem.W.codeIn K (.ref c) qual = true
  kp : PySem.W.keepIn K (.ref f) = true
theorem FunT.ok {x qual : Str} {st : Stmt} {c f : Addr} {fd : FuncData} {N ps : List Str} {k : Nat} {sp : Sp} (F : FunT K x qual st c f fd) (S : FnScope N ps (defScope st)) (len : ∀ vs H Q E, sp vs H Q E → vs.length = ps.length)
    (hb : ∀ (A : Around) (outer : List Env) (s : Shared) (H : Hp) (vs : List V) (Q : VK) (E : XK), Room k (A.deeper (envOfC qual (defScope st) s.heap.objs.size f (.ref c))) → sp vs H Q E →
      ∃ t, PSs (cxOf CX0 P w K mg base N qual (defScope st) f (.ref c) A outer s H E).nox (defBody st) t ∧ t { nx := fun _ H' => Q .non H', rt := Q } (start N vs) H) : FnOk P w K mg base CX0 (k + 1) f fd ps sp := by
  obtain ⟨oc, od, kV, doc, pm, an, ct, osl, rfl, lk, hcd⟩ := F.ex
  refine fn_of lk hcd S len fun A outer s H vs Q E hr hsp => ?_
  obtain ⟨t, h, q⟩ := hb A outer s H vs Q E hr hsp
  exact ⟨t, h.nox, q⟩
end
/-! ### what the tables leave -/
open LamX (Tabs TabS ExtN CodeO)
theorem ExtN.same {H H' : Hp} (e : Same H H') : ExtN H H' := fun b o h _ => e b o h
theorem Tabs.same {T : List (Addr × Str)} {H H' : Hp} (e : Same H H') (t : Tabs T H) : Tabs T H' := LamX.Tabs.ext t e
/-- all but a list or a dict stays: the tables, too -/
theorem Tabs.ex {T : List (Addr × Str)} {H H' : Hp} {d : Addr} (e : Ex d H H') (h : (∃ xs, H d = some (.lst xs)) ∨ (∃ kvs, H d = some (.dK kvs)) ∨ (∃ kvs, H d = some (.dT kvs)) ∨ H d = none) (t : Tabs T H) : Tabs T H' := fun p hp => by
  obtain ⟨ps, h1, h2, h3⟩ := t p hp
  refine ⟨ps, e _ _ h1 fun z => ?_, h2, fun pos cv hc => ?_⟩
  · rw [z] at h1
    rcases h with ⟨_, h⟩ | ⟨_, h⟩ | ⟨_, h⟩ | h <;> rw [h] at h1 <;> cases h1
  · obtain ⟨c, e1, e2⟩ := h3 pos cv hc
    refine ⟨c, e1, e _ _ e2 fun z => ?_⟩
    rw [z] at e2
    rcases h with ⟨_, h⟩ | ⟨_, h⟩ | ⟨_, h⟩ | h <;> rw [h] at e2 <;> cases e2
theorem ExtN.sql {K : PySem.W.Frag} {H H' : Hp} {a : Addr} {xs : List V} (e : ExtN H H') (h : SqL K H a xs) : SqL K H' a xs := by
  rcases h with (h | ⟨o, h⟩) | h
  · exact .inl (.inl (e _ _ h fun _ z => by cases z))
  · exact .inl (.inr ⟨o, e _ _ h fun _ z => by cases z⟩)
  · exact .inr h
theorem ExtN.sqt {K : PySem.W.Frag} {H H' : Hp} {a : Addr} {xs : List V} (e : ExtN H H') (h : SqT K H a xs) : SqT K H' a xs := by
  rcases h with (h | ⟨o, h⟩) | h
  · exact .inl (.inl (e _ _ h fun _ z => by cases z))
  · exact .inl (.inr ⟨o, e _ _ h fun _ z => by cases z⟩)
  · exact .inr h
theorem TupsAt.extN {H H' : Hp} (e : ExtN H H') : ∀ {bs : List Addr} {cs : List (List Int)}, TupsAt H bs cs → TupsAt H' bs cs
  | _, _, .nil => .nil
  | _, _, .cons h t => .cons (e _ _ h fun _ z => by cases z) (TupsAt.extN e t)
theorem DrA.extN {K : PySem.W.Frag} {sc : Addr} {ns : List Int} {H H' : Hp} {d : Addr} (e : ExtN H H') : DrA K sc ns H d → DrA K sc ns H' d := fun ⟨n, h⟩ => ⟨n, e _ _ h.dr (fun _ z => by cases z), ExtN.sql e h.sq, h.len, h.pos⟩
/-! ### the letters of a row as keys -/
theorem keys_merge : ∀ (row : List Int) {kvs : List (Key × V)} {ks : List Int} {f : Int → V}, kvs.map (·.1) = ks.map Sum.inl → (mergeK kvs (row.map fun i => ((Sum.inl i : Key), f i))).map (·.1) = (row.foldl addU ks).map Sum.inl
  | [], _, _, _, h => h
  | i :: r, kvs, ks, f, h => keys_merge r (kvs := putK kvs (Sum.inl i) (f i)) (ks := addU ks i) (keys_put inl_inj h i _)
theorem nd_fold : ∀ (row : List Int) {ks : List Int}, ks.Nodup → (row.foldl addU ks).Nodup
  | [], _, h => h
  | i :: r, _, h => nd_fold r (nd_add h i)
theorem mem_fold (z : Int) : ∀ (row : List Int) {ks : List Int}, z ∈ row.foldl addU ks ↔ z ∈ ks ∨ z ∈ row
  | [], _ => by simp
  | i :: r, ks => by
    rw [List.foldl_cons, mem_fold z r, mem_add, List.mem_cons]
    exact or_assoc
end Toy

-- part: L2
namespace Toy
open PySem L2
open LamX (Tabs TabS ExtN CodeO TabB)
section
variable {P : Program} {w : World} {K : PySem.W.Frag} {mg : Str → Option Value} {base : Heap}
abbrev sDue : Stmt := topS 20
theorem scDue : FnScope ["rows", "found", "row", "letter"] ["rows"] (defScope sDue) := ⟨rfl, rfl, rfl, by decide +kernel, rfl, by decide +kernel, by decide +kernel⟩
abbrev qLam : Str := "_law_due.<locals>.<lambda>"
/-- lists of letters -/
def ListsAt (K : PySem.W.Frag) (H : Hp) (ps : List Addr) (rows : List (List Int)) : Prop := Paired (fun (q : Addr) (row : List Int) => SqL K H q (row.map V.int)) ps rows
theorem ListsAt.same {H H' : Hp} (e : Same H H') : ∀ {ps : List Addr} {rows : List (List Int)}, ListsAt K H ps rows → ListsAt K H' ps rows
  | _, _, .nil => .nil
  | _, _, .cons h t => .cons (Same.seq e h) (ListsAt.same e t)
theorem ListsAt.get {H : Hp} : ∀ {ps : List Addr} {rows : List (List Int)} {i : Nat} {p : Addr}, ListsAt K H ps rows → ps[i]? = some p → ∃ row, rows[i]? = some row ∧ SqL K H p (row.map V.int)
  | _, _, _, _, .nil, h => by simp at h
  | _, _, 0, _, .cons h t, e => by cases e; exact ⟨_, rfl, h⟩
  | _, _, i + 1, _, .cons h t, e => ListsAt.get (i := i) t e
theorem ListsAt.len {H : Hp} : ∀ {ps : List Addr} {rows : List (List Int)}, ListsAt K H ps rows → ps.length = rows.length
  | _, _, .nil => rfl
  | _, _, .cons _ t => by rw [List.length_cons, List.length_cons, ListsAt.len t]
theorem yesT {σ : St} {H : Hp} {a b : Hp → Prop} (h : a H) : tYes σ H fun b' H3 => if b' = true then a H3 else b H3 := h
theorem Paired.snoc {α β : Type} {F : α → β → Prop} {x : α} {y : β} (h : F x y) : ∀ {l : List α} {m : List β}, Paired F l m → Paired F (l ++ [x]) (m ++ [y])
  | _, _, .nil => .cons h .nil
  | _, _, .cons a t => .cons a (Paired.snoc h t)
theorem Paired.imp {α β : Type} {F G : α → β → Prop} (h : ∀ x y, F x y → G x y) : ∀ {l : List α} {m : List β}, Paired F l m → Paired G l m
  | _, _, .nil => .nil
  | _, _, .cons a t => .cons (h _ _ a) (Paired.imp h t)
def spDue (K : PySem.W.Frag) (T : List (Addr × Str)) : Sp := fun vs H Q _ => ∃ p ps rows t, vs = [.ref p] ∧ SqL K H p (ps.map V.ref) ∧ ListsAt K H ps rows ∧ RowsOk t rows ∧ Tabs T H ∧
  ∀ (a : Addr) (bs : List Addr) (cs : List (List Int)) (H' : Hp), IsDue rows cs → cs.length ≤ rows.length → ExtN H H' → Tabs T H' → H' a = some (.tup (bs.map V.ref)) → TupsAt H' bs cs → Q (.ref a) H'
def rLen (K : PySem.W.Frag) : List V → Hp → VK → Prop := fun xs H Q => ∃ p ys, xs = [V.ref p] ∧ (SqL K H p ys ∨ SqT K H p ys) ∧ Q (V.int ys.length) H
def tLenB (K : PySem.W.Frag) : TE := tTup (tCons (tCB (rLen K) (tCons (tVar 0) tNil)) (tCons (tVar 0) tNil))
theorem ok_due {f c PT : Addr} {fd : FuncData} (F : FunT K "_law_due" "_law_due" sDue c f fd) (B : Bl mg) (TB : TabB base mg c PT) :
    FnOk P w K mg base CX0 4 f fd ["rows"] (spDue K [(PT, qLam)]) := by
  refine F.ok scDue (fun vs H Q E h => ?_) (fun A outer s H vs Q E hr h => ?_)
  · obtain ⟨p, ps, rows, t, rfl, _⟩ := h
    rfl
  · obtain ⟨p, ps, rows, t, rfl, hS, hR, ok, hT, q⟩ := h
    have hu := hu_of hr
    refine ⟨_, pss_cons (ps_set (i := 1) scDue.nd rfl (Or.inl rfl) pe_dnewT)
      (pss_cons (ps_for PassesOwn.never rfl (pi_list (pv 0)) (pg_name (i := 2) scDue.nd rfl (Or.inl rfl))
        (pss_one (ps_dput hu (pv 1) (pe_callTy call_tuple_of (by rfl) B.tuple (by decide +kernel) (pa_cons (pe_sorted (run_dict rfl (u100 hr) rel_abs fun a => PyProof.Rows.ksk_t4 "abs" a) (key_abs (by rfl) B.abs) (by rfl) B.sorted
          (pa_cons (pe_callTy (call_dictP rfl) (by rfl) B.dict (by decide +kernel) (pa_cons (pe_lc (own := [("letter", 3)]) (g := gName 3) (tt := tYes) rfl scDue.nd (pi_list (pv 2)) (blkOk_by (own := [("letter", 3)]) (N := ["rows", "found", "row", "letter"]) (sc := defScope sDue) (by decide +kernel))
            (fun _ _ _ _ _ => pg_name (i := 3) scDue.nd rfl (Or.inl rfl)) (fun _ _ _ _ _ => pts_nil) (fun _ _ _ _ _ => pe_tup (pa_cons (pv 3) (pa_cons pe_bl pa_nil)))) pa_nil)) pa_nil)) pa_nil)) pe_bl rfl)))
      (pss_one (ps_ret (pe_callTy call_tuple_of (by rfl) B.tuple (by decide +kernel) (pa_cons (pe_sortedLam (T := [(PT, qLam)]) (fun f c' pm ctv => run_dictT rfl (u100 hr) (rel_lam (k := 0) (x := "clause") (tb := tLenB K) ⟨rfl, rfl, rfl, by decide +kernel, rfl, by decide +kernel, by decide +kernel⟩ hr (fun _ => rfl)
          (fun A' outer' s' H' hr' => pe_tup (pa_cons (pe_callB call_len_seq (by rfl) B.len PySem.boot_len (pa_cons (pv 0) pa_nil)) (pa_cons (pv 0) pa_nil)))) fun a => PyProof.Rows.ksk_t1 _ a) TB rfl (List.mem_singleton.mpr rfl) (fun p hp e => by simp at hp; rw [hp]; rfl) rfl (by decide +kernel) (by rfl) B.sorted (pa_cons (pv 1) pa_nil)) pa_nil))))), ?_⟩
    show tSeq _ _ _ [some (.ref p), none, none, none] H
    walk_at "rd"
    intro d hd
    have n0 : Same H (upd H d (.dT [])) := Same.new hd
    let Pv : Nat → St → Hp → Prop := fun i σ H' => ∃ (kvs : List (List Key × V)) (cs : List (List Int)) (l1 : Option V), σ = [some (.ref p), some (.ref d), l1, none] ∧ Same H H' ∧ H' d = some (.dT kvs) ∧ kvs.map (·.1) = cs.map tkey ∧ cs.Nodup ∧ (∀ c, c ∈ cs ↔ ∃ row ∈ rows.take i, IsCl row c) ∧ cs.length ≤ i
    refine ⟨_, rfl, p, rfl, ⟨_, Same.seq n0 hS⟩, for_list (K := K) (a := p) (xs := ps.map V.ref) Pv ⟨[], [], none, rfl, n0, upd_same, rfl, List.nodup_nil, by simp, Nat.le_refl _⟩ (fun i σ H' _ ⟨_, _, _, _, e, _⟩ => Same.seq e hS) ?_ ?_⟩
    · rintro i x σ H' hi ⟨kvs, cs, l1, rfl, e1, hk, hkeys, hnd, hmem, hkl⟩
      rw [List.getElem?_map] at hi
      cases ez : ps[i]? with
      | none => rw [ez] at hi; cases hi
      | some rp =>
      rw [ez] at hi
      cases hi
      obtain ⟨row, hrow, hsq⟩ := (ListsAt.same e1 hR).get ez
      have rr : row ∈ rows := List.mem_of_getElem? hrow
      have hil : i < rows.length := (List.getElem?_eq_some_iff.mp hrow).1
      obtain ⟨rok, rlen⟩ := ok.2 row rr
      walk_at "rd"
      refine ⟨_, rfl, rp, rfl, ⟨_, hsq⟩, fun D hD => lc_list (K := K) (a := rp) (xs := row.map V.int) (fun j Hj => ∃ ps2 : List Addr, Same H' Hj ∧ Hj D = some (.lst (ps2.map V.ref)) ∧ ps2.length = j ∧
        Paired (fun (b : Addr) (kv : Key × V) => Hj b = some (.tup [kV kv.1, kv.2])) ps2 ((row.take j).map fun i => ((Sum.inl i : Key), V.bl true))) ⟨[], Same.new hD, upd_same, rfl, .nil⟩ (fun j Hj _ ⟨_, e, _⟩ => Same.seq e hsq) ?_ ?_⟩
      · rintro j x Hj hj ⟨ps2, ej, hDj, hlj, hpj⟩
        rw [List.getElem?_map] at hj
        cases ey : row[j]? with
        | none => rw [ey] at hj; cases hj
        | some y =>
        rw [ey] at hj
        cases hj
        have hjl : j < row.length := (List.getElem?_eq_some_iff.mp ey).1
        refine ⟨rfl, yesT ?_⟩
        show tTup _ [some (V.ref p), some (V.ref d), some (V.ref rp), some (V.int y)] _ _
        walk_at "rd"
        refine ⟨by show 2 ≤ sizeLine; decide, fun b hb => ?_⟩
        have hDb : upd Hj b (.tup [.int y, .bl true]) D = some (.lst (ps2.map V.ref)) := Same.new hb _ _ hDj
        refine ⟨_, hDb, by rw [List.length_map]; exact small1000 (by omega), ps2 ++ [b], fun z o hz => ?_, by rw [upd_same, List.map_append]; rfl, by rw [List.length_append, hlj]; rfl, ?_⟩
        · rw [upd_ne (ne_of_none hz hD)]
          exact Same.new hb _ _ (ej z o hz)
        · have nbD : b ≠ D := fun z => by rw [z, hDj] at hb; cases hb
          rw [List.take_add_one, ey]
          simp only [Option.toList_some, List.map_append, List.map_cons, List.map_nil]
          refine Paired.snoc ?_ (Paired.imp (fun z kv hz => ?_) hpj)
          · show upd _ D _ b = _
            rw [upd_ne nbD, upd_same]
            rfl
          · show upd _ D _ z = _
            rw [upd_ne (ne_of hz hDj (by intro z; cases z)), upd_ne (ne_of_none hz hb)]
            exact hz
      · rintro Hj ⟨ps2, ej, hDj, hlj, hpj⟩
        rw [List.length_map, List.take_length] at hpj
        refine ⟨D, ps2, _, rfl, SqL.of hDj, Paired.imp (fun z kv hz => SqT.of hz) hpj, fun l hl => ?_⟩
        have hkk := keys_merge row (kvs := []) (ks := []) (f := fun _ => V.bl true) rfl
        have hnn := nd_fold row (ks := []) List.nodup_nil
        have hmm : ∀ z, z ∈ row.foldl addU [] ↔ z ∈ row := fun z => (mem_fold z row).trans (by simp)
        generalize mergeK [] (row.map fun i => ((Sum.inl i : Key), V.bl true)) = kv2 at *
        generalize row.foldl addU [] = ks2 at *
        walk_at "rd"
        refine ⟨l, kv2, rfl, .inl upd_same, ?_⟩
        have ek : kv2.map (fun kv => kV kv.1) = ks2.map V.int := by
          have := congrArg (List.map kV) hkk
          rw [List.map_map, List.map_map] at this
          exact this
        rw [ek]
        refine go_abs fun out p2 hp ho hn => ?_
        walk_at "rd"
        refine ⟨p2, _, rfl, .inl ⟨SqL.of upd_same, fun l2 hl2 => ?_⟩⟩
        have hc : IsCl row out := ⟨strict_of hp hnn (fun x hx h => rok.one x ((hmm x).mp hx) ((hmm _).mp h)) (fun x hx => rok.low x ((hmm x).mp hx)) ho, fun x => (hp.mem_iff).trans (hmm x)⟩
        have e3 : Same H' (upd (upd (upd Hj l (.dK kv2)) p2 (.lst (out.map V.int))) l2 (.tup (out.map V.int))) := Same.trans ej (Same.trans (Same.new hl) (Same.trans (Same.new hn) (Same.new hl2)))
        have ha' : upd (upd (upd Hj l (.dK kv2)) p2 (.lst (out.map V.int))) l2 (.tup (out.map V.int)) l2 = some (.tup ((tkey out).map kV)) := by rw [tkey_kV]; exact upd_same
        have hd2 := e3 _ _ hk
        generalize upd (upd (upd Hj l (.dK kv2)) p2 (.lst (out.map V.int))) l2 (.tup (out.map V.int)) = H9 at *
        walk_at "rd"
        refine ⟨d, _, rfl, DPut.t (k := tkey out) hd2 ha' ?_, ?_⟩
        · have := congrArg List.length hkeys
          rw [List.length_map, List.length_map] at this
          have := ok.1
          exact small1000 (by omega)
        · refine ⟨_, addU cs out, _, rfl, fun b o e => ?_, upd_same, keys_put tkey_inj hkeys out _, nd_add hnd out, fun y => ?_, Nat.le_trans (len_add out) (by omega)⟩
          · have hb : b ≠ d := ne_of_none e hd
            rw [upd_ne hb]
            exact e3 _ _ (e1 b o e)
          · rw [mem_add, hmem, List.take_add_one, hrow]
            constructor
            · rintro (⟨r, h1, h2⟩ | rfl)
              · exact ⟨r, List.mem_append_left _ h1, h2⟩
              · exact ⟨row, List.mem_append_right _ (by simp), hc⟩
            · rintro ⟨r, h1, h2⟩
              rcases List.mem_append.mp h1 with h1 | h1
              · exact .inl ⟨r, h1, h2⟩
              · have : r = row := by simpa using h1
                subst this
                exact .inr (IsCl.ext h2 hc fun _ => Iff.rfl)
    · rintro σ H' ⟨kvs, cs, l1, rfl, e1, hk, hkeys, hnd, hmem, hkl⟩
      rw [List.length_map, hR.len, List.take_length] at hmem
      rw [List.length_map, hR.len] at hkl
      walk_at "rd"
      refine ⟨_, rfl, _, rfl, Tabs.same e1 hT, fun c' H2 x2 t2 hc' => ⟨d, kvs, rfl, .inl (x2 _ _ hk fun _ z => by cases z), fun bs hb => ?_⟩⟩
      have T2 := tups_of_keys hb hkeys
      refine go_cls (G := fun H' => H' c' = some (CodeO c' qLam)) hc' (fun _ _ h e => e _ _ h) (fun x H Q g h => ⟨g, ?_⟩) T2 fun zs H4 p4 hp ho s4 _ T4 hn4 => ?_
      · obtain ⟨a, l, rfl, ha, q⟩ := h
        show tTup _ _ _ _
        unfold rLen
        walk_at "rd"
        exact ⟨a, l, rfl, .inr (SqT.of ha), by show 2 ≤ sizeLine; decide, fun t ht => q t ht⟩
      · walk_at "rd"
        refine ⟨p4, _, rfl, .inl ⟨SqL.of upd_same, fun l2 hl2 => ?_⟩⟩
        have s45 : Same H4 (upd (upd H4 p4 (.lst (zs.map fun z => V.ref z.1))) l2 (.tup (zs.map fun z => V.ref z.1))) := Same.trans (Same.new hn4) (Same.new hl2)
        have pk : (zs.map (·.2)).Perm cs := by
          have q1 := hp.map (·.2)
          rw [List.map_snd_zip (by rw [T2.len]; exact Nat.le_refl _)] at q1
          exact q1
        have po : (zs.map (·.2)).Pairwise fun a b => ltC b a = false := by
          rw [List.pairwise_map]
          exact ho
        refine q l2 (zs.map (·.1)) (zs.map (·.2)) _ ⟨inc_of pk hnd po, fun c => (pk.mem_iff).trans (hmem c)⟩ (by rw [pk.length_eq]; exact hkl) ?_ ?_ (by rw [upd_same, List.map_map]; rfl) (TupsAt.same s45 T4)
        · exact ExtN.trans (ExtN.same e1) (ExtN.trans x2 (ExtN.same (Same.trans s4 s45)))
        · exact Tabs.same (Same.trans s4 s45) t2
end
end Toy

-- part: L3
namespace Toy
open PySem L2
open LamX (Tabs TabS ExtN CodeO TabB)
section
variable {P : Program} {w : World} {K : PySem.W.Frag} {mg : Str → Option Value} {base : Heap}
abbrev sMix : Stmt := topS 21
theorem scMix : FnScope ["draw", "some", "found", "one"] ["draw", "some"] (defScope sMix) := ⟨rfl, rfl, rfl, by decide +kernel, rfl, by decide +kernel, by decide +kernel⟩
def spMix (K : PySem.W.Frag) : Sp := fun vs H Q _ => ∃ d p xs sc ns, vs = [.ref d, .ref p] ∧ SqL K H p xs ∧ xs.length ≤ 1000 ∧ p ≠ d ∧ DrA K sc ns H d ∧
  ∀ (l : Addr) (ys : List V) (H' : Hp), ys.Perm xs → Ex d H H' → DrA K sc ns H' d → H' l = some (.lst ys) → H l = none → Q (.ref l) H'
theorem ok_mix {f fM fX : Addr} {fd fdM fdX : FuncData} (F : Fun K "_law_mixed_up" "_law_mixed_up" sMix f fd) (B : Bl mg) (M : Df K mg "_law_mixed" sMixed ["cell", "k"] fM fdM) (X : Df K mg "_law_next" sNext ["draw", "size"] fX fdX) :
    FnOk P w K mg base CX0 3 f fd ["draw", "some"] (spMix K) := by
  have GX : FnOk P w K mg base CX0 2 fX fdX ["draw", "size"] (spNext K) := ok_next X.F B M
  refine F.ok scMix (fun vs H Q E h => ?_) (fun cdv A outer s H vs Q E hr h => ?_)
  · obtain ⟨d, p, xs, sc, ns, rfl, _⟩ := h
    rfl
  · obtain ⟨d, p, xs, sc, ns, rfl, hS, hz, npd, hD, q⟩ := h
    have hu := hu_of hr
    refine ⟨_, pss_cons (ps_set (i := 2) scMix.nd rfl (Or.inl rfl) (pe_lst pa_nil))
      (pss_cons (ps_for PassesOwn.never rfl (pi_list (pv 1)) (pg_name (i := 3) scMix.nd rfl (Or.inl rfl))
        (pss_one (ps_expr (pe_bm PySem.F.plainAttrs_list PySem.F.slot_list_insert PySem.F.type_list_insert mt_insert (pv 2)
          (pa_cons (pe_call GX hr rfl X.g X.F.kp X.b .nil pass0 (pa_cons (pv 0) (pa_cons (pe_op op_add (pe_callB call_len_seq (by rfl) B.len PySem.boot_len (pa_cons (pv 2) pa_nil)) pe_int) pa_nil))) (pa_cons (pv 3) pa_nil))))))
      (pss_one (ps_ret (pv 2)))), ?_⟩
    show tSeq _ _ _ [some (.ref d), some (.ref p), none, none] H
    walk_at "rd"
    refine ⟨Nat.zero_le _, fun l hl => ?_⟩
    walk_at "rd"
    refine ⟨_, rfl, p, rfl, ⟨_, Same.seq (Same.new hl) hS⟩, for_list (K := K) (a := p) (xs := xs) (fun i σ H' => ∃ (ys : List V) (l1 : Option V), σ = [some (.ref d), some (.ref p), some (.ref l), l1] ∧ Ex d H H' ∧ DrA K sc ns H' d ∧ H' l = some (.lst ys) ∧ ys.Perm (xs.take i))
      ⟨[], none, rfl, Ex.new hl, DrA.same (Same.new hl) hD, upd_same, .nil⟩ (fun i σ H' _ ⟨_, _, _, e, _⟩ => Ex.sql e npd hS) ?_ ?_⟩
    · rintro i x σ H' hi ⟨ys, l1, rfl, e1, D1, hl1, pm⟩
      have hil : i < xs.length := (List.getElem?_eq_some_iff.mp hi).1
      have hyl : ys.length = i := by rw [pm.length_eq, List.length_take]; omega
      have nld : l ≠ d := hD.nd hl
      walk_at "rd"
      refine ⟨Or.inl ⟨rfl, _, SqL.of hl1⟩, l, ys, rfl, .inl (SqL.of hl1), ?_⟩
      walk_at "rd"
      refine ⟨d, _, sc, ns, rfl, by omega, D1, fun r H2 r0 r1 E2 D2 => ?_⟩
      walk_at "rd"
      have hl2 := E2 _ _ hl1 nld
      have e2 := Ex.trans e1 E2
      refine ⟨l, ys, r, x, rfl, rfl, hl2, small1000 (by omega), r0, by omega, ?_⟩
      refine ⟨_, _, rfl, Ex.up e2 hl, DrA.up hD D2 e2 hl, upd_same, ?_⟩
      rw [List.take_add_one, hi]
      have q1 : (ys.take r.toNat ++ [x] ++ ys.drop r.toNat).Perm (ys ++ [x]) := by
        have q2 : (ys.take r.toNat ++ [x] ++ ys.drop r.toNat).Perm (ys.take r.toNat ++ ys.drop r.toNat ++ [x]) := by
          rw [List.append_assoc, List.append_assoc]
          exact List.Perm.append_left _ List.perm_append_comm
        rw [List.take_append_drop] at q2
        exact q2
      exact q1.trans (List.Perm.append_right _ pm)
    · rintro σ H' ⟨ys, l1, rfl, e1, D1, hl1, pm⟩
      rw [List.take_length] at pm
      walk_at "rd"
      exact q l ys H' pm e1 D1 hl1 hl
end
end Toy

-- part: RG
namespace L2
open PySem PySem.Spec PyProof.Rows
section
variable {X : Cx}
/-- repr of nested lists and tuples -/
def rRepr (K : PySem.W.Frag) : List V → Hp → VK → Prop := fun xs H Q => ∃ a d, xs = [.ref a] ∧ Dp K H (.ref a) d ∧ d.showable = true ∧ d.hasDict = false ∧ d.depth ≤ 60 ∧ d.shown.length ≤ sizeLine ∧ Q (.str d.shown) H
theorem call_reprD (hg : X.A.guards = some []) (hu : X.A.units + 100 < cLine) : CallR X (.builtin "repr") (rRepr X.K) := by
  intro pins s σ H xs us Q I r h
  obtain ⟨a, d, rfl, hd, hs, hn, hp, hz, q⟩ := h
  obtain ⟨u, rfl, ru⟩ := vals1 r
  obtain ⟨as, hr⟩ := Dp.reads I d _ _ hd ru
  cases ru
  exact PySem.repr_of_reads' hr hs (PyData.noDict_hsm hn) hg (by omega) (fun _ _ e => e) (fun h' u tk hk => ⟨.str _, H, I.un (Un.kept hk) (I.hok.kept hk), ⟨_, rfl⟩, q⟩) hz
end
/-- a def that is called where no object's text is under way -/
structure FnG (P : Program) (w : World) (K : PySem.W.Frag) (mg : Str → Option Value) (base : Heap) (k : Nat) (f : Addr) (fd : FuncData) (ps : List Str) (sp : Sp) : Prop where
  len : ∀ vs H Q E, sp vs H Q E → vs.length = ps.length
  run : ∀ (A : Around) (outer : List Env) (s : Shared) (H : Hp) (args : Args) (us : List Value) (vs : List V) (Q : VK) (E : XK), A.guards = some [] → Room k A → Env0 P w K mg base A outer s H → BindsTo s fd args (ps.zip us) → Vals vs us → sp vs H Q E →
    codeAny (model P w) A (.call (.ref f) args) (CR CX0 outer P w H s Q E) s
theorem deeper_guards {A : Around} {env : Env} (h : A.guards = some []) : (A.deeper env).guards = some [] := by
  show _ = _
  simp [Around.deeper, h]
section
variable {P : Program} {w : World} {K : PySem.W.Frag} {mg : Str → Option Value} {base : Heap}
theorem FnG.of {x qual : Str} {st : Stmt} {f : Addr} {fd : FuncData} {N ps : List Str} {k : Nat} {sp : Sp} (F : Fun K x qual st f fd) (S : FnScope N ps (defScope st)) (len : ∀ vs H Q E, sp vs H Q E → vs.length = ps.length)
    (hbody : ∀ (cdv : Value) (A : Around) (outer : List Env) (s : Shared) (H : Hp) (vs : List V) (Q : VK) (E : XK), A.guards = some [] → Room k (A.deeper (envOfC qual (defScope st) s.heap.objs.size f cdv)) → sp vs H Q E →
      ∃ t, PSs (cxOf CX0 P w K mg base N qual (defScope st) f cdv A outer s H E).nox (defBody st) t ∧ t { nx := fun _ H' => Q .non H', rt := Q } (start N vs) H) : FnG P w K mg base (k + 1) f fd ps sp := by
  obtain ⟨oc, od, kV, doc, pm, an, cdv, ct, osl, rfl, lk, hcd⟩ := F.ex
  refine ⟨len, fun A outer s H args us vs Q E hg hr e0 hb r hsp => ?_⟩
  obtain ⟨t, ht, hq⟩ := hbody cdv A outer s H vs Q E hg (hr.deeper _) hsp
  have kp := fun b o e => (e0.bs b o e).1
  have KX : K.In s.heap := e0.mod.kin.keeps kp
  have kinds : ∀ y ∈ ps.zip us, (defScope st).names.lookup y.1 = some .local ∨ ((defScope st).names.lookup y.1 = some .cell ∧ ((cellsFrom (s.heap.objs.size + 1) (defScope st).names []).lookup y.1).isSome = true) := fun y hy =>
    (S.par y.1 (List.of_mem_zip (show (y.1, y.2) ∈ _ from hy)).1).imp id fun q => ⟨q, PySem.W.cellsFrom_some _ _ _ (.inl q)⟩
  refine codeAny_call_function hr.depth (KX _ _ lk) rfl S.co S.gen rfl (PySem.W.codeRec_of KX hcd) (hb _ _ _ _ (wpAny_newFunctionEnv_cells S.kind kinds fun env he s1 x => ?_))
  subst he
  refine ⟨(e0.mod.nolimit.keeps kp).keeps x.toInCall.keep, codeAny_func ?_⟩
  have I : Inv (cxOf CX0 P w K mg base N qual (defScope st) f cdv A outer s H E) [] (start N vs) H s1 := inv_start S hr.hd e0 (len _ _ _ _ hsp) r x
  refine wpAny_mono (ht.nox.run [] s1 (start N vs) H _ I hq) (fun fl s' hs => ?_) fun e s' hs => hs
  cases fl with
  | ret u =>
    obtain ⟨v, _, H', J, rv, q⟩ := hs
    exact ⟨v, H', J.os, J.bare, J.base, J.hok, rv, q⟩
  | next =>
    obtain ⟨_, H', J, q⟩ := hs
    exact ⟨V.non, H', J.os, J.bare, J.base, J.hok, rfl, q⟩
  | brk => exact hs.elim fun _ h => h.elim fun _ h => False.elim h.2
  | cont => exact hs.elim fun _ h => h.elim fun _ h => False.elim h.2
variable {X : Cx} {k : Nat} {f : Addr} {fd : FuncData} {ps : List Str} {sp : Sp} {x : Str} {p pos : Pos} {e : Expr} {es : List Expr} {t : TA}
theorem pe_callG (F : FnG X.prog X.w X.K X.mg X.base k f fd ps sp) (hgu : X.A.guards = some []) (hr : Room k X.A) (hg : Gl X x) (hm : X.mg x = some (.ref f)) (hk : PySem.W.keepIn X.K (.ref f) = true) (hb : Binds X.K fd ps [])
    (ha : PA X (e :: es) t) (hdb : (x == ("__debug__" : Str)) = false := by decide) (he : starEach (e :: es) X.env = (false, eval e X.env) :: starEach es X.env := by rfl) (hpl : (backTo pos (starEach es X.env)).any (·.1) = false := by rfl) :
    PE X (.Call (.Name x p) (e :: es) [] pos) (tCall sp [] E0 t) := by
  refine ⟨fun pins s σ H Q I h => wpAny_Call_Name_kw (ld_glob I hg hm (PySem.W.callWith_K (h₀ := X.base) I.ok.mod.kin hk (thn (ha.run pos pins s σ H _ I h) fun us s1 ⟨vs, H1, I1, r, q⟩ => ⟨I1.kIn, ?_⟩) he hpl) hdb)⟩
  have q : sp (vs ++ []) H1 Q E0 := q
  rw [List.append_nil] at q
  have b1 := hb s1 us I1.kIn (by rw [List.append_nil, ← r.length]; exact F.len _ _ _ _ q)
  rw [List.append_nil] at b1
  refine wpAny_call (codeAny_mono (F.run X.A X.stack s1 H1 ⟨us, []⟩ us vs Q E0 hgu hr I1.env0 b1 r q) fun r s' hq => ?_)
  cases r with
  | error e => exact pass0 pins σ H1 s1 e s' I1 hq
  | ok fl =>
    cases fl with
    | ret u => exact I1.after hq
    | next => exact False.elim hq
    | brk => exact False.elim hq
    | cont => exact False.elim hq
end
end L2

-- part: LB
namespace Toy
open PySem L2
open LamX (Tabs TabS ExtN CodeO TabB)
section
variable {P : Program} {w : World} {K : PySem.W.Frag} {mg : Str → Option Value} {base : Heap}
variable {C fN fL fT fC fU fB fI fE eT : Addr} {fdN fdL fdT fdC fdU fdB fdI fdE : FuncData}
theorem kit_same (T : String) : PySem.W.kitOne K (.type T) (.type T) = some true := by
  unfold PySem.W.kitOne
  rw [if_pos (beq_self_eq_true _)]
theorem kit_ib : PySem.W.kitOne K (.type "int") (.type "bool") = some false := by rfl
theorem kit_tl : PySem.W.kitOne K (.type "tuple") (.type "list") = some false := by rfl
abbrev sBears : Stmt := topS 22
theorem scBears : FnScope ["problem", "truths", "due"] ["problem", "truths", "due"] (defScope sBears) := ⟨rfl, rfl, rfl, by decide +kernel, rfl, by decide +kernel, by decide +kernel⟩
/-- clauses whose text one may write -/
def Shows (d : PyData) : Prop := d.showable = true ∧ d.hasDict = false ∧ d.depth ≤ 60 ∧ d.shown.length ≤ sizeLine
def spBears (C : Addr) : Sp := fun vs H Q _ => ∃ x t ap cp bs cs, vs = [.ref x, .int t, .ref ap] ∧ Prb C H x t cp cs ∧ H ap = some (.tup (bs.map V.ref)) ∧ TupsAt H bs cs ∧ Shows (dCls cs) ∧ Q (.bl true) H
theorem ok_bears {f : Addr} {fd : FuncData} (F : Fun K "_law_bears" "_law_bears" sBears f fd) (G : Prog K mg C fN fL fT fC fU fB fI fE fdN fdL fdT fdC fdU fdB fdI fdE eT) (B : Bl mg) : FnG P w K mg base 1 f fd ["problem", "truths", "due"] (spBears C) := by
  refine FnG.of F scBears (fun vs H Q E h => ?_) (fun cdv A outer s H vs Q E hgu hr h => ?_)
  · obtain ⟨x, t, ap, cp, bs, cs, rfl, _⟩ := h
    rfl
  · obtain ⟨x, t, ap, cp, bs, cs, rfl, p, ha, T, ⟨s1, s2, s3, s4⟩, q⟩ := h
    have hu := hu_of hr
    have hR := fun X => @call_reprD X
    refine ⟨_, pss_cons (ps_if (PW.pt (pw_or (pt_not (pt_val (pe_callB call_isi (by rfl) B.isinstance (by decide +kernel) (pa_cons (pe_fld (pv 0) rfl) (pa_cons (pe_bltn (v := .ty "tuple") (by rfl) B.tuple (by decide +kernel) rfl) pa_nil)))))
        (pw_or1 (pt_val (pe_callB call_isi (by rfl) B.isinstance (by decide +kernel) (pa_cons (pe_fld (pv 0) rfl) (pa_cons (pe_bltn (v := .ty "bool") (by rfl) B.bool (by decide +kernel) rfl) pa_nil))))))) (pss_one (ps_ret pe_bl)) pss_nil)
      (pss_one (ps_ret (pe_and (pe_cmpR op_eq (pe_fld (pv 0) rfl) (pv 1) (nomark _)) (pe_one (pe_cmpR op_eq (pe_callB (call_reprD (deeper_guards hgu) (u100 hr)) (by rfl) B.repr (by decide +kernel) (pa_cons (pe_fld (pv 0) rfl) pa_nil)) (pe_callB (call_reprD (deeper_guards hgu) (u100 hr)) (by rfl) B.repr (by decide +kernel) (pa_cons (pv 2) pa_nil)) (nomark _)))))), ?_⟩
    show tSeq _ _ _ [some (.ref x), some (.int t), some (.ref ap)] H
    walk_at "rd"
    obtain ⟨dx, hx⟩ := p.ob
    obtain ⟨bs2, hcp, T2⟩ := p.cl
    refine ⟨_, rfl, x, C, dx, _, _, rfl, hx, G.cl, G.nC, flds_clauses t cp, ?_⟩
    walk_at "rd"
    refine ⟨.ref cp, .ty "tuple", _, _, true, rfl, .ty _, .base (.tup hcp), kit_same _, ?_⟩
    walk_at "rd"
    refine iteF ?_
    refine ⟨_, rfl, x, C, dx, _, _, rfl, hx, G.cl, G.nM, flds_many t cp, ?_⟩
    refine ⟨.int t, .ty "bool", _, _, false, rfl, .ty _, .base (.int t), kit_ib, ?_⟩
    walk_at "rd"
    refine iteF ?_
    refine ⟨_, rfl, x, C, dx, _, _, rfl, hx, G.cl, G.nM, flds_many t cp, rfl, ?_⟩
    rw [decide_eq_true rfl]
    walk_at "rd"
    refine ⟨_, rfl, x, C, dx, _, _, rfl, hx, G.cl, G.nC, flds_clauses t cp, cp, dCls cs, rfl, dp_prb p, s1, s2, s3, s4, ap, dCls cs, rfl, .tup (SqT.of ha) (dpAll_cls T), s1, s2, s3, s4, rfl, ?_⟩
    rw [decide_eq_true rfl]
    exact q
end
end Toy

-- part: LU
namespace Toy
open PySem L2
open LamX (Tabs TabS ExtN CodeO TabB)
section
variable {P : Program} {w : World} {K : PySem.W.Frag} {mg : Str → Option Value} {base : Heap}
variable {C fN fL fT fC fU fB fI fE eT : Addr} {fdN fdL fdT fdC fdU fdB fdI fdE : FuncData}
abbrev sUnl : Stmt := topS 23
theorem scUnl : FnScope ["truths", "rows", "due", "found"] ["truths", "rows", "due"] (defScope sUnl) := ⟨rfl, rfl, rfl, by decide +kernel, rfl, by decide +kernel, by decide +kernel⟩
/-- what is no problem of these clauses -/
def Unl (K : PySem.W.Frag) (C : Addr) (t : Int) (cs : List (List Int)) (H : Hp) (y : V) : Prop := (∃ T, TyB K H y T ∧ OtherTy K C T) ∨ ∃ b t2 cp2 cs2, y = .ref b ∧ Prb C H b t2 cp2 cs2 ∧ ¬ (t = t2 ∧ cs = cs2)
/-- what == must know of the kinds -/
structure Oth (K : PySem.W.Frag) (C : Addr) : Prop where
  non : OtherTy K C "NoneType"
  int : OtherTy K C "int"
  tup : OtherTy K C "tuple"
  str : OtherTy K C "str"
  lst : OtherTy K C "list"
def spUnl (K : PySem.W.Frag) (C : Addr) : Sp := fun vs H Q _ => ∃ t p ps rows ap bs cs, vs = [.int t, .ref p, .ref ap] ∧ 1 ≤ t ∧ t ≤ 400 ∧ SqL K H p (ps.map V.ref) ∧ ListsAt K H ps rows ∧ RowsOk t rows ∧ H ap = some (.tup (bs.map V.ref)) ∧ TupsAt H bs cs ∧ IsDue rows cs ∧ cs.length ≤ rows.length ∧
  ∀ (l : Addr) (ys : List V) (H' : Hp), Same H H' → H' l = some (.lst ys) → ys.length ≤ 9 → (∀ y ∈ ys, Unl K C t cs H' y) → Q (.ref l) H'
theorem Prb.ex {H H' : Hp} {d x cp : Addr} {t : Int} {cs : List (List Int)} {ys : List V} (e : Ex d H H') (hd : H d = some (.lst ys)) (p : Prb C H x t cp cs) : Prb C H' x t cp cs := by
  obtain ⟨⟨dx, h1⟩, bs, h2, h3⟩ := p
  refine ⟨⟨dx, e _ _ h1 (ne_of h1 hd (by intro z; cases z))⟩, bs, e _ _ h2 (ne_of h2 hd (by intro z; cases z)), ?_⟩
  have : ∀ (bs : List Addr) (cs : List (List Int)), TupsAt H bs cs → TupsAt H' bs cs := by
    intro bs cs h
    induction h with
    | nil => exact .nil
    | cons h t ih => exact .cons (e _ _ h (ne_of h hd (by intro z; cases z))) ih
  exact this bs cs h3
theorem ListsAt.rows {H : Hp} : ∀ {ps : List Addr} {rows : List (List Int)}, ListsAt K H ps rows → RowsAt K H (ps.map V.ref) rows
  | _, _, .nil => .nil
  | _, _, .cons h t => .cons ⟨_, rfl, .inl h⟩ (ListsAt.rows t)
theorem TupsAt.rows {H : Hp} : ∀ {bs : List Addr} {cs : List (List Int)}, TupsAt H bs cs → RowsAt K H (bs.map V.ref) cs
  | _, _, .nil => .nil
  | _, _, .cons h t => .cons ⟨_, rfl, .inr (SqT.of h)⟩ (TupsAt.rows t)
theorem p_make {H : Hp} {R : Addr → Hp → Prop} {t : Int} {p : Addr} {xs : List V} {rows : List (List Int)} (t1 : 1 ≤ t) (t4 : t ≤ 400) (hS : SqA K H p xs) (hR : RowsAt K H xs rows) (ok : RowsOk t rows)
    (q : ∀ (x cp : Addr) (cs : List (List Int)) (H' : Hp), Same H H' → Prb C H' x t cp cs → IsDue rows cs → R x H') :
    ∀ x dx, H x = none → H dx = none → dx ≠ x → spInit K C [.ref x, .int t, .ref p] (upd (upd H dx (.own x)) x (.ins C dx [])) (fun v H2 => v = .non ∧ R x H2) E0 := by
  intro x dx hx hdx hne
  have e1 : Same H (upd (upd H dx (.own x)) x (.ins C dx [])) := fun b o h => by rw [upd_ne (ne_of_none h hx), upd_ne (ne_of_none h hdx)]; exact h
  exact ⟨x, dx, t, p, xs, rows, rfl, upd_same, t1, t4, SqA.same e1 hS, RowsAt.same e1 hR, ok, fun cp cs H' pr due ex => ⟨rfl, q x cp cs H' (fun b o h => ex b o (e1 b o h) (ne_of_none h hx)) pr due⟩⟩
theorem cl_len : ∀ {c : List Int} (lo hi : Nat), c.Pairwise (fun a b => a.natAbs < b.natAbs) → (∀ x ∈ c, lo < x.natAbs ∧ x.natAbs ≤ hi) → c.length + lo ≤ max lo hi
  | [], lo, hi, _, _ => by simp; omega
  | x :: r, lo, hi, h, b => by
    have h1 := List.pairwise_cons.mp h
    have b1 := b x List.mem_cons_self
    have := cl_len x.natAbs hi h1.2 fun y hy => ⟨h1.1 y hy, (b y (List.mem_cons_of_mem _ hy)).2⟩
    rw [List.length_cons]
    omega
theorem cl_row {t : Int} {row c : List Int} (t4 : t ≤ 400) (ok : RowOk t row) (h : IsCl row c) : RowOk t c ∧ c.length ≤ 400 := by
  refine ⟨⟨fun x hx => ok.low x ((h.mem x).mp hx), fun x hx => ok.top x ((h.mem x).mp hx), fun x hx hn => ok.one x ((h.mem x).mp hx) ((h.mem _).mp hn)⟩, ?_⟩
  have := cl_len 0 400 h.inc fun x hx => by
    have a := ok.low x ((h.mem x).mp hx)
    have b := ok.top x ((h.mem x).mp hx)
    omega
  omega
theorem cl_self {c d : List Int} (inc : c.Pairwise fun a b => a.natAbs < b.natAbs) (h : IsCl c d) : d = c := inc_ext h.inc inc h.mem
/-- the clauses as rows -/
theorem due_rows {t : Int} {rows cs ds : List (List Int)} (t4 : t ≤ 400) (ok : RowsOk t rows) (h : IsDue rows cs) (l : cs.length ≤ rows.length) (sub : ds.Sublist cs) : RowsOk t ds ∧ IsDue ds ds := by
  have inc : ∀ c ∈ ds, ∃ row ∈ rows, IsCl row c := fun c hc => (h.mem c).mp (sub.subset hc)
  refine ⟨⟨Nat.le_trans sub.length_le (Nat.le_trans l ok.1), fun c hc => ?_⟩, h.inc.sublist sub, fun c => ⟨fun hc => ?_, ?_⟩⟩
  · obtain ⟨row, hr, hi⟩ := inc c hc
    have := cl_row t4 (ok.2 row hr).1 hi
    exact ⟨this.1, by omega⟩
  · obtain ⟨row, hr, hi⟩ := inc c hc
    exact ⟨c, hc, hi.inc, fun _ => Iff.rfl⟩
  · rintro ⟨d, hd, hi⟩
    obtain ⟨row, hr, hj⟩ := inc d hd
    rw [cl_self hj.inc hi]
    exact hd
theorem e_make {C : Addr} {sp : Sp} {dvs : List V} {E : XK} {t : TA} {σ : St} {H : Hp} {Q : VK} : tMake C sp dvs E t σ H Q = t σ H fun vs H1 => ∀ x dx, H1 x = none → H1 dx = none → dx ≠ x →
  sp (.ref x :: (vs ++ dvs)) (upd (upd H1 dx (.own x)) x (.ins C dx [])) (fun v H2 => v = .non ∧ Q (.ref x) H2) E := rfl
theorem none_up {H : Hp} {p a : Addr} {o : HO} (h : upd H p o a = none) : H a = none := by
  by_cases e : a = p
  · subst e
    rw [upd_same] at h
    cases h
  · rw [upd_ne e] at h
    exact h
theorem ok_unl {f : Addr} {fd : FuncData} (F : Fun K "_law_unlike" "_law_unlike" sUnl f fd) (G : Prog K mg C fN fL fT fC fU fB fI fE fdN fdL fdT fdC fdU fdB fdI fdE eT) (B : Bl mg) (O : Oth K C) : FnOk P w K mg base CX0 7 f fd ["truths", "rows", "due"] (spUnl K C) := by
  have GI : FnOk P w K mg base CX0 5 fI fdI ["self", "many", "clauses"] (spInit K C) := ok_init G B
  refine F.ok scUnl (fun vs H Q E h => ?_) (fun cdv A outer s H vs Q E hr h => ?_)
  · obtain ⟨t, p, ps, rows, ap, bs, cs, rfl, _⟩ := h
    rfl
  · obtain ⟨t, p, ps, rows, ap, bs, cs, rfl, t1, t4, hS, hR, ok, ha, T, due, dl, q⟩ := h
    have hu := hu_of hr
    refine ⟨_, pss_cons (ps_set (i := 3) scUnl.nd rfl (Or.inl rfl) (pe_lst (pa_cons pe_non (pa_cons pe_int (pa_cons (pv 0) (pa_cons (pv 2) (pa_cons (pe_tup (pa_cons (pv 0) (pa_cons (pv 2) pa_nil))) (pa_cons pe_str
        (pa_cons (pe_lst (pa_cons (pv 0) (pa_cons (pe_callTy call_list_of (by rfl) B.list (by decide +kernel) (pa_cons (pv 2) pa_nil)) pa_nil))) pa_nil)))))))))
      (pss_cons (ps_expr (pe_bm PySem.F.plainAttrs_list PySem.F.slot_list_append PySem.F.type_list_append mt_append (pv 3) (pa_cons (pe_ifExp (pt_cmpR (op_neD hr.units) (pv 2) (pe_tup pa_nil) (nomark _))
        (pe_make G.mak GI hr rfl G.gC G.bI .nil pass0 (pa_cons (pv 0) (pa_cons (pe_slice sl_tup (pv 2) (po_some pe_int) po_none) pa_nil)))
        (pe_make G.mak GI hr rfl G.gC G.bI .nil pass0 (pa_cons (pv 0) (pa_cons (pe_lst (pa_cons (pe_lst (pa_cons pe_int pa_nil)) pa_nil)) pa_nil)))) pa_nil)))
      (pss_cons (ps_if (pt_cmpR op_lt (pv 0) pe_int (nomark _)) (pss_one (ps_expr (pe_bm PySem.F.plainAttrs_list PySem.F.slot_list_append PySem.F.type_list_append mt_append (pv 3)
        (pa_cons (pe_make G.mak GI hr rfl G.gC G.bI .nil pass0 (pa_cons (pe_op op_add (pv 0) pe_int) (pa_cons (pv 1) pa_nil))) pa_nil)))) pss_nil)
      (pss_one (ps_ret (pv 3))))), ?_⟩
    show tSeq _ _ _ [some (.int t), some (.ref p), some (.ref ap), none] H
    walk_at "rd"
    refine ⟨by show 2 ≤ sizeLine; decide, fun pt hpt => ⟨ap, bs.map V.ref, rfl, .inr (SqT.of (Same.new hpt _ _ ha)), fun pl hpl => ⟨by show 2 ≤ sizeLine; decide, fun pq hpq => ⟨by show 7 ≤ sizeLine; decide, fun l hl => ⟨Or.inl ⟨rfl, _, SqL.of upd_same⟩, Nat.zero_le _, fun pe hpe => ?_⟩⟩⟩⟩⟩
    have hlH : H l = none := none_up (none_up (none_up hl))
    have npq : pq ≠ l := fun e => by rw [e, upd_same] at hl; cases hl
    have hpt5 := Same.new (o := .lst [V.non, V.int 5, V.int t, V.ref ap, V.ref pt, V.str (Str.ofString "problem"), V.ref pq]) hl _ _ (Same.new (o := .lst [V.int t, V.ref pl]) hpq _ _ (Same.new (o := .lst (bs.map V.ref)) hpl _ _ (upd_same (a := pt) (H := H) (o := .tup [V.int t, V.ref ap]))))
    have hpq5 := Same.new (o := .lst [V.non, V.int 5, V.int t, V.ref ap, V.ref pt, V.str (Str.ofString "problem"), V.ref pq]) hl _ _ (upd_same (a := pq) (o := .lst [V.int t, V.ref pl]))
    have s5 : Same H (upd (upd (upd (upd H pt (.tup [V.int t, V.ref ap])) pl (.lst (bs.map V.ref))) pq (.lst [V.int t, V.ref pl])) l (.lst [V.non, V.int 5, V.int t, V.ref ap, V.ref pt, V.str (Str.ofString "problem"), V.ref pq])) := Same.trans (Same.new hpt) (Same.trans (Same.new hpl) (Same.trans (Same.new hpq) (Same.new hl)))
    have hl5 : upd (upd (upd (upd H pt (.tup [V.int t, V.ref ap])) pl (.lst (bs.map V.ref))) pq (.lst [V.int t, V.ref pl])) l (.lst [V.non, V.int 5, V.int t, V.ref ap, V.ref pt, V.str (Str.ofString "problem"), V.ref pq]) l = some (.lst [V.non, V.int 5, V.int t, V.ref ap, V.ref pt, V.str (Str.ofString "problem"), V.ref pq]) := upd_same
    generalize upd (upd (upd (upd H pt (.tup [V.int t, V.ref ap])) pl (.lst (bs.map V.ref))) pq (.lst [V.int t, V.ref pl])) l (.lst [V.non, V.int 5, V.int t, V.ref ap, V.ref pt, V.str (Str.ofString "problem"), V.ref pq]) = H5 at *
    have mk7 : ∀ H9 : Hp, H9 ap = some (.tup (bs.map V.ref)) → H9 pt = some (.tup [V.int t, V.ref ap]) → H9 pq = some (.lst [V.int t, V.ref pl]) → ∀ y ∈ [V.non, V.int 5, V.int t, V.ref ap, V.ref pt, V.str (Str.ofString "problem"), V.ref pq], Unl K C t cs H9 y := by
      intro H9 a1 a2 a3 y hy
      simp only [List.mem_cons, List.not_mem_nil, or_false] at hy
      rcases hy with rfl | rfl | rfl | rfl | rfl | rfl | rfl
      · exact .inl ⟨_, .non, O.non⟩
      · exact .inl ⟨_, .int _, O.int⟩
      · exact .inl ⟨_, .int _, O.int⟩
      · exact .inl ⟨_, .tup (SqT.of a1), O.tup⟩
      · exact .inl ⟨_, .tup (SqT.of a2), O.tup⟩
      · exact .inl ⟨_, .str _, O.str⟩
      · exact .inl ⟨_, .lst (SqL.of a3), O.lst⟩
    have fin : ∀ (x cp : Addr) (cs2 : List (List Int)) (H6 : Hp), Same H5 H6 → Prb C H6 x t cp cs2 → cs ≠ cs2 → rAppend (.ref l) [.ref x] H6 (fun x H1 => if decide (t < 400) = true then tyV K "list" (V.ref l) H1 ∧ tMake C (spInit K C) [] E0 (tCons (tOp (rI0 fun i j => V.int (i + j)) (tVar 0) (tC (V.int 1))) (tCons (tVar 1) tNil)) [some (V.int t), some (V.ref p), some (V.ref ap), some (V.ref l)] H1 fun x H1 => rAppend (V.ref l) [x] H1 fun x H1 => Q (V.ref l) H1 else Q (V.ref l) H1) := by
      intro x cp cs2 H6 s56 p6 ne
      have hl6 := s56 _ _ hl5
      refine p_app hl6 (by show 7 < sizeLine; decide) ?_
      have E7 : Ex l H6 (upd H6 l (.lst ([V.non, V.int 5, V.int t, V.ref ap, V.ref pt, V.str (Str.ofString "problem"), V.ref pq] ++ [.ref x]))) := Ex.at
      have p7 := Prb.ex E7 hl6 p6
      have a6 := s56 _ _ (s5 _ _ ha)
      have a7 := E7 _ _ a6 (ne_of a6 hl6 (by intro z; cases z))
      have pt6 := s56 _ _ hpt5
      have pt7 := E7 _ _ pt6 (ne_of pt6 hl6 (by intro z; cases z))
      have pq7 := E7 _ _ (s56 _ _ hpq5) npq
      have s7 : Same H (upd H6 l (.lst ([V.non, V.int 5, V.int t, V.ref ap, V.ref pt, V.str (Str.ofString "problem"), V.ref pq] ++ [.ref x]))) := fun b o h => by rw [upd_ne (ne_of_none h hlH)]; exact s56 _ _ (s5 _ _ h)
      have hl7 : upd H6 l (.lst ([V.non, V.int 5, V.int t, V.ref ap, V.ref pt, V.str (Str.ofString "problem"), V.ref pq] ++ [.ref x])) l = some (.lst ([V.non, V.int 5, V.int t, V.ref ap, V.ref pt, V.str (Str.ofString "problem"), V.ref pq] ++ [.ref x])) := upd_same
      generalize upd H6 l (.lst ([V.non, V.int 5, V.int t, V.ref ap, V.ref pt, V.str (Str.ofString "problem"), V.ref pq] ++ [.ref x])) = H7 at *
      by_cases ht : t < 400
      · rw [decide_eq_true ht]
        refine iteT ⟨Or.inl ⟨rfl, _, SqL.of hl7⟩, ?_⟩
        simp only [e_make]
        walk_at "rd"
        refine p_make (C := C) (t := t + 1) (by omega) (by omega) (.inl (Same.seq s7 hS)) (ListsAt.rows (ListsAt.same s7 hR)) ⟨ok.1, fun row hr => ⟨⟨(ok.2 row hr).1.low, fun y hy => Int.le_trans ((ok.2 row hr).1.top y hy) (by omega), (ok.2 row hr).1.one⟩, (ok.2 row hr).2⟩⟩ fun x2 cp2 cs3 H8 s78 p8 _ => ?_
        have hl8 := s78 _ _ hl7
        refine p_app hl8 (by show 8 < sizeLine; decide) ?_
        have E9 : Ex l H8 (upd H8 l (.lst ([V.non, V.int 5, V.int t, V.ref ap, V.ref pt, V.str (Str.ofString "problem"), V.ref pq] ++ [.ref x] ++ [.ref x2]))) := Ex.at
        have a8 := s78 _ _ a7
        have pt8 := s78 _ _ pt7
        refine q l _ _ (fun b o h => by rw [upd_ne (ne_of_none h hlH)]; exact s78 _ _ (s7 _ _ h)) upd_same (by show 9 ≤ 9; exact Nat.le_refl _) fun y hy => ?_
        rcases List.mem_append.mp hy with hy | hy
        · rcases List.mem_append.mp hy with hy | hy
          · exact mk7 _ (E9 _ _ a8 (ne_of a8 hl8 (by intro z; cases z))) (E9 _ _ pt8 (ne_of pt8 hl8 (by intro z; cases z))) (E9 _ _ (s78 _ _ pq7) npq) y hy
          · rw [List.mem_singleton.mp hy]
            exact .inr ⟨x, t, cp, cs2, rfl, Prb.ex E9 hl8 (Prb.same s78 p7), fun z => ne z.2⟩
        · rw [List.mem_singleton.mp hy]
          exact .inr ⟨x2, _, cp2, cs3, rfl, Prb.ex E9 hl8 p8, fun z => by have := z.1; omega⟩
      · rw [decide_eq_false ht]
        refine iteF (q l _ _ s7 hl7 (by show 8 ≤ 9; decide) fun y hy => ?_)
        rcases List.mem_append.mp hy with hy | hy
        · exact mk7 _ a7 pt7 pq7 y hy
        · rw [List.mem_singleton.mp hy]
          exact .inr ⟨x, t, cp, cs2, rfl, p7, fun z => ne z.2⟩
    simp only [e_make, e_cons, e_nil, e_op, e_var0, e_varS, e_c, e_rI0, List.append_nil, List.nil_append, List.cons_append] at fin
    have T5 := TupsAt.same s5 T
    have ha5 := s5 _ _ ha
    have hpe5 : H5 pe = none := hpe
    refine p_neD (.tup (SqT.of (Same.new hpe5 _ _ ha5)) (dpAll_cls (TupsAt.same (Same.new hpe5) T5))) (.tup (SqT.of upd_same) .nil) (shaped_cls cs) (by decide) ?_
    have s6 : Same H5 (upd H5 pe (.tup [])) := Same.new hpe5
    generalize upd H5 pe (.tup []) = H6 at *
    rw [show PyData.eqv (.tuple (cs.map dTup)) (.tuple []) = decide (cs = []) from eqv_cls cs []]
    walk_at "rd"
    by_cases hc : cs = []
    · rw [decide_eq_true hc]
      refine iteF ?_
      subst hc
      simp only [e_make]
      walk_at "rd"
      refine ⟨by show 1 ≤ sizeLine; decide, fun pi hpi => ⟨by show 1 ≤ sizeLine; decide, fun po hpo => p_make (C := C) (t := t) (rows := [[1]]) t1 t4 (.inl (SqL.of upd_same)) (.cons ⟨pi, rfl, .inl (SqL.of (Same.new hpo _ _ upd_same))⟩ .nil)
        ⟨by decide, fun row hr => ?_⟩ fun x cp cs2 H7 s67 p7 due2 => fin x cp cs2 H7 (Same.trans s6 (Same.trans (Same.new hpi) (Same.trans (Same.new hpo) s67))) p7 fun e => ?_⟩⟩
      · rw [List.mem_singleton.mp hr]
        refine ⟨⟨fun x hx => ?_, fun x hx => ?_, fun x hx hn => ?_⟩, by decide⟩
        · rw [List.mem_singleton.mp hx]; decide
        · rw [List.mem_singleton.mp hx]; exact t1
        · rw [List.mem_singleton.mp hx] at hn
          exact absurd hn (by decide)
      · have := (due2.mem [1]).mpr ⟨[1], List.mem_singleton.mpr rfl, List.pairwise_singleton _ _, fun _ => Iff.rfl⟩
        rw [← e] at this
        cases this
    · rw [decide_eq_false hc]
      refine iteT ?_
      obtain ⟨c0, cs', rfl⟩ : ∃ c0 cs', cs = c0 :: cs' := by
        cases cs with
        | nil => exact absurd rfl hc
        | cons c0 cs' => exact ⟨c0, cs', rfl⟩
      cases T with
      | @cons b0 _ bs' _ hb T' =>
      simp only [e_make]
      walk_at "rd"
      have hcut : cutV ((b0 :: bs').map V.ref) (some 1) none = bs'.map V.ref := by
        unfold cutV
        rw [show HT.sIx ((b0 :: bs').map V.ref).length 0 (some 1) = min 1 ((b0 :: bs').map V.ref).length from HT.sIx_nat _ _ 1, HT.sIx_none, List.length_map, List.length_cons]
        have e1 : min 1 (bs'.length + 1) = 1 := by omega
        rw [e1, List.map_cons, List.drop_succ_cons, List.drop_zero]
        exact List.take_of_length_le (by rw [List.length_map]; omega)
      obtain ⟨ok', due'⟩ := due_rows (ds := cs') t4 ok due dl (List.sublist_cons_self _ _)
      refine ⟨_, rfl, 1, rfl, ap, _, rfl, SqT.of (s6 _ _ ha5), ?_, fun p9 hp9 => ?_⟩
      · rintro ⟨z, _⟩
        rw [show HT.sIx ((b0 :: bs').map V.ref).length 0 (some 1) = min 1 ((b0 :: bs').map V.ref).length from HT.sIx_nat _ _ 1, List.length_map, List.length_cons] at z
        omega
      · walk_at "rd"
        rw [hcut]
        exact p_make (C := C) (t := t) (rows := cs') t1 t4 (.inr (SqT.of upd_same)) (TupsAt.rows (TupsAt.same (Same.trans s5 (Same.trans s6 (Same.new hp9))) T')) ok' fun x cp cs2 H7 s67 p7 due2 => fin x cp cs2 H7 (Same.trans s6 (Same.trans (Same.new hp9) s67)) p7 fun e => by
          have := IsDue.ext due2 due' fun _ => Iff.rfl
          rw [this] at e
          have := congrArg List.length e
          rw [List.length_cons] at this
          omega
end
end Toy

-- part: LS
namespace Toy
open PySem PySem.Spec PyProof.Rows L2
/-! ### how long the texts are -/
theorem piled_le {m : Nat} : ∀ {ts : List Str}, (∀ t ∈ ts, t.length ≤ m) → piled ts ≤ ts.length * (m + 2)
  | [], _ => Nat.zero_le _
  | t :: r, h => by
    have h1 := h t List.mem_cons_self
    have h2 := piled_le fun t ht => h t (List.mem_cons_of_mem _ ht)
    rw [piled_cons, List.length_cons, Nat.add_mul, Nat.one_mul]
    omega
theorem list_len (ts : List Str) : (listText ts).length ≤ piled ts + 2 := by
  cases ts with
  | nil => decide
  | cons t r =>
    have h := textFrom_length_pos r 1 (("[" : Str) ++ (if (0 : Nat) > 0 then ", " else "" : String) ++ t) (Nat.succ_pos 0)
    have e : ((("[" : Str) ++ (if (0 : Nat) > 0 then ", " else "" : String) ++ t)).length = 1 + t.length := by
      rw [strLen_append, strLen_append]; rfl
    have hX : (listText (t :: r)).length = (textFrom 1 (("[" : Str) ++ (if (0 : Nat) > 0 then ", " else "" : String) ++ t) r).length + 1 := by
      show (textFrom 0 "[" (t :: r) ++ "]").length = _
      rw [strLen_append]; rfl
    rw [hX, h, e, piled_cons]
    omega
theorem int_len4 : ∀ n : Nat, n < 401 → ((toString (n : Int) : String) : Str).length ≤ 4 ∧ ((toString (-(n : Int)) : String) : Str).length ≤ 4 := by decide +kernel
theorem int_shown {x : Int} (h : x.natAbs ≤ 400) : (PyData.shown (.int x)).length ≤ 4 := by
  simp only [PyData.shown]
  have q := int_len4 x.natAbs (by omega)
  rcases Int.natAbs_eq x with e | e
  · rw [e]
    exact q.1
  · rw [e]
    exact q.2
theorem all_shown {α : Type} (f : α → PyData) (m : Nat) : ∀ l : List α, (∀ x ∈ l, (f x).shown.length ≤ m) → (PyData.shownAll (l.map f)).length = l.length ∧ ∀ t ∈ PyData.shownAll (l.map f), t.length ≤ m
  | [], _ => by simp [PyData.shownAll]
  | x :: r, h => by
    obtain ⟨h1, h2⟩ := all_shown f m r fun y hy => h y (List.mem_cons_of_mem _ hy)
    simp only [List.map_cons, PyData.shownAll, List.length_cons, h1, true_and]
    intro t ht
    rcases List.mem_cons.mp ht with rfl | ht
    · exact h x List.mem_cons_self
    · exact h2 t ht
theorem showable_ints : ∀ l : List Int, (∀ x ∈ l, x.natAbs ≤ 400) → PyData.showableAll (l.map PyData.int) = true
  | [], _ => by simp [PyData.showableAll]
  | x :: r, h => by
    have h1 := h x List.mem_cons_self
    have h2 : x.natAbs.log2 < 1920 := Nat.lt_of_le_of_lt (Nat.log2_le_self _) (by omega)
    simp only [List.map_cons, PyData.showableAll, PyData.showable, showable_ints r fun y hy => h y (List.mem_cons_of_mem _ hy), Bool.and_true, decide_eq_true_eq]
    exact h2
theorem noDict_ints : ∀ l : List Int, PyData.hasDictAll (l.map PyData.int) = false
  | [] => by simp [PyData.hasDictAll]
  | x :: r => by simp [PyData.hasDictAll, PyData.hasDict, noDict_ints r]
/-- a list or a tuple of letters -/
def dI (z : Bool × List Int) : PyData := if z.1 = true then .list (z.2.map PyData.int) else .tuple (z.2.map PyData.int)
def Fits (n : Nat) (l : List Int) : Prop := l.length ≤ n ∧ ∀ x ∈ l, x.natAbs ≤ 400
theorem dI_shown {z : Bool × List Int} {n : Nat} (h : Fits n z.2) : (dI z).shown.length ≤ n * 6 + 2 ∧ (dI z).showable = true ∧ (dI z).hasDict = false ∧ (dI z).depth ≤ 2 := by
  obtain ⟨b, l⟩ := z
  obtain ⟨h1, h2⟩ := h
  obtain ⟨a1, a2⟩ := all_shown PyData.int 4 l fun x hx => int_shown (h2 x hx)
  have a3 := piled_le a2
  rw [a1] at a3
  have h1 : l.length ≤ n := h1
  have a4 : l.length * (4 + 2) ≤ n * 6 := Nat.mul_le_mul_right _ h1
  have d := dep_intsD l
  have s := showable_ints l h2
  have nd := noDict_ints l
  cases b with
  | true =>
    have a5 := list_len (PyData.shownAll (l.map PyData.int))
    refine ⟨?_, ?_, ?_, ?_⟩
    · show (PyData.shown (.list _)).length ≤ _
      simp only [PyData.shown]
      omega
    · show PyData.showable (.list _) = true
      simp only [PyData.showable]
      exact s
    · show PyData.hasDict (.list _) = false
      simp only [PyData.hasDict]
      exact nd
    · show PyData.depth (.list _) ≤ 2
      simp only [PyData.depth]
      omega
  | false =>
    have a5 := fmt_text (PyData.shownAll (l.map PyData.int))
    refine ⟨?_, ?_, ?_, ?_⟩
    · show (PyData.shown (.tuple _)).length ≤ _
      simp only [PyData.shown]
      omega
    · show PyData.showable (.tuple _) = true
      simp only [PyData.showable]
      exact s
    · show PyData.hasDict (.tuple _) = false
      simp only [PyData.hasDict]
      exact nd
    · show PyData.depth (.tuple _) ≤ 2
      simp only [PyData.depth]
      omega
theorem all_dI {n : Nat} : ∀ zs : List (Bool × List Int), (∀ z ∈ zs, Fits n z.2) → PyData.showableAll (zs.map dI) = true ∧ PyData.hasDictAll (zs.map dI) = false ∧ PyData.depthAll (zs.map dI) ≤ 2
  | [], _ => by simp [PyData.showableAll, PyData.hasDictAll, PyData.depthAll]
  | z :: r, h => by
    obtain ⟨_, a1, a2, a3⟩ := dI_shown (h z List.mem_cons_self)
    obtain ⟨b1, b2, b3⟩ := all_dI r fun y hy => h y (List.mem_cons_of_mem _ hy)
    simp only [List.map_cons, PyData.showableAll, PyData.hasDictAll, PyData.depthAll, a1, a2, b1, b2, Bool.and_self, Bool.or_self, true_and]
    omega
theorem shows_list {zs : List (Bool × List Int)} (h : zs.length ≤ 100) (hz : ∀ z ∈ zs, Fits 400 z.2) : Shows (.list (zs.map dI)) := by
  obtain ⟨b1, b2, b3⟩ := all_dI zs hz
  obtain ⟨a1, a2⟩ := all_shown dI 2402 zs fun z q => Nat.le_trans (dI_shown (hz z q)).1 (by omega)
  have a3 := piled_le a2
  rw [a1] at a3
  have a4 := list_len (PyData.shownAll (zs.map dI))
  have a5 : zs.length * (2402 + 2) ≤ 100 * 2404 := Nat.mul_le_mul_right _ h
  refine ⟨?_, ?_, ?_, ?_⟩
  · simp only [PyData.showable]; exact b1
  · simp only [PyData.hasDict]; exact b2
  · simp only [PyData.depth]; omega
  · simp only [PyData.shown]
    have : sizeLine = 16777216 := rfl
    omega
theorem shows_cls {cs : List (List Int)} (h : cs.length ≤ 100) (hz : ∀ c ∈ cs, Fits 400 c) : Shows (dCls cs) := by
  have e : cs.map dTup = (cs.map fun c => (false, c)).map dI := by
    rw [List.map_map]
    rfl
  obtain ⟨b1, b2, b3⟩ := all_dI (cs.map fun c => (false, c)) fun z hm => by
    obtain ⟨c, hc, rfl⟩ := List.mem_map.mp hm
    exact hz c hc
  obtain ⟨a1, a2⟩ := all_shown dI 2402 (cs.map fun c => (false, c)) fun z hm => by
    obtain ⟨c, hc, rfl⟩ := List.mem_map.mp hm
    exact Nat.le_trans (dI_shown (n := 400) (hz c hc)).1 (by omega)
  rw [List.length_map] at a1
  rw [← e] at a1 a2 b1 b2 b3
  have a3 := piled_le a2
  rw [a1] at a3
  have a4 := fmt_text (PyData.shownAll (cs.map dTup))
  have a5 : cs.length * (2402 + 2) ≤ 100 * 2404 := Nat.mul_le_mul_right _ h
  unfold dCls
  refine ⟨?_, ?_, ?_, ?_⟩
  · simp only [PyData.showable]; exact b1
  · simp only [PyData.hasDict]; exact b2
  · simp only [PyData.depth]; omega
  · simp only [PyData.shown]
    have : sizeLine = 16777216 := rfl
    omega
end Toy

-- part: LK
namespace Toy
open PySem L2
open LamX (Tabs TabS ExtN CodeO TabB)
/-- all but d and the tables stays -/
def Kp (d : Addr) (H H' : Hp) : Prop := ∀ b o, H b = some o → b ≠ d → (∀ ps, o ≠ .tbl ps) → H' b = some o
section
variable {K : PySem.W.Frag} {d sc p : Addr} {H H0 H1 H2 : Hp} {o : HO}
theorem Kp.refl : Kp d H H := fun _ _ h _ _ => h
theorem Kp.trans (a : Kp d H H1) (b : Kp d H1 H2) : Kp d H H2 := fun c o h n t => b c o (a c o h n t) n t
theorem Kp.ex (e : Ex d H H1) : Kp d H H1 := fun b o h n _ => e b o h n
theorem Kp.extN (e : ExtN H H1) : Kp d H H1 := fun b o h _ t => e b o h t
theorem Kp.same (e : Same H H1) : Kp d H H1 := fun b o h _ _ => e b o h
theorem Kp.up (e : Kp d H0 H) (hp : H0 p = none) : Kp d H0 (upd H p o) := fun b u h n t => by rw [upd_ne (ne_of_none h hp)]; exact e b u h n t
theorem Kp.l (k : Kp d H H1) {xs : List V} (h : H p = some (.lst xs)) (n : p ≠ d) : H1 p = some (.lst xs) := k _ _ h n (by intro _ z; cases z)
theorem Kp.t (k : Kp d H H1) {xs ys : List V} (hd : H d = some (.lst ys)) (h : H p = some (.tup xs)) : H1 p = some (.tup xs) := k _ _ h (ne_of h hd (by intro z; cases z)) (by intro _ z; cases z)
theorem TupsAt.kp {ys : List V} (k : Kp d H H1) (hd : H d = some (.lst ys)) : ∀ {bs : List Addr} {cs : List (List Int)}, TupsAt H bs cs → TupsAt H1 bs cs
  | _, _, .nil => .nil
  | _, _, .cons h t => .cons (k.t hd h) (TupsAt.kp k hd t)
theorem Prb.kp {C x cp : Addr} {t : Int} {cs : List (List Int)} {ys : List V} (k : Kp d H H1) (hd : H d = some (.lst ys)) (p : Prb C H x t cp cs) : Prb C H1 x t cp cs := by
  obtain ⟨⟨dx, h1⟩, bs, h2, h3⟩ := p
  exact ⟨⟨dx, k _ _ h1 (ne_of h1 hd (by intro z; cases z)) (by intro _ z; cases z)⟩, bs, k.t hd h2, TupsAt.kp k hd h3⟩
theorem DrA.dr {ns : List Int} (h : DrA K sc ns H d) : ∃ xs, H d = some (.lst xs) := by
  obtain ⟨n, D⟩ := h
  exact ⟨_, D.dr⟩
/-- a write to what was made since -/
theorem DrA.upK {ns : List Int} (h0 : DrA K sc ns H0 d) (h : DrA K sc ns H d) (e : Kp d H0 H) (hp : H0 p = none) : DrA K sc ns (upd H p o) d := by
  obtain ⟨n0, D0⟩ := h0
  obtain ⟨n, D⟩ := h
  have nd := DrA.nd ⟨n0, D0⟩ hp
  refine ⟨n, by rw [upd_ne (Ne.symm nd)]; exact D.dr, ?_, D.len, D.pos⟩
  have k : Kp d H0 (upd H p o) := Kp.up e hp
  have q := D0.sq
  have hd := D0.dr
  rcases q with (q | ⟨o, q⟩) | q
  · exact .inl (.inl (k _ _ q (fun z => by
      rw [z, hd] at q
      exact ne_ints (n := .non) (HO.lst.inj (Option.some.inj q)).symm) (by intro _ z; cases z)))
  · exact .inl (.inr ⟨o, k _ _ q (fun z => by
      rw [z, hd] at q
      cases q) (by intro _ z; cases z)⟩)
  · exact .inr q
/-- lists of letters, none of them the draws -/
def LstsAt (d : Addr) (H : Hp) (ps : List Addr) (rows : List (List Int)) : Prop := Paired (fun (q : Addr) (row : List Int) => H q = some (.lst (row.map V.int)) ∧ q ≠ d) ps rows
theorem LstsAt.kp (k : Kp d H H1) {ps : List Addr} {rows : List (List Int)} (h : LstsAt d H ps rows) : LstsAt d H1 ps rows := Paired.imp (fun _ _ z => ⟨k.l z.1 z.2, z.2⟩) h
theorem LstsAt.lists {ps : List Addr} {rows : List (List Int)} (h : LstsAt d H ps rows) : ListsAt K H ps rows := Paired.imp (fun _ _ z => SqL.of z.1) h
theorem LstsAt.get : ∀ {ps : List Addr} {rows : List (List Int)} {i : Nat} {p : Addr}, LstsAt d H ps rows → ps[i]? = some p → ∃ row, rows[i]? = some row ∧ H p = some (.lst (row.map V.int)) ∧ p ≠ d
  | _, _, _, _, .nil, h => by simp at h
  | _, _, 0, _, .cons h t, e => by cases e; exact ⟨_, rfl, h⟩
  | _, _, i + 1, _, .cons h t, e => LstsAt.get (i := i) t e
/-- a list or a tuple -/
def oI (z : Bool × List Int) : HO := if z.1 = true then .lst (z.2.map V.int) else .tup (z.2.map V.int)
/-- the rows as they are handed -/
def ItsAt (d e : Addr) (H0 H : Hp) (hs : List Addr) (zs : List (Bool × List Int)) : Prop := Paired (fun (q : Addr) (z : Bool × List Int) => H q = some (oI z) ∧ q ≠ d ∧ q ≠ e ∧ H0 q = none) hs zs
theorem oI_ntbl (z : Bool × List Int) : ∀ ps, oI z ≠ .tbl ps := by
  intro ps e
  unfold oI at e
  split at e <;> cases e
theorem ItsAt.kp {e : Addr} (k : Kp d H H1) {hs : List Addr} {zs : List (Bool × List Int)} (h : ItsAt d e H0 H hs zs) : ItsAt d e H0 H1 hs zs := Paired.imp (fun _ z q => ⟨k _ _ q.1 q.2.1 (oI_ntbl z), q.2⟩) h
theorem ItsAt.dp {e : Addr} : ∀ {hs : List Addr} {zs : List (Bool × List Int)}, ItsAt d e H0 H hs zs → DpAll K H (hs.map V.ref) (zs.map dI)
  | _, _, .nil => .nil
  | _, _, .cons (b := z) h t => by
    refine .cons ?_ (ItsAt.dp t)
    obtain ⟨b, l⟩ := z
    cases b with
    | true => exact .lst (SqL.of h.1) (dp_ints l)
    | false => exact .tup (SqT.of h.1) (dp_ints l)
theorem ItsAt.rows {e : Addr} : ∀ {hs : List Addr} {zs : List (Bool × List Int)}, ItsAt d e H0 H hs zs → RowsAt K H (hs.map V.ref) (zs.map (·.2))
  | _, _, .nil => .nil
  | _, _, .cons (b := z) h t => by
    refine .cons ⟨_, rfl, ?_⟩ (ItsAt.rows t)
    obtain ⟨b, l⟩ := z
    cases b with
    | true => exact .inl (SqL.of h.1)
    | false => exact .inr (SqT.of h.1)
theorem ItsAt.len {e : Addr} {hs : List Addr} {zs : List (Bool × List Int)} (h : ItsAt d e H0 H hs zs) : hs.length = zs.length := Paired.length h
end
theorem dp_lists {K : PySem.W.Frag} {H : Hp} {d : Addr} : ∀ {ps : List Addr} {rows : List (List Int)}, LstsAt d H ps rows → DpAll K H (ps.map V.ref) (rows.map fun r => PyData.list (r.map PyData.int))
  | _, _, .nil => .nil
  | _, _, .cons h t => .cons (.lst (SqL.of h.1) (dp_ints _)) (dp_lists t)
/-- lists of letters as data: like the clauses' -/
def dRows (rows : List (List Int)) : PyData := .list (rows.map fun r => PyData.list (r.map PyData.int))
theorem can_rows : ∀ cs : List (List Int), PyData.canLayAll0 (cs.map fun r => PyData.list (r.map PyData.int)) = true
  | [] => by simp [PyData.canLayAll0]
  | c :: cs => by simp [PyData.canLayAll0, PyData.canLay0, can_intsD, can_rows cs]
theorem dep_rows : ∀ cs : List (List Int), PyData.depthAll (cs.map fun r => PyData.list (r.map PyData.int)) ≤ 2
  | [] => by simp [PyData.depthAll]
  | c :: cs => by
    have h1 := dep_rows cs
    have h2 := dep_intsD c
    simp only [List.map_cons, PyData.depthAll, PyData.depth]
    omega
theorem shaped_rows (cs : List (List Int)) : SeqAt.shaped (dRows cs) = true := by
  have h := dep_rows cs
  unfold SeqAt.shaped dRows
  rw [Bool.and_eq_true]
  refine ⟨by simp [PyData.canLay0, can_rows], decide_eq_true ?_⟩
  simp only [PyData.depth]
  omega
theorem eqv_rows0 (cs : List (List Int)) : PyData.eqv (dRows cs) (.list []) = decide (cs = []) := by
  unfold dRows
  cases cs with
  | nil => simp [PyData.eqv, PyData.eqvAll]
  | cons c cs => simp [PyData.eqv, PyData.eqvAll]
end Toy
namespace Toy
open PySem L2
theorem LstsAt.up {d p : Addr} {H : Hp} {o : HO} {ps : List Addr} {rows : List (List Int)} (h : LstsAt d H ps rows) : (∀ q ∈ ps, q ≠ p) → LstsAt d (upd H p o) ps rows := by
  intro n
  induction h with
  | nil => exact .nil
  | cons h t ih => exact .cons ⟨by rw [upd_ne (n _ List.mem_cons_self)]; exact h.1, h.2⟩ (ih fun q hq => n q (List.mem_cons_of_mem _ hq))
theorem ItsAt.up {d e : Addr} {H0 H : Hp} {o : HO} {hs : List Addr} {zs : List (Bool × List Int)} (h : ItsAt d e H0 H hs zs) : ItsAt d e H0 (upd H e o) hs zs := Paired.imp (fun _ z q => ⟨by rw [upd_ne q.2.2.1]; exact q.1, q.2⟩) h
theorem at_seven {r2 r : Int} (h0 : 0 ≤ r) (h1 : r < 7) (a0 : 0 ≤ r2) (a1 : r2 < 400) : ∃ t : Int, atI [V.int 1, V.int 2, V.int 3, V.int 6, V.int 12, V.int 400, V.int (1 + r2)] r = some (.int t) ∧ 1 ≤ t ∧ t ≤ 400 := by
  have : r = 0 ∨ r = 1 ∨ r = 2 ∨ r = 3 ∨ r = 4 ∨ r = 5 ∨ r = 6 := by omega
  rcases this with rfl | rfl | rfl | rfl | rfl | rfl | rfl
  · exact ⟨_, rfl, by decide, by decide⟩
  · exact ⟨_, rfl, by decide, by decide⟩
  · exact ⟨_, rfl, by decide, by decide⟩
  · exact ⟨_, rfl, by decide, by decide⟩
  · exact ⟨_, rfl, by decide, by decide⟩
  · exact ⟨_, rfl, by decide, by decide⟩
  · exact ⟨_, rfl, by omega, by omega⟩
end Toy

-- part: LM
namespace Toy
open PySem L2
open LamX (Tabs TabS ExtN CodeO TabB)
section
variable {K : PySem.W.Frag} {d sc : Addr} {H H0 H1 : Hp} {C : Addr}
def rLs (K : PySem.W.Frag) : List V → Hp → VK → Prop := fun xs H Q => ∃ p ys, xs = [.ref p] ∧ (SqL K H p ys ∨ SqT K H p ys) ∧ ∀ l, H l = none → Q (.ref l) (upd H l (.lst ys))
def rTp (K : PySem.W.Frag) : List V → Hp → VK → Prop := fun xs H Q => ∃ p ys, xs = [V.ref p] ∧ ((SqL K H p ys ∧ ∀ (l : Addr), H l = none → Q (V.ref l) (upd H l (HO.tup ys))) ∨ SqT K H p ys ∧ Q (V.ref p) H)
theorem sqt0 {eT : Addr} (h : SqT K (fun _ => none) eT []) : SqT K H eT [] := by
  rcases h with (h | ⟨o, h⟩) | h
  · cases h
  · cases h
  · exact .inr h
theorem mk_problem {T : List (Addr × Str)} {CONT : VK} {H9 : Hp} {rl pe hl eT : Addr} {ps hs : List Addr} {zs : List (Bool × List Int)} {rows cs : List (List Int)} {ns : List Int} {t : Int} {l2 l3 l6 l7 l9 l10 l11 l12 l13 : Option V} {H8 : Hp}
    (he : SqT K (fun _ => none) eT []) (t1 : 1 ≤ t) (t4 : t ≤ 400) (ok : RowsOk t rows) (due : IsDue rows cs) (hpe : H9 pe = none) (D9 : DrA K sc ns H9 d) (T9 : Tabs T H9) (hrl9 : H9 rl = some (.lst (ps.map V.ref))) (at9 : LstsAt d H9 ps rows)
    (hhl9 : H9 hl = some (.lst (hs.map V.ref))) (it9 : ItsAt d hl H8 H9 hs zs) (zr : zs.map (·.2) = rows)
    (k : ∀ (x cp : Addr) (H12 : Hp), Kp d H9 H12 → DrA K sc ns H12 d → Tabs T H12 → Prb C H12 x t cp cs → CONT (.ref x) H12) :
    rNeD K (.ref rl) (.ref pe) (upd H9 pe (.lst [])) (fun x H1 => ∃ c, x = V.bl c ∧ if c = true then
      tMake C (spInit K C) [] E0 (tCons (tVar 4) (tCons (tOp (rIxL K) (tLst (tCons (tVar 8) (tCons (tCB (rTp K) (tCons (tVar 8) tNil)) tNil))) (tCall (spNext K) [] E0 (tCons (tVar 1) (tCons (tC (V.int 2)) tNil)))) tNil))
        [some (.ref sc), some (.ref d), l2, l3, some (.int t), some (.ref rl), l6, l7, some (.ref hl), l9, l10, l11, l12, l13] H1 CONT
      else tMake C (spInit K C) [V.ref eT] E0 (tCons (tVar 4) tNil) [some (.ref sc), some (.ref d), l2, l3, some (.int t), some (.ref rl), l6, l7, some (.ref hl), l9, l10, l11, l12, l13] H1 CONT) := by
  have s6 : Same H9 (upd H9 pe (.lst [])) := Same.new hpe
  have D6 := DrA.same s6 D9
  have T6 := Tabs.same s6 T9
  refine p_neD (.lst (SqL.of (s6 _ _ hrl9)) (dp_lists (at9.kp (Kp.same s6)))) (.lst (SqL.of upd_same) .nil) (shaped_rows rows) (by decide) ?_
  generalize upd H9 pe (.lst []) = H6 at *
  rw [show PyData.eqv (.list (rows.map fun r => PyData.list (r.map PyData.int))) (.list []) = decide (rows = []) from eqv_rows0 rows]
  by_cases hc : rows = []
  · rw [decide_eq_true hc]
    refine ⟨_, rfl, iteF ?_⟩
    simp only [e_make]
    walk_at "rd"
    refine p_make (C := C) (t := t) (rows := rows) (xs := []) t1 t4 (.inr (sqt0 he)) (by rw [hc]; exact .nil) ok fun x cp cs2 H12 s12 p12 due2 => ?_
    have e := IsDue.ext due2 due fun _ => Iff.rfl
    subst e
    exact k x cp H12 (Kp.same (Same.trans s6 s12)) (DrA.same s12 D6) (Tabs.same s12 T6) p12
  · rw [decide_eq_false hc]
    refine ⟨_, rfl, iteT ?_⟩
    simp only [e_make]
    unfold rTp
    walk_at "rd"
    refine ⟨hl, _, rfl, .inl ⟨SqL.of (s6 _ _ hhl9), fun ta hta => ?_⟩⟩
    walk_at "rd"
    refine ⟨by show 2 ≤ sizeLine; decide, fun pl hpl => ?_⟩
    have s7 : Same H6 (upd (upd H6 ta (.tup (hs.map V.ref))) pl (.lst [V.ref hl, V.ref ta])) := Same.trans (Same.new hta) (Same.new hpl)
    have h7 : upd (upd H6 ta (.tup (hs.map V.ref))) pl (.lst [V.ref hl, V.ref ta]) ta = some (.tup (hs.map V.ref)) := Same.new hpl _ _ upd_same
    have hpl7 : upd (upd H6 ta (.tup (hs.map V.ref))) pl (.lst [V.ref hl, V.ref ta]) pl = some (.lst [V.ref hl, V.ref ta]) := upd_same
    have npl : H6 pl = none := none_up hpl
    have nhd : hl ≠ d := fun e => by
      obtain ⟨n, D⟩ := D9
      rw [e, D.dr] at hhl9
      have q := HO.lst.inj (Option.some.inj hhl9)
      match hs, q with
      | [], q => cases q
      | [a], q => cases q
      | a :: b :: r, q => cases q
    generalize upd (upd H6 ta (.tup (hs.map V.ref))) pl (.lst [V.ref hl, V.ref ta]) = H7 at *
    have D7 := DrA.same s7 D6
    refine ⟨d, 2, sc, ns, rfl, by decide, D7, fun r H10 r0 r1 E10 D10 => ?_⟩
    have k10 : Kp d H9 H10 := Kp.trans (Kp.same (Same.trans s6 s7)) (Kp.ex E10)
    have T10 := Tabs.ex E10 (.inl (DrA.dr D7)) (Tabs.same s7 T6)
    have pick : ∃ a, atI [V.ref hl, V.ref ta] r = some (.ref a) ∧ SqA K H10 a (hs.map V.ref) := by
      rcases at_two (a := V.ref hl) (b := V.ref ta) r0 r1 with ⟨_, e⟩ | ⟨_, e⟩
      · exact ⟨hl, e, .inl (SqL.of (k10.l hhl9 nhd))⟩
      · obtain ⟨xs, hd7⟩ := DrA.dr D7
        exact ⟨ta, e, .inr (SqT.of (E10 _ _ h7 (ne_of h7 hd7 (by intro z; cases z))))⟩
    obtain ⟨a, hat, hsq⟩ := pick
    refine p_ix (SqL.of (E10 _ _ hpl7 (D6.nd npl))) hat ?_
    walk_at "rd"
    have it10 := it9.kp k10
    have hrw := it10.rows (K := K)
    rw [zr] at hrw
    refine p_make (C := C) (t := t) (rows := rows) (xs := hs.map V.ref) t1 t4 hsq hrw ok fun x cp cs2 H12 s12 p12 due2 => ?_
    have e := IsDue.ext due2 due fun _ => Iff.rfl
    subst e
    exact k x cp H12 (Kp.trans k10 (Kp.same s12)) (DrA.same s12 D10) (Tabs.same s12 T10) p12
theorem TyB.same {H H' : Hp} (e : Same H H') {y : V} {T : String} (t : TyB K H y T) : TyB K H' y T := by
  cases t with
  | non => exact .non
  | bl b => exact .bl b
  | int i => exact .int i
  | str x => exact .str x
  | byt b => exact .byt b
  | lst h => exact .lst (Same.seq e h)
  | tup h => exact .tup (Same.sqt e h)
  | dK h => exact .dK (e _ _ h)
theorem Unl.same {t : Int} {cs : List (List Int)} {H H' : Hp} (e : Same H H') {y : V} : Unl K C t cs H y → Unl K C t cs H' y
  | .inl ⟨T, ty, o⟩ => .inl ⟨T, TyB.same e ty, o⟩
  | .inr ⟨b, t2, cp2, cs2, h1, h2, h3⟩ => .inr ⟨b, t2, cp2, cs2, h1, Prb.same e h2, h3⟩
theorem ItsAt.mem {e : Addr} {hs : List Addr} {zs : List (Bool × List Int)} (h : ItsAt d e H0 H hs zs) : ∀ q ∈ hs, ∃ z ∈ zs, H q = some (oI z) ∧ q ≠ d ∧ q ≠ e ∧ H0 q = none := by
  induction h with
  | nil => intro q h; cases h
  | cons h t ih =>
    intro q hq
    rcases List.mem_cons.mp hq with rfl | hq
    · exact ⟨_, List.mem_cons_self, h⟩
    · obtain ⟨z, hz, r⟩ := ih q hq
      exact ⟨z, List.mem_cons_of_mem _ hz, r⟩
theorem LstsAt.mem {ps : List Addr} {rows : List (List Int)} (h : LstsAt d H ps rows) : ∀ q ∈ ps, ∃ row ∈ rows, H q = some (.lst (row.map V.int)) ∧ q ≠ d := by
  induction h with
  | nil => intro q h; cases h
  | cons h t ih =>
    intro q hq
    rcases List.mem_cons.mp hq with rfl | hq
    · exact ⟨_, List.mem_cons_self, h⟩
    · obtain ⟨z, hz, r⟩ := ih q hq
      exact ⟨z, List.mem_cons_of_mem _ hz, r⟩
theorem LstsAt.mem2 {ps : List Addr} {rows : List (List Int)} (h : LstsAt d H ps rows) : ∀ row ∈ rows, ∃ q ∈ ps, H q = some (.lst (row.map V.int)) := by
  induction h with
  | nil => intro q h; cases h
  | cons h t ih =>
    intro q hq
    rcases List.mem_cons.mp hq with rfl | hq
    · exact ⟨_, List.mem_cons_self, h.1⟩
    · obtain ⟨z, hz, r⟩ := ih q hq
      exact ⟨z, List.mem_cons_of_mem _ hz, r⟩
/-- rows picked by their places -/
theorem LstsAt.pick {ps : List Addr} {rows : List (List Int)} (h : LstsAt d H ps rows) : ∀ qs : List Addr, (∀ q ∈ qs, q ∈ ps) → ∃ rows2, LstsAt d H qs rows2 ∧ ∀ r ∈ rows2, r ∈ rows
  | [], _ => ⟨[], .nil, fun r h => nomatch h⟩
  | q :: qs, hq => by
    obtain ⟨row, hr, h1⟩ := h.mem q (hq q List.mem_cons_self)
    obtain ⟨rows2, h2, h3⟩ := LstsAt.pick h qs fun y hy => hq y (List.mem_cons_of_mem _ hy)
    refine ⟨row :: rows2, .cons h1 h2, fun r hr2 => ?_⟩
    rcases List.mem_cons.mp hr2 with rfl | hr2
    · exact hr
    · exact h3 r hr2
theorem refs_of : ∀ ys : List V, (∀ y ∈ ys, ∃ q, y = V.ref q) → ∃ qs : List Addr, ys = qs.map V.ref
  | [], _ => ⟨[], rfl⟩
  | y :: ys, h => by
    obtain ⟨q, rfl⟩ := h y List.mem_cons_self
    obtain ⟨qs, rfl⟩ := refs_of ys fun z hz => h z (List.mem_cons_of_mem _ hz)
    exact ⟨q :: qs, rfl⟩
theorem mem_cut {xs : List V} {lo hi : Option Int} {y : V} (h : y ∈ cutV xs lo hi) : y ∈ xs := List.mem_of_mem_drop (List.mem_of_mem_take h)
theorem cl_rev {row c : List Int} : IsCl row.reverse c ↔ IsCl row c := ⟨fun h => ⟨h.inc, fun x => (h.mem x).trans List.mem_reverse⟩, fun h => ⟨h.inc, fun x => (h.mem x).trans List.mem_reverse.symm⟩⟩
end
end Toy

-- part: LW
namespace Toy
open PySem L2
open LamX (Tabs TabS ExtN CodeO TabB)
section
variable {P : Program} {w : World} {K : PySem.W.Frag} {mg : Str → Option Value} {base : Heap}
variable {C fN fL fT fC fU fB fI fE eT : Addr} {fdN fdL fdT fdC fdU fdB fdI fdE : FuncData}
abbrev sLaw : Stmt := topS 24
abbrev nLaw : List Str := ["script", "draw", "turn", "sort", "truths", "rows", "due", "row", "handed", "ahead", "problem", "others", "k", "one"]
theorem scLaw : FnScope nLaw ["script"] (defScope sLaw) := ⟨rfl, rfl, rfl, by decide +kernel, rfl, by decide +kernel, by decide +kernel⟩
def spLaw (K : PySem.W.Frag) (T : List (Addr × Str)) : Sp := fun vs H Q _ => ∃ (sc : Addr) (ns : List Int), vs = [.ref sc] ∧ SqL K H sc (ns.map V.int) ∧ ns.length ≤ 63 ∧ Tabs T H ∧ ∀ H', Q (.bl true) H'
def tCopy (K : PySem.W.Frag) : TE := tOp (rIxL K) (tLst (tCons (tCB (rLs K) (tCons (tVar 7) tNil)) (tCons (tCB (rTp K) (tCons (tVar 7) tNil)) tNil))) (tCall (spNext K) [] E0 (tCons (tVar 1) (tCons (tC (V.int 2)) tNil)))
theorem ok_law {f c PT fM fX fR fD fV fW fO : Addr} {fd fdM fdX fdR fdD fdV fdW fdO : FuncData} (F : Fun K "law" "law" sLaw f fd) (B : Bl mg) (G : Prog K mg C fN fL fT fC fU fB fI fE fdN fdL fdT fdC fdU fdB fdI fdE eT) (ic : C8.InsC K C) (O : Oth K C) (TB : TabB base mg c PT)
    (M : Df K mg "_law_mixed" sMixed ["cell", "k"] fM fdM) (X : Df K mg "_law_next" sNext ["draw", "size"] fX fdX) (R : Df K mg "_law_row" sRow ["draw", "truths"] fR fdR)
    (D : FunT K "_law_due" "_law_due" sDue c fD fdD) (Dg : mg "_law_due" = some (.ref fD)) (Db : Binds K fdD ["rows"] [])
    (V_ : Df K mg "_law_mixed_up" sMix ["draw", "some"] fV fdV) (W_ : Df K mg "_law_bears" sBears ["problem", "truths", "due"] fW fdW) (O_ : Df K mg "_law_unlike" sUnl ["truths", "rows", "due"] fO fdO)
    (hsE : PySem.W.findIn K (.ref C) "__eq__" = some (some (.ref fE))) (hfE : PySem.W.isFn K (.ref fE) = true) (bE : Binds K fdE ["self", "other"] []) :
    FnG P w K mg base 8 f fd ["script"] (spLaw K [(PT, qLam)]) := by
  have GX : FnOk P w K mg base CX0 2 fX fdX ["draw", "size"] (spNext K) := ok_next X.F B M
  have GR : FnOk P w K mg base CX0 3 fR fdR ["draw", "truths"] (spRow K) := ok_row R.F B M X
  have GD : FnOk P w K mg base CX0 4 fD fdD ["rows"] (spDue K [(PT, qLam)]) := ok_due D B TB
  have GV : FnOk P w K mg base CX0 3 fV fdV ["draw", "some"] (spMix K) := ok_mix V_.F B M X
  have GW : FnG P w K mg base 1 fW fdW ["problem", "truths", "due"] (spBears C) := ok_bears W_.F G B
  have GO : FnOk P w K mg base CX0 7 fO fdO ["truths", "rows", "due"] (spUnl K C) := ok_unl O_.F G B O
  have GI : FnOk P w K mg base CX0 5 fI fdI ["self", "many", "clauses"] (spInit K C) := ok_init G B
  have GE : FnOk P w K mg base CX0 1 fE fdE ["self", "other"] (spEq K C) := ok_eq G B ic
  refine FnG.of F scLaw (fun vs H Q E h => ?_) (fun cdv A outer s H vs Q E hgu hr h => ?_)
  · obtain ⟨sc, ns, rfl, _⟩ := h
    rfl
  · obtain ⟨sc, ns, rfl, hS, hn, hT, q⟩ := h
    have hu := hu_of hr
    refine ⟨_, pss_cons (ps_set (i := 1) scLaw.nd rfl (Or.inr rfl) (pe_lst (pa_cons (pv 0) (pa_cons pe_int pa_nil))))
      (pss_cons (ps_for PassesOwn.never rfl (pi_range1 rfl B.range (pa_cons (pe_callB (call_max2 rfl) (by rfl) B.max (by decide +kernel) (pa_cons pe_int (pa_cons (pe_callB (call_min2 rfl) (by rfl) B.min (by decide +kernel) (pa_cons pe_int (pa_cons (pe_callB call_len_seq (by rfl) B.len PySem.boot_len (pa_cons (pv 0) pa_nil)) pa_nil))) pa_nil))) pa_nil)) (pg_name (i := 2) scLaw.nd rfl (Or.inl rfl))
        (pss_cons (ps_set (i := 3) scLaw.nd rfl (Or.inl rfl) (pe_call GX (hr.mono (by decide)) rfl X.g X.F.kp X.b .nil pass0 (pa_cons (pv 1) (pa_cons pe_int pa_nil))))
        (pss_cons (ps_set (i := 4) scLaw.nd rfl (Or.inr rfl) (pe_ix ix_list (pe_lst (pa_cons pe_int (pa_cons pe_int (pa_cons pe_int (pa_cons pe_int (pa_cons pe_int (pa_cons pe_int (pa_cons (pe_op op_add pe_int (pe_call GX (hr.mono (by decide)) rfl X.g X.F.kp X.b .nil pass0 (pa_cons (pv 1) (pa_cons pe_int pa_nil)))) pa_nil)))))))) (pv 3) (fun _ _ => rfl)))
        (pss_cons (ps_setLc (i := 5) (own := [("k", 12)]) (g := gName 12) (tt := tYes) rfl scLaw.nd rfl rfl (sw_true rfl rfl rfl (by decide +kernel)) (pi_range1 rfl B.range (pa_cons (pe_call GX (hr.mono (by decide)) rfl X.g X.F.kp X.b .nil pass0 (pa_cons (pv 1) (pa_cons pe_int pa_nil))) pa_nil))
          (blkOk_by (own := [("k", 12)]) (N := nLaw) (sc := defScope sLaw) (by decide +kernel)) (fun _ _ _ _ _ => pg_name (i := 12) scLaw.nd rfl (Or.inl rfl)) (fun _ _ _ _ _ => pts_nil)
          (fun _ _ _ _ _ => pe_call GR (hr.mono (by decide)) rfl R.g R.F.kp R.b .nil pass0 (pa_cons (pv 1) (pa_cons (pv 4) pa_nil))))
        (pss_cons (ps_set (i := 6) scLaw.nd rfl (Or.inl rfl) (pe_call GD (hr.mono (by decide)) rfl Dg D.kp Db .nil pass0 (pa_cons (pv 5) pa_nil)))
        (pss_cons (ps_setLc (i := 8) (own := [("row", 7)]) (g := gName 7) (tt := tYes) (te := tCopy K) rfl scLaw.nd rfl rfl (sw_true rfl rfl rfl (by decide +kernel)) (pi_list (pv 5))
          (blkOk_by (own := [("row", 7)]) (N := nLaw) (sc := defScope sLaw) (by decide +kernel)) (fun _ _ _ _ _ => pg_name (i := 7) scLaw.nd rfl (Or.inl rfl)) (fun _ _ _ _ _ => pts_nil)
          (fun _ _ _ _ _ => pe_ix ix_list (pe_lst (pa_cons (pe_callTy (T := "list") call_list_of (by rfl) B.list (by decide +kernel) (pa_cons (pv 7) pa_nil)) (pa_cons (pe_callTy (T := "tuple") call_tuple_of (by rfl) B.tuple (by decide +kernel) (pa_cons (pv 7) pa_nil)) pa_nil))) (pe_call GX (hr.mono (by decide)) rfl X.g X.F.kp X.b .nil pass0 (pa_cons (pv 1) (pa_cons pe_int pa_nil))) (fun _ _ => rfl)))
        (pss_cons (ps_set (i := 9) scLaw.nd rfl (Or.inl rfl) (pe_callB (call_reprD (deeper_guards hgu) (u100 hr)) (by rfl) B.repr (by decide +kernel) (pa_cons (pv 8) pa_nil)))
        (pss_cons (ps_set (i := 10) scLaw.nd rfl (Or.inr rfl) (pe_ifExp (pt_cmpR (op_neD hr.units) (pv 5) (pe_lst pa_nil) (nomark _))
          (pe_make G.mak GI (hr.mono (by decide)) rfl G.gC G.bI .nil pass0 (pa_cons (pv 4) (pa_cons (pe_ix ix_list (pe_lst (pa_cons (pv 8) (pa_cons (pe_callTy call_tuple_of (by rfl) B.tuple (by decide +kernel) (pa_cons (pv 8) pa_nil)) pa_nil))) (pe_call GX (hr.mono (by decide)) rfl X.g X.F.kp X.b .nil pass0 (pa_cons (pv 1) (pa_cons pe_int pa_nil))) (fun _ _ => rfl)) pa_nil)))
          (pe_make (dvs := [.ref eT]) G.mak GI (hr.mono (by decide)) rfl G.gC G.bD (.cons rfl .nil) pass0 (pa_cons (pv 4) pa_nil))))
        (pss_cons (ps_if (PW.pt (pw_or (pt_not (pt_val (pe_callG GW (deeper_guards hgu) (hr.mono (by decide)) rfl W_.g W_.F.kp W_.b (pa_cons (pv 10) (pa_cons (pv 4) (pa_cons (pv 6) pa_nil))))))
          (pw_or1 (pt_cmpR op_ne (pe_callB (call_reprD (deeper_guards hgu) (u100 hr)) (by rfl) B.repr (by decide +kernel) (pa_cons (pv 8) pa_nil)) (pv 9) (nomark _))))) (pss_one (ps_ret pe_bl)) pss_nil)
        (pss_cons (ps_for PassesOwn.never rfl (pi_list (pv 8)) (pg_name (i := 7) scLaw.nd rfl (Or.inl rfl))
          (pss_one (ps_if (pt_val (pe_callB call_isi (by rfl) B.isinstance (by decide +kernel) (pa_cons (pv 7) (pa_cons (pe_bltn (v := .ty "list") (by rfl) B.list (by decide +kernel) rfl) pa_nil)))) (pss_one (ps_expr (pe_bm PySem.F.plainAttrs_list PySem.F.slot_list_append PySem.F.type_list_append mt_append (pv 7) (pa_cons pe_int pa_nil)))) pss_nil)))
        (pss_cons (ps_expr (pe_bm PySem.F.plainAttrs_list PySem.F.slot_list_append PySem.F.type_list_append mt_append (pv 8) (pa_cons pe_int pa_nil)))
        (pss_cons (ps_if (pt_not (pt_val (pe_callG GW (deeper_guards hgu) (hr.mono (by decide)) rfl W_.g W_.F.kp W_.b (pa_cons (pv 10) (pa_cons (pv 4) (pa_cons (pv 6) pa_nil)))))) (pss_one (ps_ret pe_bl)) pss_nil)
        (pss_cons (ps_setLc (i := 11) (own := [("row", 7)]) (g := gName 7) (tt := tYes) (te := tRevL K (tVar 7)) rfl scLaw.nd rfl rfl (sw_true rfl rfl rfl (by decide +kernel)) (pi_list (pe_call GV (hr.mono (by decide)) rfl V_.g V_.F.kp V_.b .nil pass0 (pa_cons (pv 1) (pa_cons (pe_op op_cat (pv 5) (pe_slice sl_list (pv 5) po_none (po_some pe_int))) pa_nil))))
          (blkOk_by (own := [("row", 7)]) (N := nLaw) (sc := defScope sLaw) (by decide +kernel)) (fun _ _ _ _ _ => pg_name (i := 7) scLaw.nd rfl (Or.inl rfl)) (fun _ _ _ _ _ => pts_nil)
          (fun _ _ _ _ _ => pe_revL (pv 7)))
        (pss_cons (ps_if (PW.pt (pw_or (pt_not (pt_cmpR (op_eqIns GE (hr.mono (by decide)) hsE hfE bE) (pv 10) (pe_make G.mak GI (hr.mono (by decide)) rfl G.gC G.bI .nil pass0 (pa_cons (pv 4) (pa_cons (pv 11) pa_nil))) (nomark _)))
          (pw_or1 (pt_not (pt_cmpR (op_eqIns GE (hr.mono (by decide)) hsE hfE bE) (pe_make G.mak GI (hr.mono (by decide)) rfl G.gC G.bI .nil pass0 (pa_cons (pv 4) (pa_cons (pv 6) pa_nil))) (pv 10) (nomark _)))))) (pss_one (ps_ret pe_bl)) pss_nil)
        (pss_one (ps_if (pt_cmpR (op_neD hr.units) (pe_lc (own := [("one", 13)]) (g := gName 13) (tt := tTest (tOp (rEqIns K C (spEq K C)) (tVar 10) (tVar 13))) (te := tVar 13) rfl scLaw.nd (pi_list (pe_call GO (hr.mono (by decide)) rfl O_.g O_.F.kp O_.b .nil pass0 (pa_cons (pv 4) (pa_cons (pv 5) (pa_cons (pv 6) pa_nil)))))
          (blkOk_by (own := [("one", 13)]) (N := nLaw) (sc := defScope sLaw) (by decide +kernel)) (fun _ _ _ _ _ => pg_name (i := 13) scLaw.nd rfl (Or.inl rfl)) (fun _ _ _ _ _ => pts_one (pt_cmpR (op_eqIns GE (hr.mono (by decide)) hsE hfE bE) (pv 10) (pv 13) (nomark _)))
          (fun _ _ _ _ _ => pv 13)) (pe_lst pa_nil) (nomark _)) (pss_one (ps_ret pe_bl)) pss_nil))))))))))))))))
      (pss_one (ps_ret pe_bl))), ?_⟩
    show tSeq _ _ _ [some (.ref sc), none, none, none, none, none, none, none, none, none, none, none, none, none] H
    walk_at "rd"
    refine ⟨by show 2 ≤ sizeLine; decide, fun d hd => ?_⟩
    have D1 : DrA K sc ns (upd H d (.lst [.ref sc, .int 0])) d := ⟨0, upd_same, Same.seq (Same.new hd) hS, hn, Int.le_refl _⟩
    have T1 := Tabs.same (Same.new (o := .lst [.ref sc, .int 0]) hd) hT
    generalize upd H d (.lst [.ref sc, .int 0]) = H1 at *
    obtain ⟨n1, D1'⟩ := D1
    refine ⟨_, rfl, sc, _, rfl, .inl D1'.sq, _, _, rfl, _, _, rfl, _, rfl, ?_, ?_, ?_⟩
    · split <;> omega
    · have : sizeLine = 16777216 := rfl
      have q5 : (if ((ns.map V.int).length : Int) < 5 then ((ns.map V.int).length : Int) else 5) ≤ 5 := by split <;> omega
      split <;> omega
    refine for_range (fun i σ H' => ∃ (l2 l3 l4 l5 l6 l7 l8 l9 l10 l11 : Option V), σ = [some (.ref sc), some (.ref d), l2, l3, l4, l5, l6, l7, l8, l9, l10, l11, none, none] ∧ DrA K sc ns H' d ∧ Tabs [(PT, qLam)] H')
      ⟨_, _, _, _, _, _, _, _, _, _, rfl, ⟨n1, D1'⟩, T1⟩ ?_ ?_
    · rintro i σ H2 hi ⟨l2, l3, l4, l5, l6, l7, l8, l9, l10, l11, rfl, D2, T2⟩
      walk_at "rd"
      refine ⟨d, 7, sc, ns, rfl, by decide, D2, fun r1 H3 r10 r11 E3 D3 => ?_⟩
      have T3 := Tabs.ex E3 (.inl (DrA.dr D2)) T2
      walk_at "rd"
      refine ⟨d, 400, sc, ns, rfl, by decide, D3, fun r2 H4 r20 r21 E4 D4 => ?_⟩
      have T4 := Tabs.ex E4 (.inl (DrA.dr D3)) T3
      walk_at "rd"
      refine ⟨by show 7 ≤ sizeLine; decide, fun p hp => ?_⟩
      obtain ⟨t, hat, t1, t4⟩ := at_seven r10 r11 r20 r21
      refine p_ix (SqL.of upd_same) hat ?_
      walk_at "rd"
      have D5 := DrA.same (Same.new (o := .lst [V.int 1, V.int 2, V.int 3, V.int 6, V.int 12, V.int 400, V.int (1 + r2)]) hp) D4
      have T5 := Tabs.same (Same.new (o := .lst [V.int 1, V.int 2, V.int 3, V.int 6, V.int 12, V.int 400, V.int (1 + r2)]) hp) T4
      generalize upd H4 p (.lst [V.int 1, V.int 2, V.int 3, V.int 6, V.int 12, V.int 400, V.int (1 + r2)]) = H5 at *
      refine ⟨_, rfl, d, 13, sc, ns, rfl, by decide, D5, fun r3 H6 r30 r31 E6 D6 => ⟨r3, rfl, by omega, by omega, fun rl hrl => ?_⟩⟩
      have T6 := Tabs.ex E6 (.inl (DrA.dr D5)) T5
      have nrl := D6.nd hrl
      refine lc_range (lo := 0) (n := r3.toNat) (fun j Hj => Ex d H6 Hj ∧ DrA K sc ns Hj d ∧ Tabs [(PT, qLam)] Hj ∧ ∃ (ps : List Addr) (rows : List (List Int)), Hj rl = some (.lst (ps.map V.ref)) ∧ LstsAt d Hj ps rows ∧ (∀ q ∈ ps, q ≠ rl) ∧ ps.length = j ∧ rows.length = j ∧ ∀ row ∈ rows, RowOk t row ∧ row.length ≤ 6)
        ⟨Ex.new hrl, DrA.same (Same.new hrl) D6, Tabs.same (Same.new hrl) T6, [], [], upd_same, .nil, (fun q h => nomatch h), rfl, rfl, (fun q h => nomatch h)⟩ ?_ ?_
      · rintro j Hj hj ⟨Ej, Dj, Tj, ps, rows, hlj, aj, nj, plj, rlj, okj⟩
        refine ⟨rfl, yesT ?_⟩
        show tCall _ _ _ _ [some (.ref sc), some (.ref d), some (.int (0 + (i : Int))), some (.int r1), some (.int t), l5, l6, l7, l8, l9, l10, l11, some (.int (0 + (j : Int))), none] _ _
        walk_at "rd"
        refine ⟨d, t, sc, ns, rfl, t1, t4, Dj, fun q row H' ro r6 E' D' hq hnq => ⟨ps.map V.ref, E' _ _ hlj nrl, by rw [List.length_map]; exact small1000 (by omega), ?_⟩⟩
        have nql : q ≠ rl := fun e => by rw [e, hlj] at hnq; cases hnq
        have nqd := Dj.nd hnq
        have hl' := E' _ _ hlj nrl
        refine ⟨Ex.up (Ex.trans Ej E') hrl, DrA.upK D6 D' (Kp.ex (Ex.trans Ej E')) hrl, Tabs.ex Ex.at (.inl ⟨_, hl'⟩) (Tabs.ex E' (.inl (DrA.dr Dj)) Tj), ps ++ [q], rows ++ [row], by rw [upd_same, List.map_append]; rfl, ?_, ?_, by rw [List.length_append, plj]; rfl, by rw [List.length_append, rlj]; rfl, ?_⟩
        · exact LstsAt.up (Paired.snoc ⟨hq, nqd⟩ (LstsAt.kp (Kp.ex E') aj)) (fun y hy => by
            rcases List.mem_append.mp hy with hy | hy
            · exact nj y hy
            · rw [List.mem_singleton.mp hy]; exact nql)
        · intro y hy
          rcases List.mem_append.mp hy with hy | hy
          · exact nj y hy
          · rw [List.mem_singleton.mp hy]; exact nql
        · intro y hy
          rcases List.mem_append.mp hy with hy | hy
          · exact okj y hy
          · rw [List.mem_singleton.mp hy]; exact ⟨ro, r6⟩
      rintro H7 ⟨E67, D7, T7, ps, rows, hrl7, at7, nps, plen, rlen, rok⟩
      walk_at "rd"
      have ok : RowsOk t rows := ⟨by omega, fun row hr => ⟨(rok row hr).1, Nat.le_trans (rok row hr).2 (by decide)⟩⟩
      refine ⟨rl, ps, rows, t, rfl, SqL.of hrl7, at7.lists, ok, T7, fun da bs cs H8 due dl X8 T8 hda8 TA8 => ?_⟩
      have D8 := DrA.extN X8 D7
      have hrl8 := (Kp.extN X8).l (d := d) hrl7 nrl
      have at8 := at7.kp (Kp.extN X8)
      clear E67 D7 T7 hrl7 at7 X8 D6 T6 D5 T5 D4 T4 D3 T3 D2 T2
      walk_at "rd"
      refine ⟨_, rfl, rl, rfl, ⟨_, SqL.of hrl8⟩, fun hl hhl => ?_⟩
      have nhl := D8.nd hhl
      refine lc_list (K := K) (a := rl) (xs := ps.map V.ref) (fun j Hj => Ex d H8 Hj ∧ DrA K sc ns Hj d ∧ Tabs [(PT, qLam)] Hj ∧ ∃ (hs : List Addr) (zs : List (Bool × List Int)), Hj hl = some (.lst (hs.map V.ref)) ∧ ItsAt d hl H8 Hj hs zs ∧ zs.map (·.2) = rows.take j ∧ hs.length = j)
        ⟨Ex.new hhl, DrA.same (Same.new hhl) D8, Tabs.same (Same.new hhl) T8, [], [], upd_same, .nil, rfl, rfl⟩ (fun j Hj _ ⟨e, _⟩ => SqL.of (e _ _ hrl8 nrl)) ?_ ?_
      · rintro j x Hj hj ⟨Ej, Dj, Tj, hs, zs, hhj, itj, zj, hjl⟩
        rw [List.getElem?_map] at hj
        cases ez : ps[j]? with
        | none => rw [ez] at hj; cases hj
        | some q =>
        rw [ez] at hj
        cases hj
        obtain ⟨row, hrow, hq8, nqd⟩ := at8.get ez
        have hjp : j < ps.length := (List.getElem?_eq_some_iff.mp ez).1
        have hqj := Ej _ _ hq8 nqd
        refine ⟨rfl, yesT ?_⟩
        show tOp _ _ _ [some (.ref sc), some (.ref d), some (.int (0 + (i : Int))), some (.int r1), some (.int t), some (.ref rl), some (.ref da), some (.ref q), l8, l9, l10, l11, none, none] _ _
        walk_at "rd"
        refine ⟨q, row.map V.int, rfl, .inl (SqL.of hqj), fun a1 ha1 => ?_⟩
        walk_at "rd"
        refine ⟨q, row.map V.int, rfl, .inl ⟨SqL.of (Same.new ha1 _ _ hqj), fun a2 ha2 => ?_⟩⟩
        walk_at "rd"
        refine ⟨by show 2 ≤ sizeLine; decide, fun a3 ha3 => ?_⟩
        have S3 : Same Hj (upd (upd (upd Hj a1 (.lst (row.map V.int))) a2 (.tup (row.map V.int))) a3 (.lst [V.ref a1, V.ref a2])) := Same.trans (Same.new ha1) (Same.trans (Same.new ha2) (Same.new ha3))
        have h1 := Same.new (o := .lst [V.ref a1, V.ref a2]) ha3 _ _ (Same.new (o := .tup (row.map V.int)) ha2 _ _ (upd_same (a := a1) (H := Hj) (o := .lst (row.map V.int))))
        have h2 := Same.new (o := .lst [V.ref a1, V.ref a2]) ha3 _ _ (upd_same (a := a2) (H := upd Hj a1 (.lst (row.map V.int))) (o := .tup (row.map V.int)))
        have h3 : upd (upd (upd Hj a1 (.lst (row.map V.int))) a2 (.tup (row.map V.int))) a3 (.lst [V.ref a1, V.ref a2]) a3 = some (.lst [V.ref a1, V.ref a2]) := upd_same
        have n1 : Hj a1 = none := ha1
        have n2 : Hj a2 = none := none_up ha2
        have n3 : Hj a3 = none := none_up (none_up ha3)
        generalize upd (upd (upd Hj a1 (.lst (row.map V.int))) a2 (.tup (row.map V.int))) a3 (.lst [V.ref a1, V.ref a2]) = Hk at *
        have Dk := DrA.same S3 Dj
        refine ⟨d, 2, sc, ns, rfl, by decide, Dk, fun r Hm r0 r1' Em Dm => ?_⟩
        have pick : ∃ (a : Addr) (z : Bool × List Int), atI [V.ref a1, V.ref a2] r = some (.ref a) ∧ z.2 = row ∧ Hm a = some (oI z) ∧ Hj a = none := by
          rcases at_two (a := V.ref a1) (b := V.ref a2) r0 r1' with ⟨_, e⟩ | ⟨_, e⟩
          · exact ⟨a1, (true, row), e, rfl, Em _ _ h1 (Dj.nd n1), n1⟩
          · exact ⟨a2, (false, row), e, rfl, Em _ _ h2 (Dj.nd n2), n2⟩
        obtain ⟨a, z, hat2, hz, hza, na⟩ := pick
        refine p_ix (SqL.of (Em _ _ h3 (Dj.nd n3))) hat2 ?_
        have ejm : Ex d Hj Hm := Ex.trans (Ex.same S3) Em
        have hhm := ejm _ _ hhj nhl
        have nah : a ≠ hl := fun e => by rw [e, hhj] at na; cases na
        refine ⟨hs.map V.ref, hhm, by rw [List.length_map]; exact small1000 (by omega), Ex.up (Ex.trans Ej ejm) hhl, DrA.upK D8 Dm (Kp.ex (Ex.trans Ej ejm)) hhl, ?_, hs ++ [a], zs ++ [z], by rw [upd_same, List.map_append]; rfl, ItsAt.up (Paired.snoc ⟨hza, Dj.nd na, nah, ?_⟩ (ItsAt.kp (Kp.ex ejm) itj)), ?_, by rw [List.length_append, hjl]; rfl⟩
        · exact Tabs.ex Ex.at (.inl ⟨_, hhm⟩) (Tabs.ex Em (.inl (DrA.dr Dk)) (Tabs.same S3 Tj))
        · rw [List.map_append, zj, List.take_add_one, hrow]
          show _ ++ [z.2] = _ ++ [row]
          rw [hz]
        · cases e8 : H8 a with
          | none => rfl
          | some o =>
            have := Ej _ _ e8 (Dj.nd na)
            rw [na] at this
            cases this
      rintro H9 ⟨E89, D9, T9, hs, zs, hhl9, it9, zrows, hslen⟩
      walk_at "rd"
      have zr : zs.map (·.2) = rows := by rw [zrows, List.length_map, plen, ← rlen, List.take_length]
      have zlen : zs.length = rows.length := by rw [← zr, List.length_map]
      have fit : ∀ row, RowOk t row → row.length ≤ 400 → Fits 400 row := fun row h l => ⟨l, fun x hx => by
        have := h.top x hx
        omega⟩
      have shH : Shows (.list (zs.map dI)) := shows_list (by omega) fun z hz => by
        have hm : z.2 ∈ rows := by rw [← zr]; exact List.mem_map.mpr ⟨z, hz, rfl⟩
        exact fit _ (rok _ hm).1 (Nat.le_trans (rok _ hm).2 (by decide))
      have shC : Shows (dCls cs) := shows_cls (by omega) fun c hc => by
        obtain ⟨row, hr, hi⟩ := (due.mem c).mp hc
        have := cl_row t4 (rok row hr).1 hi
        exact fit _ this.1 this.2
      have hrl9 := E89 _ _ hrl8 nrl
      have at9 := at8.kp (Kp.ex E89)
      refine ⟨hl, .list (zs.map dI), rfl, .lst (SqL.of hhl9) it9.dp, shH.1, shH.2.1, shH.2.2.1, shH.2.2.2, Nat.zero_le _, fun pe hpe => ?_⟩
      refine mk_problem (T := [(PT, qLam)]) (cs := cs) (ps := ps) (hs := hs) G.eT t1 t4 ok due hpe D9 T9 hrl9 at9 hhl9 it9 zr fun x cp H12 k12 D12 T12 p12 => ?_
      have hda12 := k12.t (DrA.dr D9).choose_spec (E89 _ _ hda8 (ne_of hda8 (DrA.dr D8).choose_spec (by intro z; cases z)))
      have TA12 := TupsAt.kp k12 (DrA.dr D9).choose_spec (TupsAt.kp (Kp.ex E89) (DrA.dr D8).choose_spec TA8)
      have hhl12 := k12.l hhl9 nhl
      have it12 := it9.kp k12
      have k8 : Kp d H8 H12 := Kp.trans (Kp.ex E89) k12
      refine ⟨x, t, da, cp, bs, cs, rfl, p12, hda12, TA12, shC, true, rfl, iteF ?_⟩
      refine ⟨hl, .list (zs.map dI), rfl, .lst (SqL.of hhl12) it12.dp, shH.1, shH.2.1, shH.2.2.1, shH.2.2.2, rfl, false, by rw [decide_eq_true rfl]; rfl, iteF ?_⟩
      clear hhl9 it9 E89 D9 T9 hrl9 at9 k12 hpe
      refine ⟨_, rfl, hl, rfl, ⟨_, SqL.of hhl12⟩, for_list (K := K) (a := hl) (xs := hs.map V.ref) (fun m σ H' => ∃ l7' : Option V, σ = [some (.ref sc), some (.ref d), some (.int (0 + (i : Int))), some (.int r1), some (.int t), some (.ref rl), some (.ref da), l7', some (.ref hl), some (.str (PyData.list (zs.map dI)).shown), some (.ref x), l11, none, none] ∧
        Kp d H8 H' ∧ DrA K sc ns H' d ∧ Tabs [(PT, qLam)] H' ∧ Prb C H' x t cp cs ∧ H' hl = some (.lst (hs.map V.ref)) ∧ ∀ q ∈ hs, (∃ xs, H' q = some (.lst xs) ∧ xs.length ≤ 400 + m) ∨ ∃ xs, H' q = some (.tup xs))
        ⟨_, rfl, k8, D12, T12, p12, hhl12, fun q hq => ?_⟩ (fun m σ H' _ ⟨_, _, _, _, _, _, h, _⟩ => SqL.of h) ?_ ?_⟩
      · obtain ⟨z, hz, h1, _⟩ := it12.mem q hq
        have hm : z.2 ∈ rows := by rw [← zr]; exact List.mem_map.mpr ⟨z, hz, rfl⟩
        have := (rok _ hm).2
        unfold oI at h1
        split at h1
        · exact .inl ⟨_, h1, by rw [List.length_map]; omega⟩
        · exact .inr ⟨_, h1⟩
      · rintro m y σ H' hm ⟨l7', rfl, kk, Dm, Tm, pm, hlm, itm⟩
        rw [List.getElem?_map] at hm
        cases ez : hs[m]? with
        | none => rw [ez] at hm; cases hm
        | some q =>
        rw [ez] at hm
        cases hm
        have qm : q ∈ hs := List.mem_of_getElem? ez
        have hml : m < hs.length := (List.getElem?_eq_some_iff.mp ez).1
        have hsl : hs.length ≤ 12 := by rw [hslen, List.length_map, plen]; omega
        obtain ⟨z, hz, _, nqd, nqh, nq8⟩ := it12.mem q qm
        walk_at "rd"
        rcases itm q qm with ⟨xs, hq, hxl⟩ | ⟨xs, hq⟩
        · refine ⟨.ref q, .ty "list", _, _, true, rfl, .ty _, .base (.lst hq), kit_same _, ?_⟩
          walk_at "rd"
          refine ⟨Or.inl ⟨rfl, _, SqL.of hq⟩, p_app hq (small1000 (by omega)) ?_⟩
          refine ⟨_, rfl, Kp.up kk nq8, DrA.upK D8 Dm kk nq8, Tabs.ex Ex.at (.inl ⟨_, hq⟩) Tm, Prb.ex Ex.at hq pm, by rw [upd_ne (Ne.symm nqh)]; exact hlm, fun y hy => ?_⟩
          by_cases e : y = q
          · subst e
            exact .inl ⟨_, upd_same, by rw [List.length_append, List.length_singleton]; omega⟩
          · rcases itm y hy with ⟨ws, hw, hwl⟩ | ⟨ws, hw⟩
            · exact .inl ⟨ws, by rw [upd_ne e]; exact hw, by omega⟩
            · exact .inr ⟨ws, by rw [upd_ne e]; exact hw⟩
        · refine ⟨.ref q, .ty "list", _, _, false, rfl, .ty _, .base (.tup hq), kit_tl, ?_⟩
          walk_at "rd"
          refine iteF ⟨_, rfl, kk, Dm, Tm, pm, hlm, fun y hy => ?_⟩
          rcases itm y hy with ⟨ws, hw, hwl⟩ | h
          · exact .inl ⟨ws, hw, by omega⟩
          · exact .inr h
      rintro σ H13 ⟨l7', rfl, k13, D13, T13, p13, hhl13, _⟩
      walk_at "rd"
      refine ⟨Or.inl ⟨rfl, _, SqL.of hhl13⟩, p_app hhl13 (by rw [List.length_map]; exact small1000 (by rw [hslen, List.length_map, plen]; omega)) ?_⟩
      have k14 : Kp d H8 (upd H13 hl (.lst (hs.map V.ref ++ [.int 7]))) := Kp.up k13 hhl
      have D14 : DrA K sc ns (upd H13 hl (.lst (hs.map V.ref ++ [.int 7]))) d := DrA.upK D8 D13 k13 hhl
      have T14 : Tabs [(PT, qLam)] (upd H13 hl (.lst (hs.map V.ref ++ [.int 7]))) := Tabs.ex Ex.at (.inl ⟨_, hhl13⟩) T13
      have p14 : Prb C (upd H13 hl (.lst (hs.map V.ref ++ [.int 7]))) x t cp cs := Prb.ex Ex.at hhl13 p13
      generalize upd H13 hl (.lst (hs.map V.ref ++ [.int 7])) = H14 at *
      have hda14 := k14.t (DrA.dr D8).choose_spec hda8
      have TA14 := TupsAt.kp k14 (DrA.dr D8).choose_spec TA8
      have hrl14 := k14.l hrl8 nrl
      have at14 := at8.kp k14
      walk_at "rd"
      refine ⟨x, t, da, cp, bs, cs, rfl, p14, hda14, TA14, shC, ?_⟩
      walk_at "rd"
      refine iteF ?_
      have hplen : ps.length ≤ 12 := by omega
      refine ⟨_, rfl, _, rfl, _, rfl, 2, rfl, rl, _, rfl, SqL.of hrl14, fun p2 hp2 => ⟨rl, p2, _, _, rfl, rfl, Same.new hp2 _ _ hrl14, upd_same, ?_, fun p3 hp3 => ?_⟩⟩
      · have := cutV_length (ps.map V.ref) none (some 2)
        rw [List.length_map] at this ⊢
        exact Nat.le_of_lt (small1000 (by omega))
      have s15 : Same H14 (upd (upd H14 p2 (.lst (cutV (ps.map V.ref) none (some 2)))) p3 (.lst (ps.map V.ref ++ cutV (ps.map V.ref) none (some 2)))) := Same.trans (Same.new hp2) (Same.new hp3)
      have h15 : upd (upd H14 p2 (.lst (cutV (ps.map V.ref) none (some 2)))) p3 (.lst (ps.map V.ref ++ cutV (ps.map V.ref) none (some 2))) p3 = some (.lst (ps.map V.ref ++ cutV (ps.map V.ref) none (some 2))) := upd_same
      have n15 : H14 p3 = none := none_up hp3
      have np3 := D14.nd n15
      generalize upd (upd H14 p2 (.lst (cutV (ps.map V.ref) none (some 2)))) p3 (.lst (ps.map V.ref ++ cutV (ps.map V.ref) none (some 2))) = H15 at *
      have D15 := DrA.same s15 D14
      have lcut : (ps.map V.ref ++ cutV (ps.map V.ref) none (some 2)).length ≤ 24 := by
        have := cutV_length (ps.map V.ref) none (some 2)
        rw [List.length_map] at this
        rw [List.length_append, List.length_map]
        omega
      refine ⟨d, p3, _, sc, ns, rfl, SqL.of h15, by omega, np3, D15, fun ol ys H16 pm E16 D16 hol16 hnew => ?_⟩
      have T16 := Tabs.ex E16 (.inl (DrA.dr D15)) (Tabs.same s15 T14)
      have k16 : Kp d H14 H16 := Kp.trans (Kp.same s15) (Kp.ex E16)
      have hda16 := k16.t (DrA.dr D14).choose_spec hda14
      have TA16 := TupsAt.kp k16 (DrA.dr D14).choose_spec TA14
      have hrl16 := k16.l hrl14 nrl
      have at16 := at14.kp k16
      have p16 := Prb.kp k16 (DrA.dr D14).choose_spec p14
      have ymem : ∀ y, y ∈ ys ↔ y ∈ ps.map V.ref := fun y => (pm.mem_iff).trans ⟨fun h => (List.mem_append.mp h).elim id mem_cut, fun h => List.mem_append_left _ h⟩
      obtain ⟨qs, rfl⟩ := refs_of ys fun y hy => by
        obtain ⟨q, _, e⟩ := List.mem_map.mp ((ymem y).mp hy)
        exact ⟨q, e.symm⟩
      have qmem : ∀ q, q ∈ qs ↔ q ∈ ps := fun q => by
        have h := ymem (.ref q)
        rw [List.mem_map, List.mem_map] at h
        exact ⟨fun hq => by
          obtain ⟨a, ha, e⟩ := h.mp ⟨q, hq, rfl⟩
          cases e
          exact ha, fun hq => by
          obtain ⟨a, ha, e⟩ := h.mpr ⟨q, hq, rfl⟩
          cases e
          exact ha⟩
      have qlen : qs.length ≤ 24 := by
        have := pm.length_eq
        rw [List.length_map] at this
        omega
      obtain ⟨rows2, at2, sub2⟩ := at16.pick qs fun q hq => (qmem q).mp hq
      have r2len : qs.length = rows2.length := Paired.length at2
      have rmem : ∀ c, (∃ row ∈ rows2.map List.reverse, IsCl row c) ↔ ∃ row ∈ rows, IsCl row c := fun c => by
        constructor
        · rintro ⟨row, hr, hi⟩
          obtain ⟨r2, hr2, rfl⟩ := List.mem_map.mp hr
          exact ⟨r2, sub2 r2 hr2, cl_rev.mp hi⟩
        · rintro ⟨row, hr, hi⟩
          obtain ⟨q, hq, h1⟩ := at16.mem2 row hr
          obtain ⟨row', hr', h2, _⟩ := at2.mem q ((qmem q).mpr hq)
          rw [h1] at h2
          have e := (List.map_inj_right (fun a b h => V.int.inj h)).mp (HO.lst.inj (Option.some.inj h2))
          exact ⟨_, List.mem_map.mpr ⟨row', hr', rfl⟩, cl_rev.mpr (e ▸ hi)⟩
      have ok3 : RowsOk t (rows2.map List.reverse) := ⟨by rw [List.length_map]; omega, fun row hr => by
        obtain ⟨r2, hr2, rfl⟩ := List.mem_map.mp hr
        have h := rok r2 (sub2 r2 hr2)
        exact ⟨⟨fun y hy => h.1.low y (List.mem_reverse.mp hy), fun y hy => h.1.top y (List.mem_reverse.mp hy), fun y hy hn => h.1.one y (List.mem_reverse.mp hy) (List.mem_reverse.mp hn)⟩, by rw [List.length_reverse]; omega⟩⟩
      refine ⟨ol, rfl, ⟨_, SqL.of hol16⟩, fun nl hnl => lc_list (K := K) (a := ol) (xs := qs.map V.ref) (fun j Hj => Same H16 Hj ∧ ∃ os : List Addr, Hj nl = some (.lst (os.map V.ref)) ∧ LstsAt d Hj os ((rows2.take j).map List.reverse) ∧ (∀ o ∈ os, o ≠ nl) ∧ os.length = j)
        ⟨Same.new hnl, [], upd_same, .nil, (fun o h => nomatch h), rfl⟩ (fun j Hj _ ⟨e, _⟩ => SqL.of (e _ _ hol16)) ?_ ?_⟩
      · rintro j y Hj hj ⟨ej, os, hnj, atj, noj, olj⟩
        rw [List.getElem?_map] at hj
        cases ez : qs[j]? with
        | none => rw [ez] at hj; cases hj
        | some q =>
        rw [ez] at hj
        cases hj
        obtain ⟨row, hrow, hq, nqd⟩ := at2.get ez
        have hjq : j < qs.length := (List.getElem?_eq_some_iff.mp ez).1
        refine ⟨rfl, yesT ?_⟩
        refine ⟨_, rfl, q, row.map V.int, rfl, SqL.of (ej _ _ hq), fun b hb => ⟨os.map V.ref, Same.new hb _ _ hnj, by rw [List.length_map]; exact small1000 (by omega), fun c o hc => ?_, os ++ [b], by rw [upd_same, List.map_append]; rfl, ?_, ?_, by rw [List.length_append, olj]; rfl⟩⟩
        · rw [upd_ne (ne_of_none hc hnl)]
          exact Same.new hb _ _ (ej c o hc)
        · have nbn : b ≠ nl := fun e => by rw [e, hnj] at hb; cases hb
          rw [List.take_add_one, hrow]
          simp only [Option.toList_some, List.map_append, List.map_cons, List.map_nil]
          refine LstsAt.up (Paired.snoc ⟨by rw [upd_same, List.map_reverse], (DrA.same ej D16).nd hb⟩ (LstsAt.kp (Kp.same (Same.new hb)) atj)) fun o ho => ?_
          rcases List.mem_append.mp ho with ho | ho
          · exact noj o ho
          · rw [List.mem_singleton.mp ho]; exact nbn
        · intro o ho
          rcases List.mem_append.mp ho with ho | ho
          · exact noj o ho
          · rw [List.mem_singleton.mp ho]
            exact fun e => by rw [e, hnj] at hb; cases hb
      rintro H17 ⟨s17, os, hnl17, at17, _, _⟩
      have tk : (rows2.take (qs.map V.ref).length).map List.reverse = rows2.map List.reverse := by rw [List.length_map, r2len, List.take_length]
      rw [tk] at at17
      show tMake _ _ _ _ _ _ _ _
      simp only [e_make]
      walk_at "rd"
      refine p_make (C := C) (t := t) (rows := rows2.map List.reverse) (xs := os.map V.ref) t1 t4 (.inl (SqL.of hnl17)) at17.lists.rows ok3 fun x2 cp2 cs2 H18 s18 q18 due2 => ?_
      have e2 : cs2 = cs := IsDue.ext due2 due rmem
      subst e2
      have p18 := Prb.same (Same.trans s17 s18) p16
      obtain ⟨dx, hx18⟩ := p18.ob
      obtain ⟨dy, hy18⟩ := q18.ob
      refine ⟨x, dx, _, rfl, hx18, .ins hy18, x, .ref x2, t, cp, _, rfl, p18, .inr ⟨x2, t, cp2, _, rfl, q18, _, rfl, ?_⟩⟩
      rw [decide_eq_true rfl, decide_eq_true rfl]
      refine ⟨true, rfl, iteF ?_⟩
      have s16 : Same H16 H18 := Same.trans s17 s18
      have dr := due_rows (ds := cs2) t4 ok due dl (List.Sublist.refl _)
      refine p_make (C := C) (t := t) (rows := cs2) (xs := bs.map V.ref) t1 t4 (.inr (SqT.of (s16 _ _ hda16))) (TupsAt.rows (TupsAt.same s16 TA16)) dr.1 fun x3 cp3 cs3 H19 s19 q19 due3 => ?_
      have e3 : cs3 = cs2 := IsDue.ext due3 dr.2 fun _ => Iff.rfl
      subst e3
      have p19 := Prb.same s19 p18
      obtain ⟨dx', hx19⟩ := p19.ob
      obtain ⟨dy', hy19⟩ := q19.ob
      refine ⟨x3, dy', _, rfl, hy19, .ins hx19, x3, .ref x, t, cp3, _, rfl, q19, .inr ⟨x, t, cp, _, rfl, p19, _, rfl, ?_⟩⟩
      rw [decide_eq_true rfl, decide_eq_true rfl]
      refine ⟨true, rfl, iteF ?_⟩
      have s169 : Same H16 H19 := Same.trans s16 s19
      refine ⟨_, rfl, _, rfl, _, rfl, t, rl, ps, rows, da, bs, cs3, rfl, t1, t4, SqL.of (s169 _ _ hrl16), (at16.kp (Kp.same s169)).lists, ok, s169 _ _ hda16, TupsAt.same s169 TA16, due, dl, fun ul us H20 s20 hul ulen unl => ⟨ul, rfl, ⟨_, SqL.of hul⟩, fun el hel => ?_⟩⟩
      have p20 := Prb.same s20 p19
      refine lc_list (K := K) (a := ul) (xs := us) (fun _ Hj => Hj = upd H20 el (.lst [])) rfl (fun j Hj _ e => by rw [e]; exact SqL.of (Same.new hel _ _ hul)) ?_ ?_
      · rintro j y Hj hj rfl
        have hy := unl y (List.mem_of_getElem? hj)
        have pj := Prb.same (Same.new (o := .lst []) hel) p20
        obtain ⟨dj, hj2⟩ := pj.ob
        refine ⟨rfl, ?_⟩
        refine ⟨_, rfl, _, rfl, x, dj, _, rfl, hj2, ?_⟩
        rcases Unl.same (Same.new (o := .lst []) hel) hy with ⟨Ty, ty, o⟩ | ⟨b, t2, cpb, csb, rfl, pb, ne⟩
        · exact ⟨.bi ty o.2, x, y, t, cp, _, rfl, pj, .inl ⟨Ty, ty, o, false, rfl, false, rfl, rfl⟩⟩
        · obtain ⟨db, hb⟩ := pb.ob
          refine ⟨.ins hb, x, .ref b, t, cp, _, rfl, pj, .inr ⟨b, t2, cpb, csb, rfl, pb, _, rfl, _, rfl, ?_⟩⟩
          have e : (decide (t = t2) && decide (cs3 = csb)) = false := by
            rw [Bool.and_eq_false_iff]
            by_cases h : t = t2
            · exact .inr (decide_eq_false fun z => ne ⟨h, z⟩)
            · exact .inl (decide_eq_false h)
          rw [e]
          exact rfl
      rintro Hj rfl
      refine ⟨Nat.zero_le _, fun fl hfl => ?_⟩
      refine p_neD (.lst (SqL.of (Same.new hfl _ _ upd_same)) .nil) (.lst (SqL.of upd_same) .nil) (by decide) (by decide) ?_
      refine ⟨_, rfl, iteF ?_⟩
      have sF : Same H16 (upd (upd H20 el (.lst [])) fl (.lst [])) := Same.trans s169 (Same.trans s20 (Same.trans (Same.new hel) (Same.new hfl)))
      exact ⟨_, _, _, _, _, _, _, _, _, _, rfl, DrA.same sF D16, Tabs.same sF T16⟩
    · rintro σ H2 ⟨l2, l3, l4, l5, l6, l7, l8, l9, l10, l11, rfl, _⟩
      walk_at "rd"
      exact q H2
end
end Toy

-- part: LX
namespace Toy
open PySem PySem.Spec PyProof.Rows L2
open LamX (TabB)
/-- what is tracked at a law's start: the empty table at T, the script at a if it isn't of the written part -/
def H0of (K : PySem.W.Frag) (T a : Addr) (vs : List Value) (ns : List Int) : Hp := fun b =>
  if b = T then some (.tbl #[]) else if b = a ∧ K.lookup a = none then some (.frz { cls := .type "list", data := .seq vs.toArray } (.lst (ns.map V.int))) else none
/-- a law whose one def makes a lambda, called where no object's text is under way -/
theorem callG {P : Program} {w : World} {K : PySem.W.Frag} {mg mb : Str → Option Value} {k : Nat} {fa a c T : Addr} {fd : FuncData} {x : Str} {sp : Sp} {s : Shared} {vs : List Value} {ns : List Int}
    (KX : K.In s.heap) (hns : s.heap.Ns mainGlobals mg) (hb : s.heap.Ns builtinsNs mb) (hbb : ∀ x : Str, x ≠ "__name__" → mb x = bootBuiltins x) (hlim : s.heap.NoLimit) (hg : s.gens = #[])
    (hT : s.heap.get? T = some { cls := .none, data := .fields #[] }) (nT : K.lookup T = none) (C : PySem.W.CodeHd s.heap c T)
    (hbm : ∃ (bm : Addr) (ob : Obj), mg "__builtins__" = some (.ref bm) ∧ bm ≠ builtinsNs ∧ s.heap.get? bm = some ob ∧ ob.cls = .type "module" ∧ ob.dict = some builtinsNs ∧ ob.data = .plain)
    (ha : s.heap.get? a = some { cls := .type "list", data := .seq vs.toArray }) (hi : IntsAre vs ns) (hl : ns.length ≤ sizeLine) (hr : Room k callerA)
    (F : ∀ base : Heap, K.In base → base.Ns mainGlobals mg → TabB base mg c T → FnG P w K mg base k fa fd [x] sp) (hbind : ∀ (s : Shared) (u : Value), BindsTo s fd ⟨[u], []⟩ [(x, u)])
    (hsp : ∀ H : Hp, H T = some (.tbl #[]) → SqL K H a (ns.map V.int) → sp [.ref a] H (fun v _ => v = .bl true) E0) :
    codeAny (model P w) callerA (.call (.ref fa) ⟨[.ref a], []⟩) (fun r s' => r = .ok (.ret (.bool true)) ∧ OldK s.heap s'.heap ∧ s'.os = s.os ∧ AllBare s'.gens) s := by
  have rv := vals_ints hi
  have naT : a ≠ T := fun e => by rw [e, hT] at ha; cases ha
  have hHT : H0of K T a vs ns T = some (.tbl #[]) := if_pos rfl
  -- its three ways
  have ways : ∀ b, (b = T ∧ H0of K T a vs ns b = some (.tbl #[])) ∨ (b = a ∧ K.lookup a = none ∧ H0of K T a vs ns b = some (.frz { cls := .type "list", data := .seq vs.toArray } (.lst (ns.map V.int)))) ∨ H0of K T a vs ns b = none := fun b => by
    by_cases e : b = T
    · exact .inl ⟨e, if_pos e⟩
    · by_cases e2 : b = a ∧ K.lookup a = none
      · exact .inr (.inl ⟨e2.1, e2.2, (if_neg e).trans (if_pos e2)⟩)
      · exact .inr (.inr ((if_neg e).trans (if_neg e2)))
  have hS : SqL K (H0of K T a vs ns) a (ns.map V.int) := by
    cases hk : K.lookup a with
    | none => exact .inl (.inr ⟨_, (if_neg naT).trans (if_pos ⟨rfl, hk⟩)⟩)
    | some o =>
      have e := KX a o hk
      rw [ha] at e
      cases e
      exact .inr ⟨_, vs.toArray, _, hk, rfl, rfl, rfl, by rw [List.size_toArray, hi.length]; exact hl, rv⟩
  have hok : HOk P w (H0of K T a vs ns) s.heap := fun b o e => by
    rcases ways b with ⟨rfl, z⟩ | ⟨rfl, _, z⟩ | z <;> rw [z] at e <;> cases e
    · exact hT
    · exact ⟨ha, by rw [List.length_map]; exact hl, vs, _, rv, ha⟩
  have base_of : ∀ {b : Addr} {o : Obj}, s.heap.get? b = some o → H0of K T a vs ns b = none → (hidT s.heap (H0of K T a vs ns)).get? b = some o := fun e n => hidT_get e n
  -- an object that is neither a list nor an empty table isn't tracked
  have out : ∀ {b : Addr} {o : Obj}, s.heap.get? b = some o → o.cls ≠ .type "list" → o.data ≠ .fields #[] → H0of K T a vs ns b = none := fun {b o} e h1 h2 => by
    rcases ways b with ⟨rfl, _⟩ | ⟨rfl, _, _⟩ | z
    · rw [hT] at e
      cases e
      exact absurd rfl h2
    · rw [ha] at e
      cases e
      exact absurd rfl h1
    · exact z
  have outD : ∀ {b : Addr} {o : Obj} {es : Array DictEntry} {n : Nat}, s.heap.get? b = some o → o.data = .dict es n → H0of K T a vs ns b = none := fun {b o es n} e d => by
    rcases ways b with ⟨rfl, _⟩ | ⟨rfl, _, _⟩ | z
    · rw [hT] at e
      cases e
      cases d
    · rw [ha] at e
      cases e
      cases d
    · exact z
  have nsK : ∀ {b : Addr} {m : Str → Option Value}, s.heap.Ns b m → (hidT s.heap (H0of K T a vs ns)).Ns b m := fun {b m} ⟨o, es, ep, e, d, r⟩ => ⟨o, es, ep, base_of e (outD e d), d, r⟩
  have hKb : K.In (hidT s.heap (H0of K T a vs ns)) := fun b o e => base_of (KX b o e) (by
    rcases ways b with ⟨rfl, _⟩ | ⟨rfl, z, _⟩ | z
    · rw [nT] at e; cases e
    · rw [z] at e; cases e
    · exact z)
  have hM : L2.Mod K mg (hidT s.heap (H0of K T a vs ns)) := ⟨hKb, nsK hns, ⟨mb, nsK hb, hbb⟩, let ⟨mc, h1, h2⟩ := hlim; ⟨mc, nsK h1, h2⟩⟩
  have TB : TabB (hidT s.heap (H0of K T a vs ns)) mg c T := by
    refine ⟨?_, ?_, fun z => ?_⟩
    · obtain ⟨o, us, file, tf, flags, tg, inF, text, tt, e1, r1, r2, r3, rest⟩ := C
      refine ⟨o, us, file, tf, flags, tg, inF, text, tt, base_of e1 ?_, r1, r2, r3, rest⟩
      rcases ways c with ⟨e, _⟩ | ⟨e, _, _⟩ | z
      · rw [e, hT] at e1
        cases e1
        cases r2
        simp at r3
      · rw [e, ha] at e1
        cases e1
        cases r2
      · exact z
    · obtain ⟨bm, ob, b1, b2, b3, b4, b5, b6⟩ := hbm
      refine ⟨bm, ob, b1, b2, fun q => ?_, fun q => ?_, base_of b3 (out b3 (by rw [b4]; decide) (by rw [b6]; intro z; cases z)), b4, b5, b6⟩
      · obtain ⟨o, es, ep, e, hd, _⟩ := hns
        rw [q, e] at b3
        cases b3
        rw [hd] at b6
        cases b6
      · rw [q, hT] at b3
        cases b3
        cases b6
    · obtain ⟨o, es, ep, e, hd, _⟩ := hns
      rw [z, hT] at e
      cases e
      cases hd
  have e0 : Env0 P w K mg (hidT s.heap (H0of K T a vs ns)) callerA [] s (H0of K T a vs ns) := ⟨rfl, hM, fun b o e => of_hidT e, Nat.le_of_eq (hidT_size _ _), trivial, fun b hb => absurd (show b ∈ ([] : List Addr) from hb) (by simp), hok, .of_eq hg⟩
  refine codeAny_mono ((F _ hKb (nsK hns) TB).run callerA [] s _ ⟨[.ref a], []⟩ [.ref a] [.ref a] _ _ rfl hr e0 (hbind s (.ref a)) (.cons rfl .nil) (hsp _ hHT hS)) fun r s' h => ?_
  cases r with
  | error e => exact False.elim h
  | ok fl =>
    cases fl with
    | next => exact False.elim h
    | brk => exact False.elim h
    | cont => exact False.elim h
    | ret u =>
      obtain ⟨v, H', os, bare, un, hok', r', q⟩ := h
      obtain rfl : v = .bl true := q
      obtain rfl : u = Value.bool true := r'
      obtain ⟨more, z⟩ := un.tbls T #[] hHT
      have grown := hok' T _ z
      have key : ∀ b o, b ≠ T → s.heap.get? b = some o → s'.heap.get? b = some o := fun b o nb e => by
        rcases ways b with ⟨z, _⟩ | ⟨rfl, _, z⟩ | z
        · exact absurd z nb
        · obtain ⟨e1, _⟩ := hok b _ z
          obtain ⟨e2, _⟩ := hok' b _ (un.frzs b _ _ z)
          rw [e] at e1
          cases e1
          exact e2
        · exact un.keep b o e z (by intro z; exact absurd (show b ∈ ([] : List Addr) from z) (by simp)) (by simp)
      refine ⟨rfl, ⟨fun b o e => ?_, fun b o e => ?_⟩, os, bare⟩
      · by_cases hbT : b = T
        · subst hbT
          rw [hT] at e
          cases e
          exact .inr (.inl ⟨(C.tab hT).isCodeTable, rfl, #[], more, rfl, grown⟩)
        · exact .inl (key b o hbT e)
      · by_cases hbT : b = T
        · subst hbT
          exact ⟨_, grown⟩
        · exact ⟨o, key b o hbT e⟩
theorem walkG {l : PySem.W.OpenLaw} {n k : Nat} {q : Program} {loose : List Str} {XP : (Str → Option Value) → Heap → Prop} {YP : World → Heap → Prop} {d : DefRec} {x : Str}
    (hn : l.most = some n) (hn2 : n ≤ sizeLine) (hdf : d.params.defaults = []) (hr : Room k callerA)
    (F : ∀ (w : World) (mg : Str → Option Value) (fa : Addr) (h : Heap), YP w h → h.Ns mainGlobals mg → mg d.name = some (.ref fa) →
      ∃ (K : PySem.W.Frag) (fd : FuncData) (sp : Sp) (c T : Addr), K.In h ∧ h.get? T = some { cls := .none, data := .fields #[] } ∧ K.lookup T = none ∧ PySem.W.CodeHd h c T ∧ (∀ (s : Shared) (u : Value), BindsTo s fd ⟨[u], []⟩ [(x, u)]) ∧
        (∀ (H : Hp) (a : Addr) (ns : List Int), ns.length ≤ n → H T = some (.tbl #[]) → SqL K H a (ns.map V.int) → sp [.ref a] H (fun v _ => v = .bl true) E0) ∧
        ∀ base : Heap, K.In base → base.Ns mainGlobals mg → TabB base mg c T → FnG l.prog w K mg base k fa fd [x] sp) :
    PySem.W.WalkO q loose XP YP l.row.toRowW d [] (fun f vs => PySem.call f vs) := by
  refine Att.attach_callB hn hdf fun w s₀ s₁ mg mb fa o pm cd doc a vs ns G Y ho hd hcd hmg hobj hints hlen hbits hg => ?_
  obtain ⟨K, fd, sp, c, T, KX, hT, nT, C, hb, hsp, hF⟩ := F w mg fa _ Y G.T.g hmg
  exact callG KX G.T.g G.T.b G.T.builtins G.T.nolimit hg hT nT C G.T.bmain hobj hints (Nat.le_trans hlen hn2) hr hF hb (fun H hH hS => hsp H a ns hlen hH hS)
end Toy

-- part: LE0
namespace Toy
open PySem PySem.Spec PyProof.Rows L2
/-! ### what the top has written, read by a hook -/
def dT (x : Str) (st : Stmt) : He.DefD := ⟨(x, none), x, x, defArgs st, defBody st, defScope st, [], []⟩
def aE : PySem.W.Frag → Addr := He.dflAt ("Problem", some "__init__") 0
def dIn : He.DefD := ⟨("Problem", some "__init__"), "__init__", "Problem.__init__", defArgs sInit, defBody sInit, defScope sInit, [.adr aE], []⟩
def dEq : He.DefD := ⟨("Problem", some "__eq__"), "__eq__", "Problem.__eq__", defArgs sEq, defBody sEq, defScope sEq, [], []⟩

def fnK : List He.DefD := [dT "is_number" (topS 6), dT "is_list" (topS 7), dT "is_letter" (topS 8), dT "clause_of" (topS 9), dT "_unlike_clauses" (topS 14), dT "_by_length" (topS 15), dT "_law_mixed" (topS 17), dT "_law_next" (topS 18), dT "_law_row" (topS 19), dT "_law_due" (topS 20), dT "_law_mixed_up" (topS 21), dT "_law_bears" (topS 22), dT "_law_unlike" (topS 23), dT "law" (topS 24), dIn, dEq]
def faK : List He.Fa := [.glo "is_number", .glo "is_list", .glo "is_letter", .glo "clause_of", .glo "_unlike_clauses", .glo "_by_length", .glo "_law_mixed", .glo "_law_next", .glo "_law_row", .glo "_law_due", .glo "_law_mixed_up", .glo "_law_bears", .glo "_law_unlike", .glo "law", .glo "Problem", .cls "Problem", .noat "Problem" "many", .noat "Problem" "clauses", .mkr "Problem", .meth "Problem" "__eq__", .int "MOST" 400, .int "MOST_CLAUSES" 400]
def faB : List He.Fa := [.free "max", .free "min", .free "len", .free "range", .free "type", .free "int", .free "list", .free "tuple", .free "dict", .free "bool", .free "abs", .free "sorted", .free "enumerate", .free "isinstance", .free "repr"]
def othB (K : PySem.W.Frag) (C : Addr) (T : String) : Bool := decide (PySem.W.kitOne K (.type T) (.ref C) = some false) && PySem.W.notFirst K C (.type T)
def insB (K : PySem.W.Frag) (C : Addr) : Bool := decide (PySem.W.findIn K (.ref C) "__class__" = some (some (.builtin "object.__class__"))) && (decide (PySem.W.specialIn K (.builtin "object.__class__") "__get__" = some (some (.builtin "getset_descriptor.__get__"))) &&
  (decide (PySem.W.takesIn K (.builtin "object.__class__") = some true) && (decide (PySem.W.mroIn K C (.type "object") = some true) && decide (PySem.W.kitOne K (.ref C) (.ref C) = some true))))
def tup0B (K : PySem.W.Frag) (a : Addr) : Bool := match K.lookup a with
  | some ⟨.type c, _, .seq its _, _⟩ => decide (c = "tuple") && decide (its.size = 0)
  | _ => false
def exK (K : PySem.W.Frag) : Bool := insB K (He.ga K "Problem") && (othB K (He.ga K "Problem") "NoneType" && (othB K (He.ga K "Problem") "int" && (othB K (He.ga K "Problem") "tuple" && (othB K (He.ga K "Problem") "str" && (othB K (He.ga K "Problem") "list" && tup0B K (aE K))))))
abbrev R : PySem.W.OpenRow := PySem.W.OpenLaw.row PySem.Challenge.rw_turnless_k01_problems_made
abbrev tfK : List He.Defn := [("_law_due", none)]
abbrev hk : PySem.W.Hook := He.hookX 6 (faK ++ faB) fnK [] tfK exK
def ob (s : PySem.W.SharedT) : He.AlX := He.obsX 6 (faK ++ faB) fnK [] tfK exK (HandSHeadRun.getT s)
theorem ob_eq (s : PySem.W.SharedT) : ob s = hk.obs s.abs := He.obsX_eq (HandSHeadRun.getT_eq s)

def loose : List Str := ["TurnError", "NoProblem", "NoClause", "TooMany", "is_number", "is_list", "is_letter", "clause_of", "MOST", "MOST_CLAUSES", "Problem", "_unlike_clauses", "_by_length", "_law_mixed", "_law_next", "_law_row", "_law_due", "_law_mixed_up", "_law_bears", "_law_unlike"]
theorem run (w : World) : HandSHeadRun.RunEq R (PySem.W.view R.prog [24]) hk ob 8000 loose w := by
  intro os
  kernel_rfl
end Toy

-- part: LF
namespace Toy
open PySem PySem.Spec PyProof.Rows L2
open LamX (TabB Tabs TabS)
section
variable {P : Program} {w : World} {K : PySem.W.Frag} {mg : Str → Option Value} {h : Heap}
theorem fun_of {x q : Str} {st : Stmt} {f : Addr} {fd : FuncData} (F : FunD K x q (defArgs st) (defBody st) (defScope st) [] [] f fd) : Fun K x q st f fd := by
  obtain ⟨oc, od, dV, kV, doc, pm, an, cdv, ct, osl, e, lk, hcd, hD, _⟩ := F.ex
  rcases hD with ⟨_, rfl⟩ | ⟨n, _⟩
  · exact ⟨⟨oc, od, kV, doc, pm, an, cdv, ct, osl, e, lk, hcd⟩, F.kp⟩
  · exact absurd rfl n
theorem funT_of {x : Str} {st : Stmt} {fd : FuncData} (F : FunD K x x (defArgs st) (defBody st) (defScope st) [] [] (He.fAd K (x, none)) fd) : FunT K x x st (He.codeOf K (x, none)) (He.fAd K (x, none)) fd := by
  obtain ⟨oc, od, dV, kV, doc, pm, an, cdv, ct, osl, e, lk, hcd, hD, _⟩ := F.ex
  obtain ⟨c, rfl⟩ := He.codeIn_ref hcd
  have ec : He.codeOf K (x, none) = c := He.codeOf_eq lk (by rw [e])
  rw [ec]
  rcases hD with ⟨_, rfl⟩ | ⟨n, _⟩
  · exact ⟨⟨oc, od, kV, doc, pm, an, ct, osl, e, lk, hcd⟩, F.kp⟩
  · exact absurd rfl n
theorem df {x : Str} {st : Stmt} {ps : List Str} {fd : FuncData} (X : K.In h) (G : h.Ns mainGlobals mg) (c : (He.Fa.glo x).ok K = true) (F : FunD K x x (defArgs st) (defBody st) (defScope st) [] [] (He.fAd K (x, none)) fd)
    (hb : ∀ (kV doc pm : Value) (an : Option Addr) (cdv ct : Value) (us : List Value), us.length = ps.length → bindArgs (PySem.W.fnOf x x (defArgs st) (defBody st) (defScope st) .none kV doc pm an cdv ct) ⟨us, []⟩ = pure (ps.zip us)) : Df K mg x st ps (He.fAd K (x, none)) fd :=
  ⟨fun_of F, He.glo_ok X G c, (fun_of F).binds hb⟩
theorem oth_of {C : Addr} {T : String} (e : othB K C T = true) : OtherTy K C T := ⟨of_decide_eq_true (He.ba e).1, (He.ba e).2⟩
theorem tup0_of {a : Addr} (e : tup0B K a = true) : SqT K (fun _ => none) a [] := by
  unfold tup0B at e
  split at e
  · rename_i c d its n sl lk
    obtain ⟨e1, e2⟩ := He.ba e
    have e1 : c = "tuple" := of_decide_eq_true e1
    have e2 : its.size = 0 := of_decide_eq_true e2
    subst e1
    obtain rfl : its = #[] := Array.eq_empty_of_size_eq_zero e2
    exact .inr ⟨_, #[], n, lk, rfl, rfl, Nat.zero_le _, .nil⟩
  · cases e
theorem facts {f : Addr} (X : K.In h) (G : h.Ns mainGlobals mg) (hfa : mg ("law" : Str) = some (.ref f)) (c : He.SaysX (faK ++ faB) fnK [] tfK exK w h K) :
    ∃ (fd : FuncData), (∀ (s : Shared) (u : Value), BindsTo s fd ⟨[u], []⟩ [("script", u)]) ∧
      ∀ base : Heap, K.In base → base.Ns mainGlobals mg → TabB base mg (He.cT K ("_law_due", none)).1 (He.cT K ("_law_due", none)).2 → FnG P w K mg base 8 f fd ["script"] (spLaw K [((He.cT K ("_law_due", none)).2, qLam)]) := by
  have d := c.t.d
  have x := c.more
  obtain ⟨x1, x⟩ := He.ba x
  obtain ⟨x2, x⟩ := He.ba x
  obtain ⟨x3, x⟩ := He.ba x
  obtain ⟨x4, x⟩ := He.ba x
  obtain ⟨x5, x⟩ := He.ba x
  obtain ⟨x6, x7⟩ := He.ba x
  obtain ⟨y1, y⟩ := He.ba x1
  obtain ⟨y2, y⟩ := He.ba y
  obtain ⟨y3, y⟩ := He.ba y
  obtain ⟨y4, y5⟩ := He.ba y
  have cl : Cls K (He.ga K "Problem") := He.cls_ok (d.fact 15 (f := .cls "Problem") rfl)
  have ic : C8.InsC K (He.ga K "Problem") := ⟨cl, of_decide_eq_true y1, of_decide_eq_true y2, of_decide_eq_true y3, of_decide_eq_true y4, of_decide_eq_true y5⟩
  have O : Oth K (He.ga K "Problem") := ⟨oth_of x2, oth_of x3, oth_of x4, oth_of x5, oth_of x6⟩
  obtain ⟨_, F0⟩ := d.def_ 0 (d := dT "is_number" (topS 6)) rfl
  obtain ⟨_, F1⟩ := d.def_ 1 (d := dT "is_list" (topS 7)) rfl
  obtain ⟨_, F2⟩ := d.def_ 2 (d := dT "is_letter" (topS 8)) rfl
  obtain ⟨_, F3⟩ := d.def_ 3 (d := dT "clause_of" (topS 9)) rfl
  obtain ⟨_, F4⟩ := d.def_ 4 (d := dT "_unlike_clauses" (topS 14)) rfl
  obtain ⟨_, F5⟩ := d.def_ 5 (d := dT "_by_length" (topS 15)) rfl
  obtain ⟨_, F6⟩ := d.def_ 6 (d := dT "_law_mixed" (topS 17)) rfl
  obtain ⟨_, F7⟩ := d.def_ 7 (d := dT "_law_next" (topS 18)) rfl
  obtain ⟨_, F8⟩ := d.def_ 8 (d := dT "_law_row" (topS 19)) rfl
  obtain ⟨_, F9⟩ := d.def_ 9 (d := dT "_law_due" (topS 20)) rfl
  obtain ⟨_, F10⟩ := d.def_ 10 (d := dT "_law_mixed_up" (topS 21)) rfl
  obtain ⟨_, F11⟩ := d.def_ 11 (d := dT "_law_bears" (topS 22)) rfl
  obtain ⟨_, F12⟩ := d.def_ 12 (d := dT "_law_unlike" (topS 23)) rfl
  obtain ⟨fd, F13⟩ := d.def_ 13 (d := dT "law" (topS 24)) rfl
  obtain ⟨_, F14⟩ := d.def_ 14 (d := dIn) rfl
  obtain ⟨_, F15⟩ := d.def_ 15 (d := dEq) rfl
  have N := df (x := "is_number") (st := topS 6) (ps := ["thing"]) X G (d.fact 0 (f := .glo "is_number") rfl) F0 fun _ _ _ _ _ _ us hl => match us, hl with | [_], _ => rfl
  have L := df (x := "is_list") (st := topS 7) (ps := ["thing"]) X G (d.fact 1 (f := .glo "is_list") rfl) F1 fun _ _ _ _ _ _ us hl => match us, hl with | [_], _ => rfl
  have T := df (x := "is_letter") (st := topS 8) (ps := ["thing", "many"]) X G (d.fact 2 (f := .glo "is_letter") rfl) F2 fun _ _ _ _ _ _ us hl => match us, hl with | [_, _], _ => rfl
  have Cl := df (x := "clause_of") (st := topS 9) (ps := ["thing", "many"]) X G (d.fact 3 (f := .glo "clause_of") rfl) F3 fun _ _ _ _ _ _ us hl => match us, hl with | [_, _], _ => rfl
  have U := df (x := "_unlike_clauses") (st := topS 14) (ps := ["things", "many"]) X G (d.fact 4 (f := .glo "_unlike_clauses") rfl) F4 fun _ _ _ _ _ _ us hl => match us, hl with | [_, _], _ => rfl
  have By := df (x := "_by_length") (st := topS 15) (ps := ["clause"]) X G (d.fact 5 (f := .glo "_by_length") rfl) F5 fun _ _ _ _ _ _ us hl => match us, hl with | [_], _ => rfl
  have M := df (x := "_law_mixed") (st := topS 17) (ps := ["cell", "k"]) X G (d.fact 6 (f := .glo "_law_mixed") rfl) F6 fun _ _ _ _ _ _ us hl => match us, hl with | [_, _], _ => rfl
  have Nx := df (x := "_law_next") (st := topS 18) (ps := ["draw", "size"]) X G (d.fact 7 (f := .glo "_law_next") rfl) F7 fun _ _ _ _ _ _ us hl => match us, hl with | [_, _], _ => rfl
  have Ro := df (x := "_law_row") (st := topS 19) (ps := ["draw", "truths"]) X G (d.fact 8 (f := .glo "_law_row") rfl) F8 fun _ _ _ _ _ _ us hl => match us, hl with | [_, _], _ => rfl
  have Du := df (x := "_law_due") (st := topS 20) (ps := ["rows"]) X G (d.fact 9 (f := .glo "_law_due") rfl) F9 fun _ _ _ _ _ _ us hl => match us, hl with | [_], _ => rfl
  have Mi := df (x := "_law_mixed_up") (st := topS 21) (ps := ["draw", "some"]) X G (d.fact 10 (f := .glo "_law_mixed_up") rfl) F10 fun _ _ _ _ _ _ us hl => match us, hl with | [_, _], _ => rfl
  have Be := df (x := "_law_bears") (st := topS 22) (ps := ["problem", "truths", "due"]) X G (d.fact 11 (f := .glo "_law_bears") rfl) F11 fun _ _ _ _ _ _ us hl => match us, hl with | [_, _, _], _ => rfl
  have Un := df (x := "_law_unlike") (st := topS 23) (ps := ["truths", "rows", "due"]) X G (d.fact 12 (f := .glo "_law_unlike") rfl) F12 fun _ _ _ _ _ _ us hl => match us, hl with | [_, _, _], _ => rfl
  have e := hfa.symm.trans (He.glo_ok X G (d.fact 13 (f := .glo "law") rfl))
  cases e
  have La : Fun K "law" "law" (topS 24) _ fd := fun_of F13
  have m1 := He.meth_ok (d.fact 19 (f := .meth "Problem" "__eq__") rfl)
  obtain ⟨ds3, v3, bI⟩ := F14.binds1 (ps := ["self", "many", "clauses"]) 3 1 (by simp [He.DefD.dvs, dIn]) rfl fun _ _ _ _ _ _ _ us its hu hi => match us, its, hu, hi with | [_, _, _], [_], _, _ => ⟨_, rfl, rfl⟩
  obtain ⟨ds2, v2, bD⟩ := F14.binds1 (ps := ["self", "many", "clauses"]) 2 0 (by simp [He.DefD.dvs, dIn]) rfl fun _ _ _ _ _ _ _ us its hu hi => match us, its, hu, hi with | [_, _], [_], _, _ => ⟨_, rfl, rfl⟩
  have e3 : ds3 = [] := by cases v3; rfl
  subst e3
  have e2 : ds2 = [.ref (aE K)] := by
    cases v2 with
    | cons h t =>
      cases t
      cases h
      rfl
  subst e2
  have bl : Bl mg := ⟨He.free_ok X G (d.fact 22 (f := .free "max") rfl), He.free_ok X G (d.fact 23 (f := .free "min") rfl), He.free_ok X G (d.fact 24 (f := .free "len") rfl), He.free_ok X G (d.fact 25 (f := .free "range") rfl), He.free_ok X G (d.fact 26 (f := .free "type") rfl), He.free_ok X G (d.fact 27 (f := .free "int") rfl),
    He.free_ok X G (d.fact 28 (f := .free "list") rfl), He.free_ok X G (d.fact 29 (f := .free "tuple") rfl), He.free_ok X G (d.fact 30 (f := .free "dict") rfl), He.free_ok X G (d.fact 31 (f := .free "bool") rfl), He.free_ok X G (d.fact 32 (f := .free "abs") rfl), He.free_ok X G (d.fact 33 (f := .free "sorted") rfl),
    He.free_ok X G (d.fact 34 (f := .free "enumerate") rfl), He.free_ok X G (d.fact 35 (f := .free "isinstance") rfl), He.free_ok X G (d.fact 36 (f := .free "repr") rfl)⟩
  have Pg : Prog K mg (He.ga K "Problem") _ _ _ _ _ _ _ _ _ _ _ _ _ _ _ _ (aE K) := ⟨N, L, T, Cl, U, By, F14, (fun_of F15 : Fun K "__eq__" "Problem.__eq__" sEq _ _), bI, bD, tup0_of x7, cl, He.noat_ok (d.fact 16 (f := .noat "Problem" "many") rfl), He.noat_ok (d.fact 17 (f := .noat "Problem" "clauses") rfl),
    He.glo_ok X G (d.fact 14 (f := .glo "Problem") rfl), He.mkr_ok (d.fact 18 (f := .mkr "Problem") rfl), He.int_ok X G (d.fact 20 (f := .int "MOST" 400) rfl), He.int_ok X G (d.fact 21 (f := .int "MOST_CLAUSES" 400) rfl)⟩
  refine ⟨fd, fun s v => FunD.bindsA (x := "law") (qual := "law") (params := defArgs (topS 24)) (body := defBody (topS 24)) (scope := defScope (topS 24)) (ps := ["script"]) F13 (fun _ _ _ _ _ _ us hl => match us, hl with | [_], _ => rfl) s [v] rfl, fun base _ _ TB => ?_⟩
  exact ok_law La bl Pg ic O TB M Nx Ro (funT_of (st := topS 20) F9) Du.g Du.b Mi Be Un m1.at_ m1.fn ((fun_of F15 : Fun K "__eq__" "Problem.__eq__" sEq _ _).binds fun _ _ _ _ _ _ us hl => match us, hl with | [_, _], _ => rfl)
end
end Toy

-- part: LZ
open PySem PySem.W PySem.Calls PyProof.Rows
theorem PySem.Challenge.cw_turnless_k01_problems_made_holds : PySem.Challenge.rw_turnless_k01_problems_made.Holds := by
  w_on; o_law
  refine HandSHeadRun.head_any (r := Toy.R) (q := view Toy.R.prog [24]) (H := Toy.hk) (ob := Toy.ob) (M := 8000) (loose := Toy.loose) (d := HandSHeadRun.topDef Toy.R.prog 24) (kwd := []) Toy.ob_eq
    (by kernel_rfl) (fun s => by kernel_rfl) Toy.run (by kernel_rfl) (by kernel_rfl) (by kernel_rfl) (by rfl) (by first | assumption | decide +kernel) (by decide +kernel) ⟨rfl, rfl, rfl, rfl, rfl, by decide +kernel⟩ ?hw ?hc
  case hw => w_witness2
  case hc =>
    refine Toy.walkG (l := PySem.Challenge.rw_turnless_k01_problems_made) (n := 63) (k := 8) (x := "script") rfl (by decide) (by kernel_rfl) ⟨rfl, by decide, by decide⟩ ?F
    intro w mg fa h Y G hmg0
    obtain ⟨K, KX, c⟩ := Y
    have hmg : mg ("law" : PySem.Str) = some (.ref fa) := by
      have e : (HandSHeadRun.topDef Toy.R.prog 24).name = ("law" : PySem.Str) := by kernel_rfl
      rw [← e]
      exact hmg0
    obtain ⟨fd, hb, hF⟩ := Toy.facts (P := (PySem.Challenge.rw_turnless_k01_problems_made).prog) (w := w) KX G hmg c
    have hm : (("_law_due", none) : He.Defn) ∈ Toy.tfK := List.mem_singleton.mpr rfl
    refine ⟨K, fd, _, _, _, KX, c.empty _ hm, c.out _ hm, codeHd_of_K KX (c.hd _ hm), hb, fun H a ns hl hT hS => ⟨a, ns, rfl, hS, hl, fun p hp => ?_, fun _ => rfl⟩, hF⟩
    rw [List.mem_singleton.mp hp]
    exact LamX.TabS.nil hT

