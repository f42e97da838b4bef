import PyProof.Rows.All
import Wide.All
import OpenK.AllK
import Wide.FinOn
import KE.RegKIsAll
import PyProof.EqAt
import PyProof.EqKinds
import PyProof.TupleCall
import KE.BitLaws
import PyProof.GenQ
import PyProof.GenArm
import PyProof.TupleOfGen
import KE.KLam
import KE.KMinKey
import KE.KRevSl
import KE.KStar
import KE.KSortTupG
import PyProof.SumWalk
import KE.KRevIter
import PyProof.CollectIter
import PyProof.TupleOfSeq
import PyProof.CallType
import PyProof.Rows.RuleDivmod
import PyProof.ListMulRoad
import KE.KNest
import PySem.Challenge.RW_tastehouse_k06_first_refusals
set_option Elab.async false
set_option linter.all false
set_option maxRecDepth 100000
set_option maxHeartbeats 4000000
section
def L2.fD:List PySem.Str := "is_unfit" :: "is_cooked_of_any" :: "are_heights" :: "all_straight" :: "straight_of" :: "tasting_needs" :: "recipes_from" :: "others_from" :: "is_word" :: "is_rising" :: "are_tables" :: "are_needs" :: "are_words" :: "are_recipes" :: "are_tastings" :: "is_told_list" :: "is_same" :: "pots_of_turn" :: "pot_of" :: "are_mishaps" :: "order_of" :: "is_order_of" :: "is_turn_of" :: "choices_of" :: "many_ahead" :: "house_read" :: "is_pick_of" :: "is_right_floor" :: "is_table" :: "list_text" :: "number_read" :: "numbers_read" :: "parting" :: "spaced" :: "spot_text" :: "step_by" :: "tasting_read" :: "with_blanks_ahead" :: []
def L2.cb:List PySem.Str := "_law_found" :: "_law_turn_so" :: "_law_list_so" :: "_law_all_no" :: "_law_no_words" :: "_law_one_deed" :: "_law_stopped_at" :: "_law_right" :: "_law_refused" :: "_law_tells_so" :: "_law_deed" :: "_law_some" :: "_law_part" :: "_law_asked" :: "_law_all_so" :: "_law_wrong_words" :: "_law_wrong_recipes" :: []
end
section
namespace PySem
open Sem (wp)
section
mutual
def nk:PyData->Bool
 | .int _=>true
 | .str _=>true
 | .tuple ds=>kd ds
 | _=>false
def kd:List PyData->Bool
 | []=>true
 | d :: ds=>nk d && kd ds
end
mutual
def xu(w:World):PyData->Int
 | .int i=>hashInt i
 | .str x=>hashStr w x
 | .tuple ds=>reduceHash (Builtin.Tuple.tupleHashOf (jk w ds))
 | _=>0
def jk(w:World):List PyData->List Int
 | []=>[]
 | d :: ds=>xu w d :: jk w ds
end
mutual
def CZ:PyData->Nat
 | .tuple ds=>iZ ds + 1
 | _=>1
def iZ:List PyData->Nat
 | []=>0
 | d :: ds=>CZ d + iZ ds
end
theorem xg:∀ {ds:List PyData},kd ds=true->∀ d ∈ ds,nk d=true
 | [],_,d,h=>absurd h (by simp)
 | e :: ds,h,d,hd=>by
  have h':nk e=true /\ kd ds=true:=by simpa [kd] using h
  rcases List.mem_cons.mp hd with rfl | hd
  . exact h'.1
  . exact xg h'.2 d hd
theorem pX:∀ {ds:List PyData} {d:PyData},d ∈ ds->d.depth <= PyData.depthAll ds
 | [],d,h=>absurd h (by simp)
 | e :: ds,d,hd=>by
  show d.depth <= max e.depth (PyData.depthAll ds)
  rcases List.mem_cons.mp hd with rfl | hd
  . exact Nat.le_max_left _ _
  . exact Nat.le_trans (pX hd) (Nat.le_max_right _ _)
theorem tR(w:World):∀ (xs ys:List PyData),jk w (xs ++ ys)=jk w xs ++ jk w ys
 | [],_=>rfl
 | x :: xs,ys=>by
  show xu w x :: jk w (xs ++ ys)=_
  rw [tR w xs ys];rfl
theorem tU:∀ (xs ys:List PyData),iZ (xs ++ ys)=iZ xs + iZ ys
 | [],ys=>by show iZ ys=0 + iZ ys;omega
 | x :: xs,ys=>by
  show CZ x + iZ (xs ++ ys)=CZ x + iZ xs + iZ ys
  rw [tU xs ys];omega
section
variable {prog:Program} {w:World}
theorem Kw : ∀ (n : Nat) (d : PyData), d.depth <= n -> nk d = true -> ∀ {A : Around} {E : Value -> Shared -> Prop} {s : Shared} {v : Value} {as : List Addr} {Q : Int -> Shared -> Prop}, Reads s.heap v d as -> A.units + n < cLine -> Q (xu w d) { s with toks := s.toks + CZ d } ->
    wpAny (model prog w) A (pyHash v) Q E s:=by
 intro n
 induction n with
 | zero =>
  intro d hd hk A E s v as Q r hu h
  cases d with
  | int i=>cases r;exact wpAny_pyHash_int h
  | str x=>cases r;exact wpAny_pyHash_str h
  | tuple ds=>exact absurd hd (by show ¬ PyData.depthAll ds + 1 <= 0;omega)
  | _=>cases hk
 | succ n ih =>
  intro d hd hk A E s v as Q r hu h
  cases d with
  | int i=>cases r;exact wpAny_pyHash_int h
  | str x=>cases r;exact wpAny_pyHash_str h
  | tuple ds =>
   have hd':PyData.depthAll ds <= n:=Nat.le_of_succ_le_succ hd
   have hk':kd ds=true:=hk
   cases r with
   | @tuple a o items nn _ _ ho hc hdd hi =>
    have hT:s.TypeIs (.ref a) "tuple" := ⟨o,ho,hc⟩
    have hu0:A.units < cLine:=by omega
    unfold pyHash
    first | unfold pyHashByItsType | skip
    first | refine wpAny_bind (wpAny_cRoomFor_or (.inr hu0) ?_) | skip
    refine wpAny_bind (wpAny_specialOf hT F.slot_tuple_hash.lookup ?_)
    show wpAny _ _ (if (some (Value.builtin "tuple.__hash__") == some Value.none)=true then _ else _) Q E s
    rw [if_neg (by rw [beq_builtin_none];exact Bool.false_ne_true)]
    refine wpAny_bind (wpAny_specialOf hT F.slot_tuple_hash.lookup ?_)
    show wpAny _ _ (callSpecialIfBoundUnlessNone? (.ref a) "__hash__" _ >>= _) Q E s
    refine wpAny_bind (wpAny_callSpecialIfBoundUnlessNone?_slot hT F.slot_tuple_hash (wpAny_call_entry F.slot_tuple_hash hT F.entry_tuple_hash ?_ (F.args_tuple_hash_1 _)))
    show wpAny _ _ (Builtin.Tuple.tupleItemsOf (.ref a) >>= _) _ _ s
    refine wpAny_bind (wpAny_tupleItemsOf ho hdd ?_)
    refine wpAny_bind ?_
    rw [<- Array.forIn_toList]
    refine wpAny_forIn_list _
     (fun rest (b:Array Int) s'=>∃ done left bs,ds=done ++ left /\ ReadsAll s.heap rest left bs /\ b.toList=jk w done /\ s'={ s with toks:=s.toks + iZ done })
     _ ?_ ?_ _ _ ⟨[],ds,_,rfl,hi,rfl,rfl⟩
    . rintro x rest b s' ⟨done,left,bs,e0,hl,hb,rfl⟩
      cases hl with
      | @cons _ _ k ks' _ _ h1 hl' =>
       have hm:k ∈ ds:=by rw [e0];simp
       refine wpAny_bind (ih k (Nat.le_trans (pX hm) hd') (xg hk' k hm) (s:={ s with toks:=s.toks + iZ done }) h1 (by simp;omega) ?_)
       have e1:iZ (done ++ [k])=iZ done + CZ k:=by rw [tU];rfl
       have e2:jk w (done ++ [k])=jk w done ++ [xu w k]:=tR w done [k]
       first
        | exact wpAny_pure ⟨done ++ [k],ks',_,by rw [e0];simp,hl',by rw [e2];simp [hb],by rw [e1];simp [Nat.add_assoc]⟩
        | exact wpAny_bind (wpAny_pure (wpAny_pure ⟨done ++ [k],ks',_,by rw [e0];simp,hl',by rw [e2];simp [hb],by rw [e1];simp [Nat.add_assoc]⟩))
    . rintro b s' ⟨done,left,bs,e0,hl,hb,rfl⟩
      cases hl
      rw [List.append_nil] at e0
      subst e0
      show wpAny _ _ (retInt (Builtin.Tuple.tupleHashOf b.toList)) _ _ _
      rw [hb]
      refine wpAny_ret_mkInt ?_
      show wpAny _ _ (if (decide (-(2:Int) ^ 63 <= Builtin.Tuple.tupleHashOf (jk w ds)) && decide (Builtin.Tuple.tupleHashOf (jk w ds) < 2 ^ 63))=true then _ else _) Q E _
      have h:Q (reduceHash (Builtin.Tuple.tupleHashOf (jk w ds))) { s with toks:=s.toks + (iZ ds + 1) }:=h
      unfold reduceHash at h
      by_cases hr:(decide (-(2:Int) ^ 63 <= Builtin.Tuple.tupleHashOf (jk w ds)) && decide (Builtin.Tuple.tupleHashOf (jk w ds) < 2 ^ 63))=true
      . rw [if_pos hr]
        rw [if_pos hr] at h
        exact wpAny_pure (by simpa [Nat.add_assoc] using h)
      . rw [if_neg hr]
        rw [if_neg hr] at h
        exact wpAny_bind (wpAny_rule (wpAny_pure (by simpa [Nat.add_assoc] using h)))
  | _=>cases hk
theorem MP : ∀ (n : Nat) (d : PyData), d.depth <= n -> nk d = true -> ∀ {A : Around} {E : Value -> Shared -> Prop} {s : Shared} {v : Value} {as : List Addr} {Q : Bool -> Shared -> Prop}, Reads s.heap v d as -> Q true s ->
    wpAny (model prog w) A (eqIsQuiet n v) Q E s:=by
 intro n
 induction n with
 | zero =>
  intro d hd hk A E s v as Q r h
  cases d with
  | int i=>cases r;rw [eqIsQuiet_byValue _ rfl];exact wpAny_pure h
  | str x=>cases r;rw [eqIsQuiet_byValue _ rfl];exact wpAny_pure h
  | tuple ds=>exact absurd hd (by show ¬ PyData.depthAll ds + 1 <= 0;omega)
  | _=>cases hk
 | succ n ih =>
  intro d hd hk A E s v as Q r h
  cases d with
  | int i=>cases r;rw [eqIsQuiet_byValue _ rfl];exact wpAny_pure h
  | str x=>cases r;rw [eqIsQuiet_byValue _ rfl];exact wpAny_pure h
  | tuple ds =>
   have hd':PyData.depthAll ds <= n:=Nat.le_of_succ_le_succ hd
   have hk':kd ds=true:=hk
   cases r with
   | @tuple a o items nn _ _ ho hc hdd hi =>
    have hT:s.TypeIs (.ref a) "tuple" := ⟨o,ho,hc⟩
    unfold eqIsQuiet
    refine wpAny_bind (wpAny_specialOf hT F.slot_tuple_eq.lookup ?_)
    show wpAny _ _ (isInstance (.ref a) (.type "tuple") >>= _) _ _ s
    refine wpAny_bind (wpAny_isInstance hT isSubtype_tuple_tuple ?_)
    simp only [Bool.not_true,Bool.false_eq_true,if_false]
    refine wpAny_bind (wpAny_seqItems ho hdd ?_)
    refine wpAny_bind ?_
    show wpAny _ _ (forIn items _ _) _ _ s
    rw [<- Array.forIn_toList]
    refine wpAny_forIn_list _ (fun rest r s'=>r.1=none /\ s'=s /\ ∃ left bs,(∀ d ∈ left,d ∈ ds) /\ ReadsAll s.heap rest left bs) _ ?_ ?_ _ _ ⟨rfl,rfl,ds,_,fun _ h=>h,hi⟩
    . rintro v rest r s' ⟨hr,rfl,left,bs,hsub,hl⟩
      cases hl with
      | @cons _ _ k ks' _ _ h1 hl' =>
       have hm:=hsub k List.mem_cons_self
       refine wpAny_bind (ih k (Nat.le_trans (pX hm) hd') (xg hk' k hm) h1 ?_)
       simp only [Bool.not_true,Bool.false_eq_true,if_false]
       exact wpAny_pure ⟨rfl,rfl,ks',_,fun d hd=>hsub d (List.mem_cons_of_mem _ hd),hl'⟩
    . rintro ⟨r1,r2⟩ s' ⟨hr,rfl,_⟩
      simp only at hr
      subst hr
      exact wpAny_pure h
  | _=>cases hk
end
mutual
theorem MQ:∀ a b:PyData,nk a=true->nk b=true->(PyData.eqv a b=true ↔ a=b)
 | .int i,b,_,hb=>by
  cases b with
  | int j=>simp [PyData.eqv]
  | str y=>simp [PyData.eqv]
  | tuple ys=>simp [PyData.eqv]
  | _=>cases hb
 | .str x,b,_,hb=>by
  cases b with
  | int j=>simp [PyData.eqv]
  | str y=>simp [PyData.eqv]
  | tuple ys=>simp [PyData.eqv]
  | _=>cases hb
 | .tuple xs,b,ha,hb=>by
  cases b with
  | int j=>simp [PyData.eqv]
  | str y=>simp [PyData.eqv]
  | tuple ys =>
   have:=C1 xs ys ha hb
   simp [PyData.eqv,this]
  | _=>cases hb
 | .none,_,h,_=>by cases h
 | .bool _,_,h,_=>by cases h
 | .list _,_,h,_=>by cases h
 | .dict _,_,h,_=>by cases h
theorem C1:∀ xs ys:List PyData,kd xs=true->kd ys=true->(PyData.eqvAll xs ys=true ↔ xs=ys)
 | [],ys,_,_=>by cases ys <;> simp [PyData.eqvAll]
 | x :: xs,ys,ha,hb=>by
  cases ys with
  | nil=>simp [PyData.eqvAll]
  | cons y ys =>
   have h':nk x=true /\ kd xs=true:=by simpa [kd] using ha
   have h2:nk y=true /\ kd ys=true:=by simpa [kd] using hb
   simp [PyData.eqvAll,MQ x y h'.1 h2.1,C1 xs ys h'.2 h2.2]
end
end
end PySem
end
section
namespace PySem
open PyProof.Rows
section
structure xp (d:PyData):Prop where
 nk:nk d=true
 lay:d.canLay0=true
 dep:d.depth <= 6
 tup:∃ ds,d = .tuple ds
theorem xp.ref{h:Heap}{v:Value}{d:PyData}{as:List Addr}(k:xp d)(r:Reads h v d as):∃ a,v = .ref a:=by
 obtain ⟨ds,rfl⟩:=k.tup
 cases r
 exact ⟨_,rfl⟩
mutual
theorem Reads.MR{h h':Heap}{d:Addr}{o:Obj}{es:Array DictEntry}{ep:Nat}(ho:h.get? d=some o)(hd:o.data = .dict es ep)(hs:Heap.SameBut d h h'):∀ {v:Value} {x:PyData} {as:List Addr},nk x=true->Reads h v x as->Reads h' v x as
 | _,.int _,_,_,.int i t=>.int i t
 | _,.str _,_,_,.str x t=>.str x t
 | _,.tuple ds,_,n,.tuple (a:=a) h1 h2 h3 h4=>by
  have hn:kd ds=true:=n
  have:a ≠ d:=fun z=>by
   subst z
   rw [ho] at h1
   cases h1
   rw [hd] at h3
   cases h3
  exact .tuple (by rw [hs.2 a this];exact h1) h2 h3 (ReadsAll.MR ho hd hs hn h4)
theorem ReadsAll.MR{h h':Heap}{d:Addr}{o:Obj}{es:Array DictEntry}{ep:Nat}(ho:h.get? d=some o)(hd:o.data = .dict es ep)(hs:Heap.SameBut d h h'):∀ {vs:List Value} {xs:List PyData} {as:List Addr},kd xs=true->ReadsAll h vs xs as->ReadsAll h' vs xs as
 | _,_,_,_,.nil=>.nil
 | _,x :: xs,_,n,.cons h1 h2=>by
  have hn:nk x=true /\ kd xs=true:=by
   have n:(nk x && kd xs)=true:=n
   rw [Bool.and_eq_true] at n
   exact n
  exact .cons (Reads.MR ho hd hs hn.1 h1) (ReadsAll.MR ho hd hs hn.2 h2)
end
noncomputable instance Ua:DecidableEq PyData:=fun a b=>Classical.propDecidable (a=b)
noncomputable def PQ (prog:Program) (w:World):HeapKind prog w PyData where
 is:=fun h k a=>xp k /\ ∃ as,Reads h (.ref a) k as
 hash:=xu w
 draws:=CZ
 room:=fun A=>A.units + 64 < cLine
 inj:=fun {h a x y} hx hy=>by
  obtain ⟨k1,as,r1⟩:=hx
  obtain ⟨_,bs,r2⟩:=hy
  exact (Reads.unique r1 y bs r2).1
 keeps:=fun x ho hd hs=>by
  obtain ⟨k,as,r⟩:=x
  exact ⟨k,as,Reads.MR ho hd hs k.nk r⟩
 pyHash:=fun hu hk h=>by
  obtain ⟨k,as,r⟩:=hk
  exact Kw 6 _ k.dep k.nk r (by omega) h
 eqBool:=fun {A E s x y a b Q} hu hx hy h=>by
  obtain ⟨k1,as,r1⟩:=hx
  obtain ⟨k2,bs,r2⟩:=hy
  refine SeqAt.eqAt_reads x y A s (.ref a) (.ref b) as bs r1 r2 k1.lay k2.lay (by have:=k1.dep;have:=Nat.min_le_left x.depth y.depth;omega) prog w E _ ?_
  have e:PyData.eqv x y=decide (x=y):=by
   rw [Bool.eq_iff_iff,MQ x y k1.nk k2.nk,decide_eq_true_iff]
  rw [e];exact h
 quiet:=fun hk h=>by
  obtain ⟨k,as,r⟩:=hk
  exact MP 8 _ (Nat.le_trans k.dep (by decide)) k.nk r h
end
end PySem
end
section
namespace L2
open PySem PySem.Spec PyProof.Rows
abbrev Key:=Sum Int Str
def Cz:Key->Value->Bool
 | .inl k,v=>Value.isInt k v
 | .inr x,v=>Value.isStrOf x v
def Tp(w:World):Key->Int
 | .inl k=>hashInt k
 | .inr x=>hashStr w x
theorem el:∀ {k:Key} {v:Value},Cz k v=true->(∃ i t,k=Sum.inl i /\ v=Value.int i t) \/ (∃ x t,k=Sum.inr x /\ v=Value.str x t)
 | .inl i,v,h=>by
  obtain ⟨t,e⟩:=Value.isInt_shape (k:=i) (v:=v) h
  exact .inl ⟨i,t,rfl,e⟩
 | .inr x,v,h=>by
  obtain ⟨t,e⟩:=Value.isStrOf_shape (x:=x) (v:=v) h
  exact .inr ⟨x,t,rfl,e⟩
theorem JM(i:Int)(t:Tok):Cz (.inl i) (.int i t)=true:=by simp [Cz,Value.isInt]
theorem JN(x:Str)(t:Tok):Cz (.inr x) (.str x t)=true:=by simp [Cz,Value.isStrOf]
theorem PK(a b:Int):decide ((Sum.inl a:Key)=Sum.inl b)=(a == b):=by
 by_cases e:a=b
 . subst e;simp
 . have h:¬ (Sum.inl a:Key)=Sum.inl b:=fun q=>e (Sum.inl.inj q)
   rw [decide_eq_false h]
   exact (beq_eq_false_iff_ne.mpr e).symm
theorem PL(a b:Str):decide ((Sum.inr a:Key)=Sum.inr b)=decide (a=b):=by
 by_cases e:a=b
 . subst e;simp
 . have h:¬ (Sum.inr a:Key)=Sum.inr b:=fun q=>e (Sum.inr.inj q)
   rw [decide_eq_false h,decide_eq_false e]
theorem PM(a:Int)(b:Str):decide ((Sum.inl a:Key)=Sum.inr b)=false:=decide_eq_false (fun q=>nomatch q)
theorem PN(a:Str)(b:Int):decide ((Sum.inr a:Key)=Sum.inl b)=false:=decide_eq_false (fun q=>nomatch q)
def jh(prog:Program)(w:World):PySem.KeyKind prog w Key where
 is:=Cz
 hash:=Tp w
 inj:=fun v a b ha hb=>by
  rcases el ha with ⟨i,t,rfl,rfl⟩ | ⟨x,t,rfl,rfl⟩
  . rcases el hb with ⟨j,u,rfl,e⟩ | ⟨y,u,rfl,e⟩
    . injection e with e1 _;rw [e1]
    . exact nomatch e
  . rcases el hb with ⟨j,u,rfl,e⟩ | ⟨y,u,rfl,e⟩
    . exact nomatch e
    . injection e with e1 _;rw [e1]
 byValue:=fun k v h=>by
  rcases el h with ⟨i,t,rfl,rfl⟩ | ⟨x,t,rfl,rfl⟩ <;> rfl
 pyHash:=fun hv h=>by
  rcases el hv with ⟨i,t,rfl,rfl⟩ | ⟨x,t,rfl,rfl⟩
  . exact wpAny_pyHash_int h
  . exact wpAny_pyHash_str h
 eqBool:=fun hu hv h=>by
  rcases el hu with ⟨i,t,rfl,rfl⟩ | ⟨x,t,rfl,rfl⟩
  . rcases el hv with ⟨j,u,rfl,rfl⟩ | ⟨y,u,rfl,rfl⟩
    . rw [PK] at h;exact wpAny_eqBool_int h
    . rw [PM] at h;exact SeqAt.EqAt.int_str i t y u _ _ _ _ h
  . rcases el hv with ⟨j,u,rfl,rfl⟩ | ⟨y,u,rfl,rfl⟩
    . rw [PN] at h;exact SeqAt.EqAt.str_int x t j u _ _ _ _ h
    . rw [PL] at h;exact wpAny_eqBool_str h
 «strs» := fun k x t v h=>by
  rcases el h with ⟨i,u,rfl,e⟩ | ⟨y,u,rfl,e⟩
  . exact nomatch e
  . injection e with e1 _
    subst e1
    cases v <;> rfl
theorem FJ(prog:Program)(w:World)(i:Int)(t:Tok):(jh prog w).is (.inl i) (.int i t)=true:=JM i t
theorem FK(prog:Program)(w:World)(x:Str)(t:Tok):(jh prog w).is (.inr x) (.str x t)=true:=JN x t
end L2
namespace L2
open PySem PySem.Spec PyProof.Rows
inductive V where
 | non | bl (b:Bool) | int (i:Int) | str (x:Str) | byt (b:Array UInt8) | flt (b:UInt64) | ref (a:Addr) | ty (n:String)
 deriving DecidableEq
def RelV:V->Value->Prop
 | .non,u=>u=Value.none
 | .bl b,u=>u=Value.bool b
 | .int i,u=>∃ t,u=Value.int i t
 | .str x,u=>∃ t,u=Value.str x t
 | .byt b,u=>∃ t,u=Value.bytes b t
 | .flt b,u=>∃ t,u=Value.float b t
 | .ref a,u=>u=Value.ref a
 | .ty n,u=>u=Value.type n
abbrev Vals:List V->List Value->Prop:=Paired RelV
theorem Vals.length{xs:List V}{us:List Value}(r:Vals xs us):xs.length=us.length:=Paired.length r
theorem Vals.get:∀ {xs:List V} {us:List Value} {i:Nat} {x:V},Vals xs us->xs[i]? = some x->∃ u,us[i]? = some u /\ RelV x u
 | _,_,_,_,.nil,e=>by simp at e
 | _,_,0,_,.cons r _,e=>by simp at e;subst e;exact ⟨_,rfl,r⟩
 | _,_,i + 1,x,.cons _ t,e=>by
  obtain ⟨u,h1,h2⟩:=Vals.get (i:=i) (x:=x) t (by simpa using e)
  exact ⟨u,by simpa using h1,h2⟩
theorem Vals.set{x:V}{u:Value}(r:RelV x u):∀ {xs:List V} {us:List Value} (i:Nat),Vals xs us->Vals (xs.set i x) (us.set i u)
 | _,_,_,.nil=>.nil
 | _,_,0,.cons _ t=>.cons r t
 | _,_,i + 1,.cons q t=>.cons q (Vals.set r i t)
theorem Vals.append:∀ {xs ys:List V} {us ws:List Value},Vals xs us->Vals ys ws->Vals (xs ++ ys) (us ++ ws)
 | _,_,_,_,.nil,s=>s
 | _,_,_,_,.cons r t,s=>.cons r (Vals.append t s)
theorem Vals.take:∀ {xs:List V} {us:List Value} (n:Nat),Vals xs us->Vals (xs.take n) (us.take n)
 | _,_,0,_=>.nil
 | _,_,_ + 1,.nil=>.nil
 | _,_,n + 1,.cons r t=>.cons r (Vals.take n t)
theorem Vals.drop:∀ {xs:List V} {us:List Value} (n:Nat),Vals xs us->Vals (xs.drop n) (us.drop n)
 | _,_,0,r=>r
 | _,_,_ + 1,.nil=>.nil
 | _,_,n + 1,.cons _ t=>Vals.drop n t
def FL:Option V->Option Value->Prop
 | some v,some u=>RelV v u
 | none,none=>True
 | _,_=>False
def KV{κ:Type}:List (κ × V)->List (κ × Value)->Prop:=Paired fun (p:κ × V) (q:κ × Value)=>p.1=q.1 /\ RelV p.2 q.2
def kV:Key->V
 | .inl i=>.int i
 | .inr x=>.str x
inductive HO where
 | lst (xs:List V)
 | tup (xs:List V)
 | dK (kvs:List (Key × V)) | dT (kvs:List (List Key × V))
 | dN (xs:List (PyData × Addr × Value))
 | set (S:Int->Bool) (n:Nat)
 | ins (C dx:Addr) (fs:List (Str × V))
 | own (x:Addr)
 | xd (fs:List (Str × V))
 | met (f x:Addr)
 | rng (lo hi:Int)
 | frz (o:Obj) (u:HO)
 | tbl (ps:Array Value)
 | ext (φ:Heap->Prop)
 | exw (φ:World->Heap->Prop)
abbrev Hp:=Addr->Option HO
def upd(H:Hp)(a:Addr)(o:HO):Hp:=fun b=>if b=a then some o else H b
theorem bt{H:Hp}{a:Addr}{o:HO}:upd H a o a=some o:=by unfold upd;rw [if_pos rfl]
theorem aL{H:Hp}{a b:Addr}{o:HO}(h:b ≠ a):upd H a o b=H b:=by unfold upd;rw [if_neg h]
theorem aQ{H:Hp}{a b:Addr}{o:HO}(h:H a=some o)(h':H b=none):a ≠ b:=by
 intro e;subst e;rw [h] at h';cases h'
def eV(H:Hp)(a:Addr):List Value->Prop
 | []=>True
 | .int _ _ :: .int _ _ :: .ref c :: rest=>(∃ o vs q t,H c=some (.frz o (.own a)) /\ o.data = .fields vs /\ vs[1]? = some (.str q t)) /\ eV H a rest
 | _=>False
def n9(h:Heap)(a:Addr)(items:Array Value):Prop:=∃ o,h.get? a=some o /\ (o.cls,o.dict)=(Value.type "tuple",none) /\ ∃ n,o.data = .seq items n
theorem n9.tup{h:Heap}{a:Addr}{items:Array Value}:n9 h a items->IsTup h a items:=fun ⟨o,e,c,d⟩=>⟨o,e,(Prod.mk.inj c).1,d⟩
theorem n9.new(h:Heap)(items:Array Value){n:Nat}:n9 (h.push { cls:=.type "tuple",data:=.seq items n }) h.objs.size items:=⟨_,Heap.get?_push_size h rfl,rfl,_,rfl⟩
section
variable (P:Program) (w:World)
def cB(H:Hp)(h:Heap)(a:Addr):HO->Prop
 | .lst xs=>xs.length <= sizeLine /\ ∃ (its:List Value) (n:Nat),Vals xs its /\ h.get? a=some { cls:=.type "list",data:=.seq its.toArray n }
 | .tup xs=>xs.length <= sizeLine /\ ∃ its:List Value,Vals xs its /\ n9 h a its.toArray
 | .dK kvs=>kvs.length <= sizeLine /\ (a == sysModules)=false /\ ∃ vs,KV kvs vs /\ h.DictOf (jh P w) a vs
 | .dT kvs => kvs.length <= sizeLine /\ (a == sysModules) = false /\ ∃ xs : List (List Key × Addr × Value),
     Paired (fun (p:List Key × V) (q:List Key × Addr × Value)=>p.1=q.1 /\ H q.2.1=some (.tup (p.1.map kV)) /\ RelV p.2 q.2.2) kvs xs /\
     ∃ o es ep,h.get? a=some o /\ o.ExactDict /\ o.data = .dict es ep /\ es.toList=xs.map (entryOfKey (tupleKind (jh P w))) /\ (xs.map (·.1)).Nodup
 | .dN xs=>xs.length <= sizeLine /\ (a == sysModules)=false /\ ∃ o es ep,h.get? a=some o /\ o.ExactDict /\ o.data = .dict es ep /\ es.toList=xs.map (entryOfKey (PQ P w)) /\ (xs.map (·.1)).Nodup
 | .set S n=>h.SetOf (intKind P w) a S n
 | .ins C dx fs => H dx = some (.own a) /\ fs.length <= 1000 /\ dx ≠ a /\ h.get? a = some (PySem.W.instObj C dx) /\
     ∃ mA,h.Ns1 dx mA /\ (∀ f,FL (fs.lookup f) (mA f)) /\ PySem.Within mA (fs.map (·.1))
 | .own _=>∃ o,h.get? a=some o
 | .xd fs=>∃ mA,h.Ns1 a mA /\ ∀ f,FL (fs.lookup f) (mA f)
 | .rng lo hi=>∃ t u v,h.get? a=some { cls:=.type "range",data:=.fields #[.int lo t,.int hi u,.int 1 v] }
 | .frz o u=>h.get? a=some o /\ cB H h a u
 | .tbl ps=>∃ qs:Array Value,h.get? a=some { cls:=.none,data:=.fields qs } /\ TriplesOk qs.toList /\ (ps[0]? = some (.bool true)->eV H a qs.toList)
 | .met f x=>h.get? a=some (PySem.W.methodObj (.ref f) (.ref x))
 | .ext φ=>φ h /\ (∃ o,h.get? a=some o) /\ ∀ h1 h2:Heap,φ h1->(∀ o,h1.get? a=some o->h2.get? a=some o)->φ h2
 | .exw φ=>φ w h /\ (∃ o,h.get? a=some o) /\ ∀ h1 h2:Heap,φ w h1->(∀ o,h1.get? a=some o->h2.get? a=some o)->φ w h2
def HOk(H:Hp)(h:Heap):Prop:=∀ a o,H a=some o->cB P w H h a o
end
section
variable {P:Program} {w:World} {H H':Hp} {h h':Heap} {a:Addr} {o:HO}
theorem cB.lt(x:cB P w H h a o):a < h.objs.size:=by
 cases o with
 | lst xs=>obtain ⟨_,_,_,_,e⟩:=x;exact Heap.lt_size e
 | tup xs=>obtain ⟨_,_,_,_,e,_⟩:=x;exact Heap.lt_size e
 | dK kvs=>obtain ⟨_,_,_,_,o,_,_,e,_⟩:=x;exact Heap.lt_size e
 | dT kvs=>obtain ⟨_,_,_,_,o,_,_,e,_⟩:=x;exact Heap.lt_size e
 | dN xs=>obtain ⟨_,_,o,_,_,e,_⟩:=x;exact Heap.lt_size e
 | set S n=>obtain ⟨o,_,_,_,e,_⟩:=x;exact Heap.lt_size e
 | ins C dx fs=>obtain ⟨_,_,_,e,_⟩:=x;exact Heap.lt_size e
 | own y=>obtain ⟨_,e⟩:=x;exact Heap.lt_size e
 | xd fs=>obtain ⟨_,⟨_,_,_,e,_⟩,_⟩:=x;exact Heap.lt_size e
 | rng lo hi=>obtain ⟨_,_,_,e⟩:=x;exact Heap.lt_size e
 | frz ob u=>obtain ⟨e,_⟩:=x;exact Heap.lt_size e
 | tbl ps=>obtain ⟨_,e,_⟩:=x;exact Heap.lt_size e
 | met f y=>exact Heap.lt_size (show h.get? a=some _ from x)
 | ext φ=>obtain ⟨_,⟨_,e⟩,_⟩:=x;exact Heap.lt_size e
 | exw φ=>obtain ⟨_,⟨_,e⟩,_⟩:=x;exact Heap.lt_size e
theorem Paired.Nk{α β:Type}{F G:α->β->Prop}:∀ {l₁:List α} {l₂:List β},Paired F l₁ l₂->(∀ a b,F a b->G a b)->Paired G l₁ l₂
 | _,_,.nil,_=>.nil
 | _,_,.cons r t,f=>.cons (f _ _ r) (Paired.Nk t f)
theorem eV.xy(hz:∀ b o,H b=some (.frz o (.own a))->H' b=some (.frz o (.own a))):∀ {l:List Value},eV H a l->eV H' a l:=by
 intro l x
 fun_induction eV H a l with
 | case1=>exact trivial
 | case2 i t j u c rest ih =>
  obtain ⟨⟨o,vs,q,tt,x1,x3⟩,x4⟩:=x
  exact ⟨⟨o,vs,q,tt,hz _ _ x1,x3⟩,ih x4⟩
 | case3=>exact x.elim
theorem cB.xy (x : cB P w H h a o) (k : ∀ b u, (b = a \/ H b = some (.own a)) -> h.get? b = some u -> h'.get? b = some u)
    (ho:∀ b,H b=some (.own a)->H' b=some (.own a)) (ht:∀ b xs,H b=some (.tup xs)->H' b=some (.tup xs)) (hz:∀ b o,H b=some (.frz o (.own a))->H' b=some (.frz o (.own a))):cB P w H' h' a o:=by
 induction o with
 | lst xs=>obtain ⟨z,its,n,r,e⟩:=x;exact ⟨z,its,n,r,k _ _ (.inl rfl) e⟩
 | tup xs=>obtain ⟨z,its,r,ob,e,c⟩:=x;exact ⟨z,its,r,ob,k _ _ (.inl rfl) e,c⟩
 | dK kvs=>obtain ⟨z,y,vs,r,ob,es,ep,e,c⟩:=x;exact ⟨z,y,vs,r,ob,es,ep,k _ _ (.inl rfl) e,c⟩
 | dT kvs =>
  obtain ⟨z,y,xs,r,ob,es,ep,e,c⟩:=x
  exact ⟨z,y,xs,Paired.Nk r fun p q z=>⟨z.1,ht _ _ z.2.1,z.2.2⟩,ob,es,ep,k _ _ (.inl rfl) e,c⟩
 | dN xs=>obtain ⟨z,y,ob,es,ep,e,c⟩:=x;exact ⟨z,y,ob,es,ep,k _ _ (.inl rfl) e,c⟩
 | set S n=>obtain ⟨ob,es,ep,t,e,c⟩:=x;exact ⟨ob,es,ep,t,k _ _ (.inl rfl) e,c⟩
 | ins C dx fs =>
  obtain ⟨d,z,ne,e,mA,⟨od,es,ep,e2,c⟩,r⟩:=x
  exact ⟨ho _ d,z,ne,k _ _ (.inl rfl) e,mA,⟨od,es,ep,k _ _ (.inr d) e2,c⟩,r⟩
 | own y=>obtain ⟨ob,e⟩:=x;exact ⟨ob,k _ _ (.inl rfl) e⟩
 | xd fs=>obtain ⟨mA,⟨od,es,ep,e,c⟩,r⟩:=x;exact ⟨mA,⟨od,es,ep,k _ _ (.inl rfl) e,c⟩,r⟩
 | rng lo hi=>obtain ⟨t,u,v,e⟩:=x;exact ⟨t,u,v,k _ _ (.inl rfl) e⟩
 | frz ob u ih=>obtain ⟨e,q⟩:=x;exact ⟨k _ _ (.inl rfl) e,ih q⟩
 | tbl ps=>obtain ⟨qs,e,z,y⟩:=x;exact ⟨qs,k a _ (.inl rfl) e,z,fun hp=>(y hp).xy hz⟩
 | met f y =>
  have e:h.get? a=some (PySem.W.methodObj (.ref f) (.ref y)):=x
  show h'.get? a=some (PySem.W.methodObj (.ref f) (.ref y))
  exact k a _ (.inl rfl) e
 | ext φ=>obtain ⟨p,⟨o,e⟩,st⟩:=x;exact ⟨st _ _ p fun o q=>k _ _ (.inl rfl) q,⟨o,k _ _ (.inl rfl) e⟩,st⟩
 | exw φ=>obtain ⟨p,⟨o,e⟩,st⟩:=x;exact ⟨st _ _ p fun o q=>k _ _ (.inl rfl) q,⟨o,k _ _ (.inl rfl) e⟩,st⟩
theorem HOk.lt(x:HOk P w H h)(e:H a=some o):a < h.objs.size:=(x a o e).lt
theorem HOk.fresh(x:HOk P w H h)(e:h.objs.size <= a):H a=none:=by
 cases q:H a with
 | none=>rfl
 | some u=>exact absurd (Nat.lt_of_lt_of_le (x.lt q) e) (Nat.lt_irrefl _)
theorem HOk.kept(x:HOk P w H h)(k:∀ b u,h.get? b=some u->h'.get? b=some u):HOk P w H h':=fun a o e =>
 (x a o e).xy (fun b u _ q=>k b u q) (fun _ q=>q) (fun _ _ q=>q) fun _ _ q=>q
theorem HOk.laid(x:HOk P w H h)(k:∀ b u,h.get? b=some u->h'.get? b=some u)(hp:h.objs.size <= a)(new:cB P w (upd H a o) h' a o):HOk P w (upd H a o) h':=fun b u e=>by
 have hn:=x.fresh hp
 by_cases hb:b=a
 . subst hb;rw [bt] at e;cases e;exact new
 . rw [aL hb] at e
   exact (x b u e).xy (fun c v _ q=>k c v q) (fun c q=>by rw [aL (aQ q hn)];exact q) (fun c xs q=>by rw [aL (aQ q hn)];exact q) fun c xs q=>by rw [aL (aQ q hn)];exact q
end
def Rd(H:Hp)(a:Addr)(u:HO):Prop:=H a=some u \/ ∃ o,H a=some (.frz o u)
theorem Rd.of{H:Hp}{a:Addr}{u:HO}(h:H a=some u):Rd H a u:=.inl h
theorem Rd.ok{P:Program}{w:World}{H:Hp}{h:Heap}{a:Addr}{u:HO}(r:Rd H a u)(x:HOk P w H h):cB P w H h a u:=by
 rcases r with r | ⟨o,r⟩
 . exact x a u r
 . obtain ⟨_,q⟩:=x a _ r
   exact q
def Mut:Option HO->Prop
 | some (.lst _)=>True
 | some (.dK _)=>True
 | some (.dT _)=>True
 | some (.dN _)=>True
 | some (.set _ _)=>True
 | some (.ins _ _ _)=>True
 | some (.ext _)=>True
 | some (.exw _)=>True
 | _=>False
section
variable {P:Program} {w:World} {H:Hp} {h h':Heap} {x e:Addr} {o':HO}
theorem HOk.write (ok : HOk P w H h) (mu : Mut (H x)) (he : e = x \/ H e = some (.own x)) (k : ∀ b u, b ≠ e -> h.get? b = some u -> h'.get? b = some u) (heo : ∃ u, h'.get? e = some u)
    (new:cB P w (upd H x o') h' x o'):HOk P w (upd H x o') h':=fun b u q=>by
 have nown:∀ c y,H c=some (.own y)->c ≠ x:=fun c y r z=>by subst z;rw [r] at mu;exact mu
 have ntup:∀ c xs,H c=some (.tup xs)->c ≠ x:=fun c xs r z=>by subst z;rw [r] at mu;exact mu
 by_cases hb:b=x
 . subst hb;rw [bt] at q;cases q;exact new
 . rw [aL hb] at q
   by_cases hbe:b=e
   . have q':H b=some (.own x):=by
      rcases he with z | z
      . exact absurd (hbe.trans z) hb
      . rw [hbe];exact z
     rw [q] at q';cases q'
     obtain ⟨v,hv⟩:=heo
     exact ⟨v,by rw [hbe];exact hv⟩
   . refine (ok b u q).xy (fun c v hc r=>k c v ?_ r) (fun c r=>by rw [aL (nown c b r)];exact r) (fun c xs r=>by rw [aL (ntup c xs r)];exact r) fun c ob r=>by rw [aL (fun z=>by subst z;rw [r] at mu;exact mu)];exact r
     rcases hc with rfl | hc
     . exact hbe
     . rintro rfl
       rcases he with z | z
       . exact nown c b hc z
       . rw [hc] at z;cases z;exact hb rfl
end
structure Un (fs ex:List Addr) (H H':Hp) (h h':Heap):Prop where
 keep:∀ b o,h.get? b=some o->H b=none->b ∉ fs->b ∉ ex->h'.get? b=some o
 slot:∀ b o,h.get? b=some o->H b=none->b ∈ fs->b ∉ ex->∃ sl,h'.get? b=some { o with slots:=sl }
 free:∀ b o,h.get? b=some o->H b=none->b ∉ ex->H' b=none
 there:∀ b o,h.get? b=some o->b ∉ ex->∃ o',h'.get? b=some o'
 wL:∀ b xs,H b=some (.tup xs)->H' b=some (.tup xs)
 vt:∀ b o u,H b=some (.frz o u)->H' b=some (.frz o u)
 uH:∀ b ps,H b=some (.tbl ps)->∃ more,H' b=some (.tbl (ps ++ more))
section
variable {fs fs' ex ex':List Addr} {H H1 H2:Hp} {h h1 h2 h':Heap} {a x e:Addr} {o:HO}
theorem Un.any(u:Un fs ex H H1 h h1){b:Addr}{ob:Obj}(q:h.get? b=some ob)(n:H b=none)(hx:b ∉ ex):∃ sl,h1.get? b=some { ob with slots:=sl }:=by
 by_cases hb:b ∈ fs
 . exact u.slot b ob q n hb hx
 . exact ⟨ob.slots,u.keep b ob q n hb hx⟩
theorem Un.trans(a:Un fs ex H H1 h h1)(b:Un fs ex H1 H2 h1 h2):Un fs ex H H2 h h2 where
 keep:=fun c ob q n hc hx=>b.keep c ob (a.keep c ob q n hc hx) (a.free c ob q n hx) hc hx
 slot:=fun c ob q n hc hx=>by
  obtain ⟨sl,e1⟩:=a.slot c ob q n hc hx
  obtain ⟨sl',e2⟩:=b.slot c _ e1 (a.free c ob q n hx) hc hx
  exact ⟨sl',e2⟩
 free:=fun c ob q n hx=>by
  obtain ⟨o',e1⟩:=a.there c ob q hx
  exact b.free c o' e1 (a.free c ob q n hx) hx
 there:=fun c ob q hx=>by
  obtain ⟨o',e1⟩:=a.there c ob q hx
  exact b.there c o' e1 hx
 wL:=fun c xs q=>b.wL c xs (a.wL c xs q)
 vt:=fun c ob xs q=>b.vt c ob xs (a.vt c ob xs q)
 uH:=fun c ps q=>by
  obtain ⟨m1,e1⟩:=a.uH c ps q
  obtain ⟨m2,e2⟩:=b.uH c _ e1
  exact ⟨m1 ++ m2,by rw [e2,Array.append_assoc]⟩
theorem Un.kept(k:∀ b u,h.get? b=some u->h'.get? b=some u):Un fs ex H H h h' :=
 ⟨fun b ob q _ _ _=>k b ob q,fun b ob q _ _ _=>⟨ob.slots,k b ob q⟩,fun _ _ _ n _=>n,fun b ob q _=>⟨ob,k b ob q⟩,fun _ _ q=>q,fun _ _ _ q=>q,fun _ ps q=>⟨#[],by rw [q];simp⟩⟩
theorem Un.refl:Un fs ex H H h h:=Un.kept fun _ _ q=>q
theorem Un.laid(k:∀ b u,h.get? b=some u->h'.get? b=some u)(hp:h.objs.size <= a)(hn:H a=none):Un fs ex H (upd H a o) h h' where
 keep:=fun b u q _ _ _=>k b u q
 slot:=fun b u q _ _ _=>⟨u.slots,k b u q⟩
 free:=fun b u q n _=>by rw [aL (Nat.ne_of_lt (Nat.lt_of_lt_of_le (Heap.lt_size q) hp))];exact n
 there:=fun b u q _=>⟨u,k b u q⟩
 wL:=fun b xs q=>by rw [aL (aQ q hn)];exact q
 vt:=fun b u xs q=>by rw [aL (aQ q hn)];exact q
 uH:=fun b ps q=>⟨#[],by rw [aL (aQ q hn),q];simp⟩
theorem Un.write(mu:Mut (H x))(he:e=x \/ H e=some (.own x))(k:∀ b u,b ≠ e->h.get? b=some u->h'.get? b=some u)(heo:∃ u,h'.get? e=some u):Un fs ex H (upd H x o) h h':=by
 have hx:∀ b,H b=none->b ≠ x:=fun b n z=>by subst z;rw [n] at mu;exact mu
 have hb:∀ b,H b=none->b ≠ e:=fun b n z=>by
  subst z
  rcases he with r | r
  . exact hx b n r
  . rw [n] at r;cases r
 have hm:∀ b u,H b=some u->¬ Mut (some u)->b ≠ x:=fun b u q nm z=>by subst z;rw [q] at mu;exact nm mu
 refine ⟨fun b u q n _ _=>k b u (hb b n) q,fun b u q n _ _=>⟨u.slots,k b u (hb b n) q⟩,fun b u q n _=>by rw [aL (hx b n)];exact n,fun b u q _=>?_,
  fun b xs q=>by rw [aL (hm b _ q fun z=>z)];exact q,fun b u xs q=>by rw [aL (hm b _ q fun z=>z)];exact q,fun b ps q=>⟨#[],by rw [aL (hm b _ q fun z=>z),q];simp⟩⟩
 by_cases hbe:b=e
 . subst hbe;exact heo
 . exact ⟨u,k b u hbe q⟩
end
def trk(h:Heap)(H:Hp):List Addr:=(List.range h.objs.size).filter fun a=>(H a).isSome
def D1(h:Heap)(H:Hp):Heap:=PySem.W.hideAll h (trk h H)
theorem JO(h:Heap)(H:Hp):(D1 h H).objs.size=h.objs.size:=PySem.W.hideAll_size _ _
theorem Lk{h:Heap}{H:Hp}{b:Addr}{o:Obj}(e:h.get? b=some o)(n:H b=none):(D1 h H).get? b=some o :=
 PySem.W.hideAll_get _ e fun hm=>by
  have q:(H b).isSome=true:=(List.mem_filter.mp hm).2
  rw [n] at q;simp at q
theorem Nl{h:Heap}{H:Hp}{b:Addr}{o:Obj}(e:(D1 h H).get? b=some o):h.get? b=some o /\ H b=none:=by
 have e':h.get? b=some o:=PySem.W.of_hideAll (trk h H) e
 refine ⟨e',?_⟩
 cases q:H b with
 | none=>rfl
 | some x =>
  have hm:b ∈ trk h H:=List.mem_filter.mpr ⟨List.mem_range.mpr (Heap.lt_size e'),by simp [q]⟩
  have z:(D1 h H).get? b=none:=PySem.W.hideAll_none (trk h H) hm
  rw [z] at e;cases e
def Nm(g h:Heap)(L:Addr):List (Addr × Obj):=(List.range h.objs.size).filterMap fun a=>if a=L \/ (g.get? a).isSome=true then none else (h.get? a).map fun o=>(a,o)
def rest(g h:Heap)(L d:Addr):List (Addr × Obj):=(Nm g h L).filter fun p=>decide (p.1 ≠ d)
end L2
namespace L2
open PySem PySem.Spec PyProof.Rows
def AB(K:PySem.W.Frag)(cd:Value)(P:Addr):Prop:=∃ (c:Addr) (oc:Value) (od:Option Addr) (vs:Array Value) (sl:Array (Option Value)),cd = .ref c /\ K.lookup c=some ⟨oc,od,.fields vs,sl⟩ /\ vs.getD 11 .none = .ref P /\ oc = .type "code" /\ vs[11]? = some (.ref P) /\
 (∃ x y,vs.getD 18 .none = .str x y) /\ (∃ x y,vs.getD 7 .none = .int x y) /\ (∃ x,vs.getD 9 .none = .bool x) /\ ∃ x y,vs.getD 10 .none = .int x y
def TbN(ns:List Str)(K:PySem.W.Frag)(mg:Str->Option Value)(P:Addr):Prop:=∃ nm ∈ ns,∃ (f:Addr) (oc:Value) (od:Option Addr) (fd:FuncData) (sl:Array (Option Value)),mg nm=some (.ref f) /\ K.lookup f=some ⟨oc,od,.func fd,sl⟩ /\ AB K fd.code P
def Tab(K:PySem.W.Frag)(mg:Str->Option Value)(fl:Bool)(P:Addr):Prop:=(fl=true /\ TbN cb K mg P) \/ (fl=false /\ TbN fD K mg P /\ ¬ TbN cb K mg P)
def Tb(K:PySem.W.Frag)(mg:Str->Option Value)(P:Addr):Prop:=∃ fl,Tab K mg fl P
theorem Tab.one{K:PySem.W.Frag}{mg:Str->Option Value}{a b:Bool}{P:Addr}(x:Tab K mg a P)(y:Tab K mg b P):a=b:=by
 rcases x with ⟨rfl,x⟩ | ⟨rfl,_,x⟩ <;> rcases y with ⟨rfl,y⟩ | ⟨rfl,_,y⟩
 . rfl
 . exact absurd x y
 . exact absurd y x
 . rfl
theorem Tb.n{K:PySem.W.Frag}{mg:Str->Option Value}{P:Addr}(x:Tb K mg P):TbN (fD ++ cb) K mg P:=by
 obtain ⟨fl,⟨_,nm,h,r⟩ | ⟨_,⟨nm,h,r⟩,_⟩⟩:=x
 . exact ⟨nm,List.mem_append_right _ h,r⟩
 . exact ⟨nm,List.mem_append_left _ h,r⟩
structure Mod (K:PySem.W.Frag) (mg:Str->Option Value) (base:Heap):Prop where
 kin:K.In base
 glob:base.Ns mainGlobals mg
 blt:∃ mb,base.Ns builtinsNs mb /\ ∀ x:Str,x ≠ "__name__" -> mb x=bootBuiltins x
 nolimit:base.NoLimit
 bmain:∃ bm ob,mg "__builtins__" = some (.ref bm) /\ bm ≠ builtinsNs /\ base.get? bm=some ob /\ ob.cls = .type "module" /\ ob.dict=some builtinsNs /\ ob.data = .plain
structure Cx where
 prog:Program
 w:World
 K:PySem.W.Frag
 mg:Str->Option Value
 base:Heap
 A:Around
 N:List Str
 s_0:Shared
 H_0:Hp
 env:Env
 outer:List Env
 stack:List Env
 ex:List Addr
 fn:Str->Bool
 calm:Bool
 pn:List (Addr × Obj)
 xe:Value->Shared->Prop
def frs(l:List Env):List Addr:=l.filterMap (·.frame)
abbrev Cx.fs(X:Cx):List Addr:=frs X.outer
def Vis(sc:Scope)(x:Str):Prop:=sc.names.lookup x=some .local \/ sc.names.lookup x=some .cell \/ sc.names.lookup x=some .free
def Loc(sc:Scope)(x:Str):Prop:=sc.names.lookup x=some .local \/ sc.names.lookup x=some .cell
def Look(env:Env)(h:Heap)(m:Str->Option Value)(x:Str)(u:Value):Prop :=
 (env.kindOf x=some .local /\ m x=some u) \/ ((env.kindOf x=some .cell \/ env.kindOf x=some .free) /\ ∃ c,env.cells.lookup x=some c /\ h.IsCell c (some u))
structure Cx.Ok (X:Cx):Prop where
 mod:Mod X.K X.mg X.base
 kind:X.env.scope.kind = .function
 glob:X.env.globals=mainGlobals
 blt:X.env.builtins=builtinsNs
 above:X.s_0.heap.objs.size <= X.env.locals
 inj:∀ x y c,X.env.cells.lookup x=some c->X.env.cells.lookup y=some c->x=y
 has:∀ x,(X.env.kindOf x=some .cell \/ X.env.kindOf x=some .free)->∃ c,X.env.cells.lookup x=some c
 cab:∀ x c,X.fn x=true->X.env.cells.lookup x=some c->X.s_0.heap.objs.size <= c
 hd:X.calm=true->X.A.handled=none
 frames:X.A.frames=some X.stack
 stk:X.stack=X.outer \/ (X.stack=X.env :: X.outer /\ X.env.frame=some X.env.locals)
 exf:∀ b ∈ X.ex,b ≠ X.env.locals /\ ∀ x c,X.env.cells.lookup x=some c->c ≠ b
 bs:∀ b o,X.base.get? b=some o->X.s_0.heap.get? b=some o /\ X.H_0 b=none
 bsz:X.base.objs.size <= X.s_0.heap.objs.size
 Gz:∀ b o,X.base.get? b=some o->b ∉ X.ex
 GA:∀ b ∈ X.ex,b ∉ X.fs
 xB:X.s_0.heap.FunFrames X.base X.outer
 frf:∀ b ∈ X.fs,X.H_0 b=none
 tabs:∀ b fl,Tab X.K X.mg fl b->∃ ps,X.H_0 b=some (.tbl ps) /\ ps[0]? = some (.bool fl)
def GB(a b:Array GenState):Prop:=AllBare b /\ a.size <= b.size
theorem GB.self{a b:Array GenState}(h:GB a b):GB b b:=⟨h.1,Nat.le_refl _⟩
theorem GB.trans{a b c:Array GenState}(h:GB a b)(g:GB b c):GB a c:=⟨g.1,Nat.le_trans h.2 g.2⟩
structure Inv (X:Cx) (pins:List (Addr × Obj)) (σ:List (Option V)) (H:Hp) (s:Shared):Prop where
 ok:X.Ok
 os:s.os=X.s_0.os
 bare:GB X.s_0.gens s.gens
 base:Un X.fs X.ex X.H_0 H X.s_0.heap s.heap
 loc:∃ m,s.heap.Ns X.env.locals m /\ ∀ (i:Nat) (x:Str) (v:V),X.N[i]? = some x->σ[i]? = some (some v)->Vis X.env.scope x->∃ u,RelV v u /\ Look X.env s.heap m x u
 cell:∀ x c,X.env.cells.lookup x=some c->∃ v,s.heap.IsCell c v
 free:H X.env.locals=none
 kR:∀ x c,X.env.cells.lookup x=some c->H c=none
 pin:∀ p ∈ X.pn ++ pins,s.heap.get? p.1=some p.2 /\ H p.1=none /\ p.1 ≠ X.env.locals /\ p.1 ∉ X.fs /\ ∀ v,p.2.data ≠ .cell v
 hok:HOk X.prog X.w H s.heap
 len:σ.length=X.N.length
section
variable {X:Cx} {pins:List (Addr × Obj)} {σ:List (Option V)} {H H':Hp} {s:Shared} {h':Heap}
theorem Cx.Ok.vw(ok:X.Ok){b:Addr}{o:Obj}(e:X.base.get? b=some o):b ∉ X.fs:=fun hb=>by
 have:=(ok.xB.mem hb).1
 rw [e] at this;cases this
theorem Inv.bs(I:Inv X pins σ H s):∀ b o,X.base.get? b=some o->s.heap.get? b=some o /\ H b=none:=fun b o e =>
 ⟨I.base.keep b o (I.ok.bs b o e).1 (I.ok.bs b o e).2 (I.ok.vw e) (I.ok.Gz b o e),I.base.free b o (I.ok.bs b o e).1 (I.ok.bs b o e).2 (I.ok.Gz b o e)⟩
theorem Inv.bk(I:Inv X pins σ H s):∀ b o,X.base.get? b=some o->s.heap.get? b=some o:=fun b o e=>(I.bs b o e).1
theorem Inv.mod(I:Inv X pins σ H s):Mod X.K X.mg X.base:=I.ok.mod
theorem Ha{ps m:Array Value}{v:Value}(e:ps[0]? = some v):(ps ++ m)[0]? = some v:=by
 rw [Array.getElem?_append,if_pos (Array.getElem?_eq_some_iff.mp e).1];exact e
theorem Inv.tabs(I:Inv X pins σ H s):∀ b fl,Tab X.K X.mg fl b->∃ ps,H b=some (.tbl ps) /\ ps[0]? = some (.bool fl):=fun b fl h=>by
 obtain ⟨ps,e,e0⟩:=I.ok.tabs b fl h
 obtain ⟨m,e1⟩:=I.base.uH b ps e
 exact ⟨_,e1,Ha e0⟩
theorem Inv.kIn(I:Inv X pins σ H s):X.K.In s.heap:=I.ok.mod.kin.keeps I.bk
theorem Inv.nolimit(I:Inv X pins σ H s):s.heap.NoLimit:=I.ok.mod.nolimit.keeps I.bk
theorem Inv.fr(I:Inv X pins σ H s):∃ m,Fr X.base X.env.locals s.heap m :=
 let ⟨m,hn,_⟩:=I.loc
 ⟨m,hn,I.bk,Nat.le_trans I.ok.bsz I.ok.above⟩
theorem Inv.lt(I:Inv X pins σ H s):X.env.locals < s.heap.objs.size:=let ⟨_,hn,_⟩:=I.loc;hn.lt
theorem Inv.sz(I:Inv X pins σ H s):X.s_0.heap.objs.size <= s.heap.objs.size:=Nat.le_trans I.ok.above (Nat.le_of_lt I.lt)
theorem Inv.Ph(I:Inv X pins σ H s){a:Addr}(h:s.heap.objs.size <= a):a ∉ X.fs:=fun hb=>by
 obtain ⟨_,o,ho,_⟩:=I.ok.xB.mem hb
 exact absurd (Nat.lt_of_lt_of_le (Heap.lt_size ho) (Nat.le_trans I.sz h)) (Nat.lt_irrefl _)
theorem Inv.cne(I:Inv X pins σ H s):∀ x c,X.env.cells.lookup x=some c->c ≠ X.env.locals:=fun x c e z=>by
 obtain ⟨v,o,ho,hd⟩:=I.cell x c e
 obtain ⟨m,⟨o',es,ep,ho',hd',_⟩,_⟩:=I.loc
 rw [z,ho'] at ho;cases ho;rw [hd'] at hd;cases hd
theorem Inv.xB(I:Inv X pins σ H s):s.heap.FunFrames X.base X.outer:=by
 have all:∀ (l:List Env),(∀ b ∈ frs l,b ∈ X.fs)->X.s_0.heap.FunFrames X.base l->s.heap.FunFrames X.base l:=by
  intro l
  induction l with
  | nil=>intro _ _;trivial
  | cons env r ih =>
   intro hs hl
   obtain ⟨hk,⟨L,o,hf,hn,ho,hd⟩,hr⟩:=hl
   have hL:L ∈ X.fs:=hs L (by unfold frs;rw [List.filterMap_cons,hf];exact List.mem_cons_self)
   obtain ⟨sl,e⟩:=I.base.slot L o ho (I.ok.frf L hL) hL fun z=>I.ok.GA L z hL
   exact ⟨hk,⟨L,_,hf,hn,e,hd⟩,ih (fun b hb=>hs b (by unfold frs;rw [List.filterMap_cons,hf];exact List.mem_cons_of_mem _ hb)) hr⟩
 exact all X.outer (fun _ hb=>hb) I.ok.xB
theorem Inv.stack(I:Inv X pins σ H s):s.heap.FunFrames X.base X.stack:=by
 rcases I.ok.stk with e | ⟨e,hf⟩
 . rw [e];exact I.xB
 . rw [e]
   obtain ⟨m,hn,_⟩:=I.loc
   refine .cons (by rw [I.ok.kind];decide) hf hn ?_ I.xB
   exact Heap.get?_none_of_le (Nat.le_trans I.ok.bsz I.ok.above)
theorem Inv.tW(I:Inv X pins σ H s):∀ b ∈ frs X.stack,b ∈ X.env.locals :: X.fs:=fun b hb=>by
 rcases I.ok.stk with e | ⟨e,hf⟩
 . rw [e] at hb;exact List.mem_cons_of_mem _ hb
 . rw [e] at hb
   unfold frs at hb
   rw [List.filterMap_cons,hf] at hb
   exact hb
theorem Inv.uO(I:Inv X pins σ H s):∀ b ∈ frs X.stack,H b=none:=fun b hb=>by
 rcases List.mem_cons.mp (I.tW b hb) with e | hb
 . rw [e];exact I.free
 . obtain ⟨_,o,ho,_⟩:=I.ok.xB.mem hb
   exact I.base.free b o ho (I.ok.frf b hb) fun z=>I.ok.GA b z hb
theorem Inv.step {g' : Array GenState} {t' : Nat} {d' : Drawn} {ch : List Addr} (I : Inv X pins σ H s)
    (hch:∀ b ∈ ch,(b ∈ X.ex \/ X.s_0.heap.objs.size <= b) /\ b ≠ X.env.locals /\ (∀ x c,X.env.cells.lookup x=some c->c ≠ b) /\ ∀ p ∈ X.pn ++ pins,p.1 ≠ b)
    (keep:∀ b o,b ≠ X.env.locals->b ∉ X.fs->b ∉ ch->s.heap.get? b=some o->H b=none->h'.get? b=some o)
    (slot:∀ b o,b ≠ X.env.locals->b ∈ X.fs->b ∉ ch->s.heap.get? b=some o->H b=none->∃ sl,h'.get? b=some { o with slots:=sl }) (free:∀ b o,b ∉ ch->s.heap.get? b=some o->H b=none->H' b=none)
    (there:∀ b o,b ∉ ch->s.heap.get? b=some o->∃ o',h'.get? b=some o')
    (wL:∀ b xs,H b=some (.tup xs)->H' b=some (.tup xs)) (vt:∀ b o u,H b=some (.frz o u)->H' b=some (.frz o u)) (uH:∀ b ps,H b=some (.tbl ps)->∃ more,H' b=some (.tbl (ps ++ more)))
    (ns:∀ m,s.heap.Ns X.env.locals m->h'.Ns X.env.locals m) (hok:HOk X.prog X.w H' h') (hg:GB s.gens g') :
    Inv X pins σ H' { s with heap:=h',gens:=g',drawn:=d',toks:=t' }:=by
 have neL:∀ b o,X.s_0.heap.get? b=some o->b ≠ X.env.locals:=fun b o e=>Nat.ne_of_lt (Nat.lt_of_lt_of_le (Heap.lt_size e) I.ok.above)
 have neC:∀ b o,X.s_0.heap.get? b=some o->b ∉ X.ex->b ∉ ch:=fun b o e hx hb=>by
  rcases (hch b hb).1 with z | z
  . exact hx z
  . exact absurd (Nat.lt_of_lt_of_le (Heap.lt_size e) z) (Nat.lt_irrefl _)
 have cellK:∀ x c,X.env.cells.lookup x=some c->∀ v,s.heap.IsCell c v->h'.IsCell c v:=fun x c e v ⟨o,ho,hd⟩=>by
  have nch:c ∉ ch:=fun z=>(hch c z).2.2.1 x c e rfl
  by_cases hc:c ∈ X.fs
  . obtain ⟨sl,q⟩:=slot c o (I.cne x c e) hc nch ho (I.kR x c e)
    exact ⟨_,q,hd⟩
  . exact ⟨o,keep c o (I.cne x c e) hc nch ho (I.kR x c e),hd⟩
 refine ⟨I.ok,I.os,I.bare.trans hg,⟨fun b o e n hb hx=>?_,fun b o e n hb hx=>?_,fun b o e n hx=>?_,fun b o e hx=>?_,fun b xs e=>wL b xs (I.base.wL b xs e),fun b o xs e=>vt b o xs (I.base.vt b o xs e),fun b ps e=>?_⟩,?_,fun x c e=>?_,?_,fun x c e=>?_,fun p hp=>?_,hok,I.len⟩
 . exact keep b o (neL b o e) hb (neC b o e hx) (I.base.keep b o e n hb hx) (I.base.free b o e n hx)
 . obtain ⟨sl,e1⟩:=I.base.slot b o e n hb hx
   obtain ⟨sl',e2⟩:=slot b _ (neL b o e) hb (neC b o e hx) e1 (I.base.free b o e n hx)
   exact ⟨sl',e2⟩
 . obtain ⟨o',e1⟩:=I.base.there b o e hx
   exact free b o' (neC b o e hx) e1 (I.base.free b o e n hx)
 . obtain ⟨o',e1⟩:=I.base.there b o e hx
   exact there b o' (neC b o e hx) e1
 . obtain ⟨m1,e1⟩:=I.base.uH b ps e
   obtain ⟨m2,e2⟩:=uH b _ e1
   exact ⟨m1 ++ m2,by rw [e2,Array.append_assoc]⟩
 . obtain ⟨m,hn,hl⟩:=I.loc
   refine ⟨m,ns m hn,fun i x v e1 e2 e3=>?_⟩
   obtain ⟨u,r,l⟩:=hl i x v e1 e2 e3
   refine ⟨u,r,?_⟩
   rcases l with l | ⟨k,c,e,z⟩
   . exact .inl l
   . exact .inr ⟨k,c,e,cellK x c e _ z⟩
 . obtain ⟨v,z⟩:=I.cell x c e
   exact ⟨v,cellK x c e v z⟩
 . obtain ⟨m,⟨o,_,_,ho,_⟩,_⟩:=I.loc
   exact free _ o (fun z=>(hch _ z).2.1 rfl) ho I.free
 . obtain ⟨v,o,ho,hd⟩:=I.cell x c e
   exact free c o (fun z=>(hch c z).2.2.1 x c e rfl) ho (I.kR x c e)
 . obtain ⟨e,n,ne,nf,d⟩:=I.pin p hp
   have nch:p.1 ∉ ch:=fun z=>(hch p.1 z).2.2.2 p hp rfl
   exact ⟨keep p.1 p.2 ne nf nch e n,free p.1 p.2 nch e n,ne,nf,d⟩
theorem Inv.un{t':Nat}(I:Inv X pins σ H s)(u:Un X.fs [] H H' s.heap h')(hok:HOk X.prog X.w H' h'):Inv X pins σ H' { s with heap:=h',toks:=t' }:=by
 obtain ⟨m,⟨o,es,ep,ho,r⟩,_⟩:=id I.loc
 obtain ⟨sl,hL⟩:=u.any ho I.free (by simp)
 exact I.step (g':=s.gens) (d':=s.drawn) (ch:=[]) (fun _ z=>nomatch z) (fun b o _ hb _ e n=>u.keep b o e n hb (by simp)) (fun b o _ hb _ e n=>u.slot b o e n hb (by simp)) (fun b o _ e n=>u.free b o e n (by simp)) (fun b o _ e=>u.there b o e (by simp)) u.wL u.vt u.uH (fun m' hm=>by
  obtain ⟨o',es',ep',ho',r'⟩:=hm
  rw [ho] at ho';cases ho'
  exact ⟨_,es',ep',hL,r'⟩) hok I.bare.self
theorem Inv.call {g' : Array GenState} {t' : Nat} {d' : Drawn} {ch : List Addr} (I : Inv X pins σ H s) (u : Un (frs X.stack) ch H H' s.heap h') (hok : HOk X.prog X.w H' h') (hg : GB s.gens g')
    (hch:∀ b ∈ ch,(b ∈ X.ex \/ X.s_0.heap.objs.size <= b) /\ b ≠ X.env.locals /\ (∀ x c,X.env.cells.lookup x=some c->c ≠ b) /\ ∀ p ∈ X.pn ++ pins,p.1 ≠ b) :
    Inv X pins σ H' { s with heap:=h',gens:=g',drawn:=d',toks:=t' }:=by
 obtain ⟨m,⟨o,es,ep,ho,r⟩,_⟩:=id I.loc
 obtain ⟨sl,hL⟩:=u.any ho I.free fun z=>(hch _ z).2.1 rfl
 exact I.step (ch:=ch) hch (fun b o hL hb hc e n=>u.keep b o e n (fun z=>(List.mem_cons.mp (I.tW b z)).elim hL hb) hc) (fun b o _ _ hc e n=>u.any e n hc) (fun b o hc e n=>u.free b o e n hc) (fun b o hc e=>u.there b o e hc) u.wL u.vt u.uH (fun m' hm=>by
  obtain ⟨o',es',ep',ho',r'⟩:=hm
  rw [ho] at ho';cases ho'
  exact ⟨_,es',ep',hL,r'⟩) hok hg
theorem Inv.turned {t' : Nat} {it : Addr} (I : Inv X pins σ H s) (k : ∀ b o, b ≠ it -> s.heap.get? b = some o -> h'.get? b = some o) (hn : H it = none) (hL : it ≠ X.env.locals)
    (h1:it ∈ X.ex \/ X.s_0.heap.objs.size <= it) (h2:∀ x c,X.env.cells.lookup x=some c->c ≠ it) (h3:∀ p ∈ X.pn ++ pins,p.1 ≠ it):Inv X pins σ H { s with heap:=h',toks:=t' }:=by
 have nit:∀ b u,H b=some u->b ≠ it:=fun b u e z=>by rw [z,hn] at e;cases e
 refine I.step (g':=s.gens) (d':=s.drawn) (ch:=[it]) (fun b hb=>?_) (fun b o _ _ hc e _=>k b o (fun z=>hc (by simp [z])) e) (fun b o _ _ hc e _=>⟨o.slots,k b o (fun z=>hc (by simp [z])) e⟩) (fun _ _ _ _ n=>n)
  (fun b o hc e=>⟨o,k b o (fun z=>hc (by simp [z])) e⟩) (fun _ _ e=>e) (fun _ _ _ e=>e) (fun b ps e=>⟨#[],by rw [e];simp⟩) (fun m hm=>?_) (fun b u e=>?_) I.bare.self
 . have e:b=it:=by simpa using hb
   subst e
   exact ⟨h1,hL,h2,h3⟩
 . obtain ⟨o,es,ep,ho,r⟩:=hm
   exact ⟨o,es,ep,k _ o (Ne.symm hL) ho,r⟩
 . refine (I.hok b u e).xy (fun c v hc q=>k c v ?_ q) (fun _ q=>q) (fun _ _ q=>q) fun _ _ q=>q
   rcases hc with z | z
   . rw [z];exact nit b u e
   . exact nit c _ z
theorem Inv.tok(I:Inv X pins σ H s)(t:Nat):Inv X pins σ H { s with toks:=t }:=I.un (h':=s.heap) (t':=t) Un.refl I.hok
theorem Inv.kept{t':Nat}(I:Inv X pins σ H s)(k:∀ b u,s.heap.get? b=some u->h'.get? b=some u):Inv X pins σ H { s with heap:=h',toks:=t' }:=I.un (Un.kept k) (I.hok.kept k)
theorem Inv.laid {a : Addr} {o : HO} {t' : Nat} (I : Inv X pins σ H s) (k : ∀ b u, s.heap.get? b = some u -> h'.get? b = some u) (hp : s.heap.objs.size <= a) (new : cB X.prog X.w (upd H a o) h' a o) :
    Inv X pins σ (upd H a o) { s with heap:=h',toks:=t' }:=I.un (Un.laid k hp (I.hok.fresh hp)) (I.hok.laid k hp new)
theorem Inv.write {x e : Addr} {o : HO} {t' : Nat} (I : Inv X pins σ H s) (mu : Mut (H x)) (he : e = x \/ H e = some (.own x)) (k : ∀ b u, b ≠ e -> s.heap.get? b = some u -> h'.get? b = some u) (heo : ∃ u, h'.get? e = some u)
    (new:cB X.prog X.w (upd H x o) h' x o):Inv X pins σ (upd H x o) { s with heap:=h',toks:=t' }:=I.un (Un.write mu he k heo) (I.hok.write mu he k heo new)
theorem Inv.weak{σ':List (Option V)}(I:Inv X pins σ H s)(hl:σ'.length=σ.length)(w:∀ (i:Nat) v,σ'[i]? = some (some v)->σ[i]? = some (some v)):Inv X pins σ' H s :=
 ⟨I.ok,I.os,I.bare,I.base,let ⟨m,hn,hl'⟩:=I.loc;⟨m,hn,fun i x v e1 e2 e3=>hl' i x v e1 (w i v e2) e3⟩,I.cell,I.free,I.kR,I.pin,I.hok,hl.trans I.len⟩
theorem Inv.D0{pins':List (Addr × Obj)}(I:Inv X pins σ H s)(h:∀ p ∈ pins',s.heap.get? p.1=some p.2 /\ H p.1=none /\ p.1 ≠ X.env.locals /\ p.1 ∉ X.fs /\ ∀ v,p.2.data ≠ .cell v):Inv X pins' σ H s :=
 ⟨I.ok,I.os,I.bare,I.base,I.loc,I.cell,I.free,I.kR,fun p hp=>(List.mem_append.mp hp).elim (fun z=>I.pin p (List.mem_append_left _ z)) (h p),I.hok,I.len⟩
theorem uP{N:List Str}(hN:N.Nodup){i j:Nat}{x:Str}(a:N[i]? = some x)(b:N[j]? = some x):i=j:=by
 obtain ⟨h1,e1⟩:=List.getElem?_eq_some_iff.mp a
 obtain ⟨h2,e2⟩:=List.getElem?_eq_some_iff.mp b
 exact (List.getElem_inj hN).mp (e1.trans e2.symm)
theorem CA {M : Model} {A : Around} {E : Value -> Shared -> Prop} {i : Nat} {x : Str} {v : V} {u : Value} {Q : Unit -> Shared -> Prop} (I : Inv X pins σ H s) (hN : X.N.Nodup) (hi : X.N[i]? = some x) (hx : Loc X.env.scope x) (r : RelV v u)
    (h:∀ s',Inv X pins (σ.set i (some v)) H s'->(∃ a,Heap.SameBut a s.heap s'.heap /\ (a=X.env.locals \/ X.env.cells.lookup x=some a))->Q () s') (hf:X.fn x=true \/ X.env.scope.names.lookup x=some .local:=by first | exact .inl rfl | exact .inr rfl | assumption):wpAny M A (storeName X.env x u) Q E s:=by
 obtain ⟨m,hn,hl⟩:=id I.loc
 have hcls:(X.env.scope.kind == .class || (X.env.scope.kind == .module && X.env.locals != X.env.globals))=false:=by rw [I.ok.kind];rfl
 have hiσ:i < σ.length:=by rw [I.len];exact (List.getElem?_eq_some_iff.mp hi).1
 have cne:=I.cne
 have tracked:∀ {a:Addr} {h':Heap},(∃ o,s.heap.get? a=some o /\ H a=none)->Heap.SameBut a s.heap h'->HOk X.prog X.w H h':=fun {a h'} ha hs b ob e=>by
  obtain ⟨_,_,hfree⟩:=ha
  refine (I.hok b ob e).xy (fun c w' hc q=>(hs.2 c ?_).trans q) (fun _ q=>q) (fun _ _ q=>q) fun _ _ q=>q
  rintro rfl
  rcases hc with rfl | hc
  . rw [hfree] at e;cases e
  . rw [hfree] at hc;cases hc
 rcases hx with hk | hk
 . refine wpAny_storeName_local hk hn (fun h' hn' hs=>?_) hcls
   obtain ⟨oL,_,_,hoL,_⟩:=id hn
   refine h _ ⟨I.ok,I.os,I.bare,⟨fun b o e n hb hx=>?_,fun b o e n hb hx=>?_,I.base.free,fun b o e hx=>?_,I.base.wL,I.base.vt,I.base.uH⟩,⟨_,hn',fun j y v' e1 e2 e3=>?_⟩,fun y c e=>?_,I.free,I.kR,fun p hp=>?_,tracked ⟨oL,hoL,I.free⟩ hs,by simpa using I.len⟩ ⟨_,hs,.inl rfl⟩
   . exact (hs.2 b (Nat.ne_of_lt (Nat.lt_of_lt_of_le (Heap.lt_size e) I.ok.above))).trans (I.base.keep b o e n hb hx)
   . obtain ⟨sl,e1⟩:=I.base.slot b o e n hb hx
     exact ⟨sl,(hs.2 b (Nat.ne_of_lt (Nat.lt_of_lt_of_le (Heap.lt_size e) I.ok.above))).trans e1⟩
   . obtain ⟨o',e1⟩:=I.base.there b o e hx
     exact ⟨o',(hs.2 b (Nat.ne_of_lt (Nat.lt_of_lt_of_le (Heap.lt_size e) I.ok.above))).trans e1⟩
   . by_cases hj:j=i
     . subst hj
       rw [hi] at e1;cases e1
       rw [List.getElem?_set_self hiσ] at e2
       cases e2
       exact ⟨u,r,.inl ⟨hk,by simp⟩⟩
     . rw [List.getElem?_set_ne (Ne.symm hj)] at e2
       obtain ⟨u',r',q⟩:=hl j y v' e1 e2 e3
       refine ⟨u',r',?_⟩
       rcases q with ⟨k,e⟩ | ⟨k,c,e,z⟩
       . refine .inl ⟨k,?_⟩
         have:y ≠ x:=fun e=>hj (uP hN e1 (e ▸ hi))
         simp [this,e]
       . exact .inr ⟨k,c,e,z.sameBut hs (cne y c e)⟩
   . obtain ⟨w',z⟩:=I.cell y c e
     exact ⟨w',z.sameBut hs (cne y c e)⟩
   . obtain ⟨e,n,ne,nf,d⟩:=I.pin p hp
     exact ⟨(hs.2 p.1 ne).trans e,n,ne,nf,d⟩
 . have hfn:X.fn x=true:=by
    rcases hf with z | z
    . exact z
    . rw [z] at hk;cases hk
   obtain ⟨c,hc⟩:=I.ok.has x (.inl hk)
   obtain ⟨w',z⟩:=I.cell x c hc
   refine wpAny_storeName_cell I.ok.kind hk hc z (fun h' hc' hs=>?_)
   obtain ⟨oc,hoc,hocd⟩:=id z
   refine h { s with heap:=h' } ⟨I.ok,I.os,I.bare,⟨fun b o e n hb hx=>?_,fun b o e n hb hx=>?_,I.base.free,fun b o e hx=>?_,I.base.wL,I.base.vt,I.base.uH⟩,⟨m,hn.sameBut hs (Ne.symm (cne x c hc)),fun j y v' e1 e2 e3=>?_⟩,fun y c' e=>?_,I.free,I.kR,fun p hp=>?_,tracked ⟨oc,hoc,I.kR x c hc⟩ hs,by simpa using I.len⟩ ⟨c,hs,.inr hc⟩
   . exact (hs.2 b (Nat.ne_of_lt (Nat.lt_of_lt_of_le (Heap.lt_size e) (I.ok.cab x c hfn hc)))).trans (I.base.keep b o e n hb hx)
   . obtain ⟨sl,e1⟩:=I.base.slot b o e n hb hx
     exact ⟨sl,(hs.2 b (Nat.ne_of_lt (Nat.lt_of_lt_of_le (Heap.lt_size e) (I.ok.cab x c hfn hc)))).trans e1⟩
   . obtain ⟨o',e1⟩:=I.base.there b o e hx
     exact ⟨o',(hs.2 b (Nat.ne_of_lt (Nat.lt_of_lt_of_le (Heap.lt_size e) (I.ok.cab x c hfn hc)))).trans e1⟩
   . by_cases hj:j=i
     . subst hj
       rw [hi] at e1;cases e1
       rw [List.getElem?_set_self hiσ] at e2
       cases e2
       exact ⟨u,r,.inr ⟨.inl hk,c,hc,hc'⟩⟩
     . rw [List.getElem?_set_ne (Ne.symm hj)] at e2
       obtain ⟨u',r',q⟩:=hl j y v' e1 e2 e3
       refine ⟨u',r',?_⟩
       rcases q with q | ⟨k,c',e,z'⟩
       . exact .inl q
       . refine .inr ⟨k,c',e,z'.sameBut hs ?_⟩
         rintro rfl
         exact hj (uP hN e1 (I.ok.inj _ _ _ e hc ▸ hi))
   . by_cases hcc:c'=c
     . subst hcc;exact ⟨_,hc'⟩
     . obtain ⟨w2,z2⟩:=I.cell y c' e
       exact ⟨w2,z2.sameBut hs hcc⟩
   . obtain ⟨e,n,ne,nf,d⟩:=I.pin p hp
     refine ⟨(hs.2 p.1 ?_).trans e,n,ne,nf,d⟩
     intro q
     rw [q,hoc] at e
     have q':oc=p.2:=Option.some.inj e
     exact d w' (by rw [<- q'];exact hocd)
theorem rK {M : Model} {A : Around} {E : Value -> Shared -> Prop} {i : Nat} {x : Str} {v : V} {u : Value} {Q : Unit -> Shared -> Prop} (I : Inv X pins σ H s) (hN : X.N.Nodup) (hi : X.N[i]? = some x) (hx : Loc X.env.scope x) (r : RelV v u)
    (h:∀ s',Inv X pins (σ.set i (some v)) H s'->Q () s') (hf:X.fn x=true \/ X.env.scope.names.lookup x=some .local:=by first | exact .inl rfl | exact .inr rfl | assumption):wpAny M A (storeName X.env x u) Q E s :=
 CA I hN hi hx r (fun s' I' _=>h s' I') hf
theorem Inv.yM {s' : Shared} {ch : List Addr} (I : Inv X pins σ H s) (ho : s'.os = s.os) (u : Un (frs X.stack) ch H H' s.heap s'.heap) (hok : HOk X.prog X.w H' s'.heap) (hg : GB s.gens s'.gens)
    (hch:∀ b ∈ ch,(b ∈ X.ex \/ X.s_0.heap.objs.size <= b) /\ b ≠ X.env.locals /\ (∀ x c,X.env.cells.lookup x=some c->c ≠ b) /\ ∀ p ∈ X.pn ++ pins,p.1 ≠ b):Inv X pins σ H' s':=by
 obtain ⟨h',g',d',t',o'⟩:=s'
 have e:o'=s.os:=ho
 subst e
 exact I.call (g':=g') (t':=t') (d':=d') u hok hg hch
end
abbrev XK:=Value->Option Addr->Hp->Prop
abbrev St:=List (Option V)
abbrev VK:=V->Hp->Prop
abbrev TE:=St->Hp->VK->Prop
abbrev TT:=St->Hp->(Bool->Hp->Prop)->Prop
abbrev TA:=St->Hp->(List V->Hp->Prop)->Prop
structure Ends where
 nx:St->Hp->Prop
 rt:VK
 bk:St->Hp->Prop:=fun _ _=>False
 ct:St->Hp->Prop:=fun _ _=>False
abbrev TS:=Ends->St->Hp->Prop
def EP(X:Cx)(pins:List (Addr × Obj))(σ:St)(Q:VK)(u:Value)(s':Shared):Prop:=∃ v H',Inv X pins σ H' s' /\ RelV v u /\ Q v H'
def TP(X:Cx)(pins:List (Addr × Obj))(σ:St)(Q:Bool->Hp->Prop)(b:Bool)(s':Shared):Prop:=∃ H',Inv X pins σ H' s' /\ Q b H'
def AP(X:Cx)(pins:List (Addr × Obj))(σ:St)(Q:List V->Hp->Prop)(us:List Value)(s':Shared):Prop:=∃ vs H',Inv X pins σ H' s' /\ Vals vs us /\ Q vs H'
def SP(X:Cx)(pins:List (Addr × Obj))(D:Ends)(f:Flow)(s':Shared):Prop :=
 match f with
 | .next=>∃ σ' H',Inv X pins σ' H' s' /\ D.nx σ' H'
 | .brk=>∃ σ' H',Inv X pins σ' H' s' /\ D.bk σ' H'
 | .cont=>∃ σ' H',Inv X pins σ' H' s' /\ D.ct σ' H'
 | .ret u=>∃ v σ' H',Inv X pins σ' H' s' /\ RelV v u /\ D.rt v H'
def PE(X:Cx)(e:Expr)(t:TE):Prop :=
 ∀ (pins:List (Addr × Obj)) (s:Shared) (σ:St) (H:Hp) (Q:VK),Inv X pins σ H s->t σ H Q->wpAny (model X.prog X.w) X.A (eval e X.env) (EP X pins σ Q) X.xe s
def PT(X:Cx)(e:Expr)(t:TT):Prop :=
 ∀ (pins:List (Addr × Obj)) (s:Shared) (σ:St) (H:Hp) (Q:Bool->Hp->Prop),Inv X pins σ H s->t σ H Q->wpAny (model X.prog X.w) X.A (isTrue e X.env (eval e X.env)) (TP X pins σ Q) X.xe s
def PW(X:Cx)(e:Expr)(t:TT):Prop :=
 ∀ (whole:Sem Value) (pins:List (Addr × Obj)) (s:Shared) (σ:St) (H:Hp) (Q:Bool->Hp->Prop),Inv X pins σ H s->t σ H Q->wpAny (model X.prog X.w) X.A (isTrue e X.env whole) (TP X pins σ Q) X.xe s
theorem PW.pt{X:Cx}{e:Expr}{t:TT}(h:PW X e t):PT X e t:=h _
def PA(X:Cx)(es:List Expr)(t:TA):Prop :=
 ∀ (pos:Pos) (pins:List (Addr × Obj)) (s:Shared) (σ:St) (H:Hp) (Q:List V->Hp->Prop),Inv X pins σ H s->t σ H Q->wpAny (model X.prog X.w) X.A (spliced (backTo pos (starEach es X.env))) (AP X pins σ Q) X.xe s
def PS(X:Cx)(st:Stmt)(t:TS):Prop :=
 ∀ (pins:List (Addr × Obj)) (s:Shared) (σ:St) (H:Hp) (D:Ends),Inv X pins σ H s->t D σ H->wpAny (model X.prog X.w) X.A (exec st X.env) (SP X pins D) X.xe s
def PSs(X:Cx)(st:List Stmt)(t:TS):Prop :=
 ∀ (pins:List (Addr × Obj)) (s:Shared) (σ:St) (H:Hp) (D:Ends),Inv X pins σ H s->t D σ H->wpAny (model X.prog X.w) X.A (execs st X.env) (SP X pins D) X.xe s
theorem thn{α:Type}{t:Sem α}{Q Q':α->Shared->Prop}{M:Model}{A:Around}{E:Value->Shared->Prop}{s:Shared}(h:wpAny M A t Q E s)(hQ:∀ a s,Q a s->Q' a s):wpAny M A t Q' E s:=wpAny_mono h hQ fun _ _ x=>x
end L2
namespace L2
open PySem PySem.Spec PyProof.Rows
section
variable {X:Cx}
theorem bin {a b : Expr} {ta tb : TE} (ha : PE X a ta) (hb : PE X b tb) {pins : List (Addr × Obj)} {s : Shared} {σ : St} {H : Hp} {R : V -> V -> Hp -> Prop} (I : Inv X pins σ H s) (h : ta σ H fun x H1 => tb σ H1 fun y H2 => R x y H2)
    {α:Type} {Q:α->Shared->Prop} {f:Value->Value->Sem α}
    (hf:∀ v u s2 x y H2,Inv X pins σ H2 s2->RelV x v->RelV y u->R x y H2->wpAny (model X.prog X.w) X.A (f v u) Q X.xe s2) :
    wpAny (model X.prog X.w) X.A (eval a X.env) (fun v s₁=>wpAny (model X.prog X.w) X.A (eval b X.env) (fun u s₂=>wpAny (model X.prog X.w) X.A (f v u) Q X.xe s₂) X.xe s₁) X.xe s:=by
 refine thn (ha pins s σ H _ I h) fun v s1 ⟨x,H1,I1,r1,q1⟩=>?_
 refine thn (hb pins s1 σ H1 _ I1 q1) fun u s2 ⟨y,H2,I2,r2,q2⟩=>?_
 exact hf v u s2 x y H2 I2 r1 r2 q2
def Tq(i:Nat):TE:=fun σ H Q=>∃ v,σ[i]? = some (some v) /\ Q v H
def tC(v:V):TE:=fun _ H Q=>Q v H
theorem PR{i:Nat}{x:Str}{pos:Pos}(hN:X.N[i]? = some x)(hv:Vis X.env.scope x) (hd:(x == ("__debug__" : Str))=false:=by decide) (hcd:(x == ("__classdict__" : Str))=false:=by decide):PE X (.Name x pos) (Tq i):=by
 intro pins s σ H Q I h
 obtain ⟨v,e,h⟩:=h
 obtain ⟨m,hn,hl⟩:=I.loc
 obtain ⟨u,r,l⟩:=hl i x v hN e hv
 have fin:EP X pins σ Q u s:=⟨v,H,I,r,h⟩
 rcases l with ⟨hk,hm⟩ | ⟨hk,c,hc,hcell⟩
 . exact wpAny_Name (wpAny_loadName_local I.ok.kind hk hn hm fin) hd
 . rcases hk with hk | hk
   . exact wpAny_Name (wpAny_loadName_cell I.ok.kind hk hc hcell fin) hd
   . exact wpAny_Name (wpAny_loadName_free I.ok.kind hk hc hcell fin hcd) hd
theorem PU{i j pos}:PE X (.Constant (.int i) j pos) (tC (.int i)):=fun _ _ _ H _ I h=>wpAny_Constant_int ⟨.int i,H,I.tok _,⟨_,rfl⟩,h⟩
theorem RG{b j pos}:PE X (.Constant (.bool b) j pos) (tC (.bl b)):=fun _ _ _ H _ I h=>Constant_bool ⟨.bl b,H,I,rfl,h⟩
theorem PV{j pos}:PE X (.Constant .none j pos) (tC .non):=fun _ _ _ H _ I h=>Constant_none ⟨.non,H,I,rfl,h⟩
theorem Ll{x j pos}:PE X (.Constant (.str x) j pos) (tC (.str x)):=fun _ _ _ H _ I h=>Calls.Constant_str ⟨.str x,H,I.tok _,⟨_,rfl⟩,h⟩
def Gl(X:Cx)(x:Str):Prop:=X.env.kindOf x=some .globalImplicit
theorem si {E : Value -> Shared -> Prop} {pins : List (Addr × Obj)} {s : Shared} {σ : St} {H : Hp} {x : Str} {u : Value} {pos : Pos} {Q : Value -> Shared -> Prop} (I : Inv X pins σ H s) (hg : Gl X x) (hm : X.mg x = some u) (h : Q u s)
    (hd:(x == ("__debug__" : Str))=false:=by decide):wpAny (model X.prog X.w) X.A (eval (.Name x pos) X.env) Q E s :=
 Calls.Name_function_global I.ok.kind hg (Calls.loadGlobal_global (by rw [I.ok.glob];exact I.mod.glob.keeps I.bk) hm h) hd
theorem jB {E : Value -> Shared -> Prop} {pins : List (Addr × Obj)} {s : Shared} {σ : St} {H : Hp} {x : Str} {u : Value} {pos : Pos} {Q : Value -> Shared -> Prop} (I : Inv X pins σ H s) (hg : Gl X x) (hm : X.mg x = none) (hv : bootBuiltins x = some u) (h : Q u s)
    (hn:x ≠ "__name__" := by decide) (hd:(x == ("__debug__" : Str))=false:=by decide):wpAny (model X.prog X.w) X.A (eval (.Name x pos) X.env) Q E s:=by
 obtain ⟨mb,h1,h2⟩:=I.mod.blt
 exact Calls.Name_function_global I.ok.kind hg (Calls.loadGlobal_builtin (by rw [I.ok.glob];exact I.mod.glob.keeps I.bk) hm (by rw [I.ok.blt];exact h1.keeps I.bk) ((h2 x hn).trans hv) h) hd
theorem Nn{x:Str}{v:V}{u:Value}{pos:Pos}(hg:Gl X x)(hm:X.mg x=some u)(r:RelV v u) (hd:(x == ("__debug__" : Str))=false:=by decide):PE X (.Name x pos) (tC v) :=
 fun _ _ _ H _ I h=>si I hg hm ⟨v,H,I,r,h⟩ hd
theorem Np{x:Str}{v:V}{u:Value}{pos:Pos}(hg:Gl X x)(hm:X.mg x=none)(hv:bootBuiltins x=some u)(r:RelV v u) (hn:x ≠ "__name__" := by decide) (hd:(x == ("__debug__" : Str))=false:=by decide):PE X (.Name x pos) (tC v) :=
 fun _ _ _ H _ I h=>jB I hg hm hv ⟨v,H,I,r,h⟩ hn hd
variable {a b:Expr} {ta tb:TE} {pos:Pos}
variable {tA tB':TT} {rest:List Expr}
def RH(t u:TT):TT:=fun σ H Q=>t σ H fun c H1=>if c=true then u σ H1 Q else Q false H1
def tOr(t u:TT):TT:=fun σ H Q=>t σ H fun c H1=>if c=true then Q true H1 else u σ H1 Q
def Tr(t:TT):TT:=fun σ H Q=>t σ H fun c H1=>Q (!c) H1
theorem pw_and1(ha:PT X a tA):PW X (.BoolOp .And [a] pos) tA:=by
 intro wh pins s σ H Q I h
 refine isTrue_and (thn (ha pins s σ H Q I h) fun c s1 e=>?_)
 cases c with
 | true=>exact isTrue_and_nil e
 | false=>exact e
theorem pw_or1(ha:PT X a tA):PW X (.BoolOp .Or [a] pos) tA:=by
 intro wh pins s σ H Q I h
 refine isTrue_or (thn (ha pins s σ H Q I h) fun c s1 e=>?_)
 cases c with
 | false=>exact isTrue_or_nil e
 | true=>exact e
theorem pw_and(ha:PT X a tA)(hb:PW X (.BoolOp .And (b :: rest) pos) tB'):PW X (.BoolOp .And (a :: b :: rest) pos) (RH tA tB'):=by
 intro wh pins s σ H Q I h
 refine isTrue_and (thn (ha pins s σ H _ I h) fun c s1 ⟨H1,I1,q1⟩=>?_)
 cases c with
 | true=>exact hb wh pins s1 σ H1 Q I1 q1
 | false=>exact ⟨H1,I1,q1⟩
theorem pw_or(ha:PT X a tA)(hb:PW X (.BoolOp .Or (b :: rest) pos) tB'):PW X (.BoolOp .Or (a :: b :: rest) pos) (tOr tA tB'):=by
 intro wh pins s σ H Q I h
 refine isTrue_or (thn (ha pins s σ H _ I h) fun c s1 ⟨H1,I1,q1⟩=>?_)
 cases c with
 | true=>exact ⟨H1,I1,q1⟩
 | false=>exact hb wh pins s1 σ H1 Q I1 q1
theorem PX(ha:PT X a tA):PT X (.UnaryOp .Not a pos) (Tr tA):=by
 intro pins s σ H Q I h
 exact isTrue_not (ha pins s σ H (fun c H1=>Q (!c) H1) I h)
def RI(ta tb:TE):TE:=fun σ H Q=>ta σ H fun x H1=>∃ c,x = .bl c /\ if c=true then tb σ H1 Q else Q (.bl false) H1
def Ts(ta tb:TE):TE:=fun σ H Q=>ta σ H fun x H1=>∃ c,x = .bl c /\ if c=true then Q (.bl true) H1 else tb σ H1 Q
def RJ(ta:TE):TE:=fun σ H Q=>ta σ H fun x H1=>∃ c,x = .bl c /\ Q (.bl (!c)) H1
theorem PY{op}{t:TE}(h:PE X a t):PE X (.BoolOp op [a] pos) t:=fun pins s σ H Q I hw=>BoolOp_one (h pins s σ H Q I hw)
theorem PZ(ha:PE X a ta)(hb:PE X (.BoolOp .And (b :: rest) pos) tb):PE X (.BoolOp .And (a :: b :: rest) pos) (RI ta tb):=by
 intro pins s σ H Q I h
 refine BoolOp_and (thn (ha pins s σ H _ I h) fun v s1 ⟨x,H1,I1,r1,q1⟩=>?_)
 obtain ⟨c,rfl,q1⟩:=q1
 cases r1
 refine wpAny_truthy_bool ?_
 cases c with
 | true=>exact hb pins s1 σ H1 Q I1 q1
 | false=>exact ⟨.bl false,H1,I1,rfl,q1⟩
theorem RK(ha:PE X a ta)(hb:PE X (.BoolOp .Or (b :: rest) pos) tb):PE X (.BoolOp .Or (a :: b :: rest) pos) (Ts ta tb):=by
 intro pins s σ H Q I h
 refine BoolOp_or (thn (ha pins s σ H _ I h) fun v s1 ⟨x,H1,I1,r1,q1⟩=>?_)
 obtain ⟨c,rfl,q1⟩:=q1
 cases r1
 refine wpAny_truthy_bool ?_
 cases c with
 | false=>exact hb pins s1 σ H1 Q I1 q1
 | true=>exact ⟨.bl true,H1,I1,rfl,q1⟩
theorem P0(ha:PE X a ta):PE X (.UnaryOp .Not a pos) (RJ ta):=by
 intro pins s σ H Q I h
 refine UnaryOp_ (thn (ha pins s σ H _ I h) fun v s1 ⟨x,H1,I1,r1,q1⟩=>?_)
 obtain ⟨c,rfl,q1⟩:=q1
 cases r1
 exact not_of (wpAny_truthy_bool ⟨.bl (!c),H1,I1,rfl,q1⟩)
def tIf(t:TT)(ta tb:TE):TE:=fun σ H Q=>t σ H fun c H1=>if c=true then ta σ H1 Q else tb σ H1 Q
theorem Lm{c:Expr}(hc:PT X c tA)(ha:PE X a ta)(hb:PE X b tb):PE X (.IfExp c a b pos) (tIf tA ta tb):=by
 intro pins s σ H Q I h
 refine wpAny_IfExp (thn (hc pins s σ H _ I h) fun d s1 ⟨H1,I1,q1⟩=>?_)
 cases d with
 | true=>exact ha pins s1 σ H1 Q I1 q1
 | false=>exact hb pins s1 σ H1 Q I1 q1
end
end L2
namespace L2
open PySem PySem.Spec PyProof.Rows
def SqL(K:PySem.W.Frag)(H:Hp)(a:Addr)(xs:List V):Prop :=
 Rd H a (.lst xs) \/
  ∃ (o:Obj) (its:Array Value) (n:Nat),K.lookup a=some o /\ o.cls = .type "list" /\ o.dict=none /\ o.data = .seq its n /\ its.size <= sizeLine /\ Vals xs its.toList
def SqT(K:PySem.W.Frag)(H:Hp)(a:Addr)(xs:List V):Prop :=
 Rd H a (.tup xs) \/
  ∃ (o:Obj) (its:Array Value) (n:Nat),K.lookup a=some o /\ o.cls = .type "tuple" /\ o.data = .seq its n /\ its.size <= sizeLine /\ Vals xs its.toList
def Tt:Value->Option V
 | .none=>some .non
 | .bool b=>some (.bl b)
 | .int i _=>some (.int i)
 | .str x _=>some (.str x)
 | .bytes b _=>some (.byt b)
 | .float b _=>some (.flt b)
 | .ref a=>some (.ref a)
 | .type n=>some (.ty n)
 | _=>none
theorem RelV.abs{x:V}{u:Value}(r:RelV x u):Tt u=some x:=by
 cases x with
 | non=>cases r;rfl
 | bl _=>cases r;rfl
 | int _=>obtain ⟨t,rfl⟩:=r;rfl
 | str _=>obtain ⟨t,rfl⟩:=r;rfl
 | byt _=>obtain ⟨t,rfl⟩:=r;rfl
 | flt _=>obtain ⟨t,rfl⟩:=r;rfl
 | ref _=>cases r;rfl
 | ty _=>cases r;rfl
theorem RelV.inj{x y:V}{u:Value}(r:RelV x u)(q:RelV y u):x=y:=Option.some.inj (r.abs.symm.trans q.abs)
theorem Vals.inj:∀ {xs ys:List V} {us:List Value},Vals xs us->Vals ys us->xs=ys
 | _,_,_,.nil,.nil=>rfl
 | _,_,_,.cons r t,.cons r' t'=>by rw [r.inj r',Vals.inj t t']
section
variable {X:Cx} {pins:List (Addr × Obj)} {σ:St} {H:Hp} {s:Shared} {a:Addr} {xs ys:List V}
theorem SqL.of{K:PySem.W.Frag}(h:H a=some (.lst xs)):SqL K H a xs:=.inl (.inl h)
theorem SqT.of{K:PySem.W.Frag}(h:H a=some (.tup xs)):SqT K H a xs:=.inl (.inl h)
theorem Inv.list(I:Inv X pins σ H s)(h:SqL X.K H a xs):∃ its:List Value,Vals xs its /\ PlainL s.heap a its.toArray /\ xs.length <= sizeLine:=by
 rcases h with h | ⟨o,its,n,hk,hc,hd,hs,hz,r⟩
 . obtain ⟨z,its,n,r,e⟩:=h.ok I.hok
   exact ⟨its,r,⟨_,n,e,rfl,rfl,rfl⟩,z⟩
 . refine ⟨its.toList,r,⟨o,n,I.kIn a o hk,hc,hd,by simpa using hs⟩,?_⟩
   have e:=r.length
   simp only [Array.length_toList] at e
   omega
theorem Inv.tuple(I:Inv X pins σ H s)(h:SqT X.K H a xs):∃ its:List Value,Vals xs its /\ IsTup s.heap a its.toArray /\ xs.length <= sizeLine:=by
 rcases h with h | ⟨o,its,n,hk,hc,hs,hz,r⟩
 . obtain ⟨z,its,r,p⟩:=h.ok I.hok
   exact ⟨its,r,p.tup,z⟩
 . refine ⟨its.toList,r,⟨o,I.kIn a o hk,hc,n,by simpa using hs⟩,?_⟩
   have e:=r.length
   simp only [Array.length_toList] at e
   omega
theorem Inv.FN(I:Inv X pins σ H s)(h:SqL X.K H a xs)(h':SqL X.K H a ys):xs=ys:=by
 obtain ⟨its,r,⟨o,n,e,_,_,d⟩,_⟩:=I.list h
 obtain ⟨its',r',⟨o',n',e',_,_,d'⟩,_⟩:=I.list h'
 rw [e] at e';cases e'
 rw [d] at d'
 injection d' with d1 _
 have:its=its':=by simpa using congrArg Array.toList d1
 subst this
 exact r.inj r'
theorem Inv.CB(I:Inv X pins σ H s)(h:SqT X.K H a xs)(h':SqT X.K H a ys):xs=ys:=by
 obtain ⟨its,r,⟨o,e,_,n,d⟩,_⟩:=I.tuple h
 obtain ⟨its',r',⟨o',e',_,n',d'⟩,_⟩:=I.tuple h'
 rw [e] at e';cases e'
 rw [d] at d'
 injection d' with d1 _
 have:its=its':=by simpa using congrArg Array.toList d1
 subst this
 exact r.inj r'
end
abbrev Cx.jY(X:Cx)(E:Value->Shared->Prop):Cx:={ X with xe:=E }
abbrev Cx.nox(X:Cx):Cx:=X.jY fun _ _=>False
theorem Cx.Ok.jY{X:Cx}(ok:X.Ok)(E:Value->Shared->Prop):(X.jY E).Ok :=
 ⟨ok.mod,ok.kind,ok.glob,ok.blt,ok.above,ok.inj,ok.has,ok.cab,ok.hd,ok.frames,ok.stk,ok.exf,ok.bs,ok.bsz,ok.Gz,ok.GA,ok.xB,ok.frf,ok.tabs⟩
theorem Cx.Ok.iX{X:Cx}{E:Value->Shared->Prop}(ok:(X.jY E).Ok):X.Ok :=
 ⟨ok.mod,ok.kind,ok.glob,ok.blt,ok.above,ok.inj,ok.has,ok.cab,ok.hd,ok.frames,ok.stk,ok.exf,ok.bs,ok.bsz,ok.Gz,ok.GA,ok.xB,ok.frf,ok.tabs⟩
section
variable {X:Cx} {pins:List (Addr × Obj)} {σ:St} {H:Hp} {s:Shared} {E:Value->Shared->Prop}
theorem Inv.jY(I:Inv X pins σ H s)(E:Value->Shared->Prop):Inv (X.jY E) pins σ H s:=⟨I.ok.jY E,I.os,I.bare,I.base,I.loc,I.cell,I.free,I.kR,I.pin,I.hok,I.len⟩
theorem Inv.iX(I:Inv (X.jY E) pins σ H s):Inv X pins σ H s:=⟨I.ok.iX,I.os,I.bare,I.base,I.loc,I.cell,I.free,I.kR,I.pin,I.hok,I.len⟩
theorem SP.iX{D:Ends}{f:Flow}{s':Shared}(h:SP (X.jY E) pins D f s'):SP X pins D f s':=by
 cases f with
 | next=>obtain ⟨σ',H',I,q⟩:=h;exact ⟨σ',H',I.iX,q⟩
 | brk=>obtain ⟨σ',H',I,q⟩:=h;exact ⟨σ',H',I.iX,q⟩
 | cont=>obtain ⟨σ',H',I,q⟩:=h;exact ⟨σ',H',I.iX,q⟩
 | ret u=>obtain ⟨v,σ',H',I,r,q⟩:=h;exact ⟨v,σ',H',I.iX,r,q⟩
theorem PE.nox{e:Expr}{t:TE}(h:PE X.nox e t):PE X e t:=fun pins s σ H Q I hw =>
 wpAny_mono (h pins s σ H Q (I.jY _) hw) (fun _ _ ⟨v,H',I',r,q⟩=>⟨v,H',I'.iX,r,q⟩) fun _ _ z=>False.elim z
theorem PT.nox{e:Expr}{t:TT}(h:PT X.nox e t):PT X e t:=fun pins s σ H Q I hw =>
 wpAny_mono (h pins s σ H Q (I.jY _) hw) (fun _ _ ⟨H',I',q⟩=>⟨H',I'.iX,q⟩) fun _ _ z=>False.elim z
theorem PSs.nox{st:List Stmt}{t:TS}(h:PSs X.nox st t):PSs X st t:=fun pins s σ H D I hw =>
 wpAny_mono (h pins s σ H D (I.jY _) hw) (fun _ _ q=>q.iX) fun _ _ z=>False.elim z
end
section
variable {X:Cx} {st:Stmt} {rest:List Stmt} {t u:TS} {e:Expr} {te:TE} {pos:Pos}
def RL:TS:=fun D σ H=>D.nx σ H
def RM(t u:TS):TS:=fun D σ H=>t { D with nx:=u D } σ H
theorem Nq:PSs X [] RL:=fun _ _ σ H _ I h=>wpAny_execs_nil ⟨σ,H,I,h⟩
theorem Ln(h1:PS X st t)(h2:PSs X rest u):PSs X (st :: rest) (RM t u):=by
 intro pins s σ H D I h
 refine wpAny_execs_cons (thn (h1 pins s σ H { D with nx:=u D } I h) fun f s1 q=>?_)
 cases f with
 | next =>
  obtain ⟨σ',H',I',q⟩:=q
  exact h2 pins s1 σ' H' D I' q
 | ret v=>exact q
 | brk=>exact q
 | cont=>exact q
theorem Nr(h1:PS X st t):PSs X [st] t:=by
 intro pins s σ H D I h
 refine wpAny_execs_cons (thn (h1 pins s σ H D I h) fun f s1 q=>?_)
 cases f with
 | next=>exact wpAny_execs_nil q
 | ret v=>exact q
 | brk=>exact q
 | cont=>exact q
theorem Inv.quiet{pins:List (Addr × Obj)}{σ:St}{H:Hp}{s:Shared}(I:Inv X pins σ H s):interactive X.env=false:=by simp [interactive,I.ok.kind]
def RN(te:TE):TS:=fun D σ H=>te σ H fun _ H1=>D.nx σ H1
theorem Nt(he:PE X e te)(hs:swapsWith e none pos.line X.env=pure false:=by rfl):PS X (.Expr e pos) (RN te):=by
 intro pins s σ H D I h
 exact wpAny_Expr_any (thn (he pins s σ H _ I h) fun v s1 ⟨x,H1,I1,r1,q1⟩=>⟨σ,H1,I1,q1⟩) I.quiet hs
def Tu(te:TE):TS:=fun D σ H=>te σ H D.rt
theorem P5(he:PE X e te):PS X (.Return (some e) pos) (Tu te):=by
 intro pins s σ H D I h
 exact wpAny_Return_some (thn (he pins s σ H _ I h) fun v s1 ⟨x,H1,I1,r1,q1⟩=>⟨x,σ,H1,I1,r1,q1⟩)
def Tv(c:TT)(t u:TS):TS:=fun D σ H=>c σ H fun b H1=>if b=true then t D σ H1 else u D σ H1
theorem RO{c:Expr}{a b:List Stmt}{tc:TT}(hc:PT X c tc)(ha:PSs X a t)(hb:PSs X b u):PS X (.If c a b pos) (Tv tc t u):=by
 intro pins s σ H D I h
 refine wpAny_If (thn (hc pins s σ H _ I h) fun d s1 ⟨H1,I1,q1⟩=>?_)
 cases d with
 | true=>exact ha pins s1 σ H1 D I1 q1
 | false=>exact hb pins s1 σ H1 D I1 q1
end
abbrev TG:=V->St->Hp->(St->Hp->Prop)->Prop
abbrev TGs:=List V->St->Hp->(St->Hp->Prop)->Prop
def PG(X:Cx)(target:Expr)(t:TG):Prop :=
 ∀ (pins:List (Addr × Obj)) (s:Shared) (σ:St) (H:Hp) (v:V) (u:Value) (Q:St->Hp->Prop),Inv X pins σ H s->RelV v u->t v σ H Q ->
  wpAny (model X.prog X.w) X.A (assign target X.env u) (fun _ s'=>∃ σ' H',Inv X pins σ' H' s' /\ Q σ' H') X.xe s
def PGs(X:Cx)(ts:List Expr)(t:TGs):Prop :=
 ∀ (pins:List (Addr × Obj)) (s:Shared) (σ:St) (H:Hp) (vs:List V) (us:List Value) (Q:St->Hp->Prop),Inv X pins σ H s->Vals vs us->t vs σ H Q ->
  wpAny (model X.prog X.w) X.A (assignInOrder ((assignEach ts X.env).map (·.2)) us) (fun _ s'=>∃ σ' H',Inv X pins σ' H' s' /\ Q σ' H') X.xe s
abbrev P6:=V->V->V->Hp->(Hp->Prop)->Prop
def RP(X:Cx)(t:P6):Prop :=
 ∀ (pins:List (Addr × Obj)) (s:Shared) (σ:St) (H:Hp) (o i v:V) (ov iv u:Value) (Q:Hp->Prop),Inv X pins σ H s->RelV o ov->RelV i iv->RelV v u->t o i v H Q ->
  wpAny (model X.prog X.w) X.A (setItem ov iv u) (fun _ s'=>∃ H',Inv X pins σ H' s' /\ Q H') X.xe s
section
variable {X:Cx} {pos:Pos}
def FO(i:Nat):TG:=fun v σ H Q=>Q (σ.set i (some v)) H
theorem Nu{i:Nat}{x:Str}(hN:X.N.Nodup)(hi:X.N[i]? = some x)(hx:Loc X.env.scope x)(hf:X.fn x=true \/ X.env.scope.names.lookup x=some .local:=by first | exact .inl rfl | exact .inr rfl | assumption):PG X (.Name x pos) (FO i):=by
 intro pins s σ H v u Q I r h
 exact wpAny_assign_Name (rK I hN hi hx r (fun s' I'=>⟨_,H,I',h⟩) hf)
def Tw:TGs:=fun vs σ H Q=>vs = [] /\ Q σ H
def RQ(t:TG)(u:TGs):TGs:=fun vs σ H Q=>∃ v r,vs=v :: r /\ t v σ H fun σ' H'=>u r σ' H' Q
theorem Nv:PGs X [] Tw:=by
 intro pins s σ H vs us Q I r h
 obtain ⟨e,h⟩:=h
 subst e
 cases r
 exact assignInOrder_nil ⟨σ,H,I,h⟩
theorem Lo {e : Expr} {es : List Expr} {t : TG} {u : TGs} (h1 : PG X e t) (h2 : PGs X es u)
    (hs:(assignEach (e :: es) X.env).map (·.2)=assign e X.env :: (assignEach es X.env).map (·.2):=by rfl):PGs X (e :: es) (RQ t u):=by
 intro pins s σ H vs us Q I r h
 obtain ⟨v,vr,e1,h⟩:=h
 subst e1
 cases r with
 | cons r rr =>
  rw [hs]
  refine assignInOrder_cons (thn (h1 pins s σ H _ _ _ I r h) fun _ s1 ⟨σ1,H1,I1,q1⟩=>?_)
  exact h2 pins s1 σ1 H1 _ _ Q I1 rr q1
def Tz(K:PySem.W.Frag)(n:Nat)(t:TGs):TG:=fun v σ H Q=>∃ a xs,v = .ref a /\ SqT K H a xs /\ xs.length=n /\ t xs σ H Q
theorem P7 {es : List Expr} {k : Nat} {t : TGs} {n : Nat} (hc : X.calm = true) (h : PGs X es t)
    (hn:(assignEach es X.env).length=n:=by rfl) (hst:(assignEach es X.env).findIdx? (·.1)=none:=by rfl):PG X (.Tuple es k pos) (Tz X.K n t):=by
 intro pins s σ H v u Q I r hw
 obtain ⟨a,xs,e1,hq,hl,hw⟩:=hw
 subst e1
 cases r
 obtain ⟨its,rv,ht,hz⟩:=I.tuple hq
 refine assign_Tuple_tuple (I.ok.hd hc) ht (by simp [hn,<- hl,rv.length]) hst fun h' hx=>?_
 have I1:Inv X pins σ H { s with heap:=h' }:=I.kept (t':=s.toks) fun b o e=>hx b o (Nat.ne_of_lt (Heap.lt_size e)) e
 exact h pins _ σ H xs _ Q I1 (by simpa using rv) hw
def uG(to ti:TE)(t:P6):TG:=fun v σ H Q=>to σ H fun o H1=>ti σ H1 fun i H2=>t o i v H2 fun H3=>Q σ H3
theorem P8 {o i : Expr} {to ti : TE} {t : P6} (ho : PE X o to) (hi : PE X i ti) (hs : RP X t)
    (ha:∀ v,assign (.Subscript o i pos) X.env v=(do
     let ov <- holding [v] (eval o X.env)
     let iv <- holding [v,ov] (eval i X.env)
     standAt pos
     holding [v,ov,iv] (setItem ov iv v)
     release [v,ov,iv] []):=by intro _;rfl):PG X (.Subscript o i pos) (uG to ti t):=by
 intro pins s σ H v u Q I r h
 rw [ha]
 refine wpAny_bind (wpAny_holding (thn (ho pins s σ H _ I h) fun ov s1 ⟨x,H1,I1,r1,q1⟩=>?_))
 refine wpAny_bind (wpAny_holding (thn (hi pins s1 σ H1 _ I1 q1) fun iv s2 ⟨y,H2,I2,r2,q2⟩=>?_))
 refine wpAny_bind (wpAny_standAt (wpAny_bind (wpAny_holding (thn (hs pins s2 σ H2 x y v ov iv u _ I2 r1 r2 r q2) fun _ s3 ⟨H3,I3,q3⟩=>?_))))
 exact wpAny_release ⟨σ,H3,I3,q3⟩
def Lp(te:TE)(g:TG):TS:=fun D σ H=>te σ H fun x H1=>g x σ H1 D.nx
theorem Lq {tg e : Expr} {te : TE} {g : TG} (he : PE X e te) (hg : PG X tg g) (hs : swapsWithSole [tg] e pos.line X.env = pure false := by rfl) (hw : swappedStores [tg] e X.env = pure none := by rfl)
    (h1:(assignEach [tg] X.env).map (·.2) = [assign tg X.env]:=by rfl):PS X (.Assign [tg] e pos) (Lp te g):=by
 intro pins s σ H D I h
 refine wpAny_Assign_stores (thn (he pins s σ H _ I h) fun v s1 ⟨x,H1,I1,r1,q1⟩=>?_) hs hw
 rw [h1]
 exact thn (hg pins s1 σ H1 x v _ I1 r1 q1) fun _ s2 q=>q
theorem P9 {i : Nat} {x : Str} {e : Expr} {te : TE} {pos' : Pos} (hN : X.N.Nodup) (hi : X.N[i]? = some x) (hx : Loc X.env.scope x) (he : PE X e te) (hs : swapsWith e (some (.Name x pos')) pos.line X.env = pure false := by rfl) (hf : X.fn x = true \/ X.env.scope.names.lookup x = some .local := by first | exact .inl rfl | exact .inr rfl | assumption) :
    PS X (.Assign [.Name x pos'] e pos) (Lp te (FO i)):=by
 intro pins s σ H D I h
 refine wpAny_Assign_Name (thn (he pins s σ H _ I h) fun v s1 ⟨y,H1,I1,r1,q1⟩=>?_) hs
 exact rK I1 hN hi hx r1 (fun s2 I2=>⟨_,H1,I2,q1⟩) hf
end
section
variable {X:Cx} {pos:Pos}
end
structure It where
 go:Nat->Hp->Prop
 yld:Nat->Hp->V->Hp->Prop
 stop:Nat->Hp->Prop
def mH(X:Cx)(pins:List (Addr × Obj))(H:Hp)(b:Addr):Prop :=
 H b=none /\ b ≠ X.env.locals /\ b ∉ X.fs /\ (b ∈ X.ex \/ X.s_0.heap.objs.size <= b) /\ (∀ x c,X.env.cells.lookup x=some c->c ≠ b) /\ ∀ p ∈ X.pn ++ pins,p.1 ≠ b
theorem Inv.JP{X:Cx}{pins:List (Addr × Obj)}{σ:St}{H H':Hp}{s:Shared}{b:Addr}(I:Inv X pins σ H s)(hb:s.heap.objs.size <= b)(hn:H' b=none):mH X pins H' b:=by
 refine ⟨hn,Nat.ne_of_gt (Nat.lt_of_lt_of_le I.lt hb),I.Ph hb,.inr (Nat.le_trans I.sz hb),fun x c e z=>?_,fun p hp z=>?_⟩
 . obtain ⟨v,q⟩:=I.cell x c e
   exact absurd (Nat.lt_of_lt_of_le q.lt (by rw [z];exact hb)) (Nat.lt_irrefl _)
 . exact absurd (Nat.lt_of_lt_of_le (Heap.lt_size (I.pin p hp).1) (by rw [z];exact hb)) (Nat.lt_irrefl _)
structure Turn (P:Program) (w:World) (K:PySem.W.Frag) (tg:Expr) (J:It) (fp:List Addr) (it:Addr) (tn:Nat->Heap->Prop):Prop where
 mem:it ∈ fp
 obj:∀ i h,tn i h->∀ b ∈ fp,∃ o,h.get? b=some o /\ ∀ v,o.data ≠ .cell v
 keep:∀ i h h',tn i h->(∀ b ∈ fp,∀ o,h.get? b=some o->h'.get? b=some o)->tn i h'
 item:∀ (X:Cx),X.prog=P->X.w=w->X.K=K->X.calm=true->∀ (i:Nat) (pins:List (Addr × Obj)) (s:Shared) (σ:St) (H:Hp) (E:Value->Shared->Prop),Inv X pins σ H s->(∀ b ∈ fp,mH X pins H b)->tn i s.heap->J.go i H ->
  wpAny (model P w) X.A (pyNext (.ref it)) (fun r s1=>∃ u,r=some u /\
   wpAny (model P w) X.A (letOwnedTupleGo tg (.ref it) u) (fun _ s2=>∃ x H',Inv X pins σ H' s2 /\ RelV x u /\ J.yld i H x H' /\ tn (i + 1) s2.heap /\ ∀ b ∈ fp,H' b=none) E s1) E s
 done:∀ (X:Cx),X.prog=P->X.w=w->X.K=K->X.calm=true->∀ (i:Nat) (pins:List (Addr × Obj)) (s:Shared) (σ:St) (H:Hp) (E:Value->Shared->Prop),Inv X pins σ H s->(∀ b ∈ fp,mH X pins H b)->tn i s.heap->J.stop i H ->
  wpAny (model P w) X.A (pyNext (.ref it)) (fun r s1=>r=none /\ Inv X pins σ H s1) E s
 self:∀ (A:Around) (i:Nat) (s:Shared) (Q:Value->Shared->Prop) (E:Value->Shared->Prop),tn i s.heap->Q (.ref it) s->wpAny (model P w) A (pyIter (.ref it)) Q E s
abbrev TI:=St->Hp->(It->Hp->Prop)->Prop
def PIE(X:Cx)(pins:List (Addr × Obj))(σ:St)(tg:Expr)(R:It->Hp->Prop)(itv:Value)(s2:Shared):Prop :=
 ∃ (it:Addr) (fp:List Addr) (tn:Nat->Heap->Prop) (J:It) (H':Hp),itv = .ref it /\ Inv X pins σ H' s2 /\ Turn X.prog X.w X.K tg J fp it tn /\ tn 0 s2.heap /\ (∀ b ∈ fp,mH X pins H' b) /\ R J H'
def PI(X:Cx)(tg iter:Expr)(wi:TI):Prop :=
 ∀ (pins:List (Addr × Obj)) (s:Shared) (σ:St) (H:Hp) (R:It->Hp->Prop),Inv X pins σ H s->wi σ H R ->
  wpAny (model X.prog X.w) X.A (eval iter X.env) (fun v s1=>wpAny (model X.prog X.w) X.A (pyIter v) (PIE X pins σ tg R) X.xe s1) X.xe s
theorem Iv {M : Model} {A : Around} {E : Value -> Shared -> Prop} {s : Shared} {tg : Expr} {it : Addr} {u : Value} {o : Obj} {n : String} {vs : Array Value} {Q : Unit -> Shared -> Prop} (ho : s.heap.get? it = some o) (hc : o.cls = .type n) (hd : o.data = .fields vs)
    (hn:["enumerate", "zip", "dict_itemiterator", "dict_reverseitemiterator", "odict_iterator", "itertools.zip_longest", "itertools.pairwise"].contains n=false) (hQ:Q () s):wpAny M A (letOwnedTupleGo tg (.ref it) u) Q E s:=by
 unfold letOwnedTupleGo
 cases tg <;> first
  | exact wpAny_pure hQ
  | (cases u <;> first
      | exact wpAny_pure hQ
      | (refine wpAny_bind (wpAny_load ho ?_)
         rw [hc,hd]
         show wpAny M A (if (["enumerate", "zip", "dict_itemiterator", "dict_reverseitemiterator", "odict_iterator", "itertools.zip_longest", "itertools.pairwise"].contains n && vs[0]? == some (rawInt _))=true then _ else _) Q E s
         rw [if_neg (by intro h;rw [hn,Bool.false_and] at h;cases h)]
         exact wpAny_pure hQ))
def Itl(K:PySem.W.Frag)(a:Addr):It :=
 ⟨fun i H=>∃ xs x,SqL K H a xs /\ xs[i]? = some x,fun i H x H'=>H'=H /\ ∀ xs,SqL K H a xs->xs[i]? = some x,fun i H=>∃ xs,SqL K H a xs /\ xs.length <= i⟩
def Itt(K:PySem.W.Frag)(a:Addr):It :=
 ⟨fun i H=>∃ xs x,SqT K H a xs /\ xs[i]? = some x,fun i H x H'=>H'=H /\ ∀ xs,SqT K H a xs->xs[i]? = some x,fun i H=>∃ xs,SqT K H a xs /\ xs.length <= i⟩
def Itr(lo:Int)(n:Nat):It:=⟨fun i _=>i < n,fun i H x H'=>H'=H /\ x = .int (lo + i),fun i _=>n <= i⟩
theorem JQ{P:Program}{w:World}{K:PySem.W.Frag}{tg:Expr}(a it:Addr):Turn P w K tg (Itl K a) [it] it (fun i h=>h.IsListIter it a i) where
 mem:=by simp
 obj:=fun i h st b hb=>by
  have e:b=it:=by simpa using hb
  subst e
  obtain ⟨o,e,c,d⟩:=st
  exact ⟨o,e,fun v z=>by rw [d] at z;cases z⟩
 keep:=fun i h h' st k=>st.at fun o e=>k it (by simp) o e
 item:=by
  intro X hP hw hK hc i pins s σ H E I hf st hg
  subst hP hw hK
  obtain ⟨xs,x,hq,hx⟩:=hg
  obtain ⟨its,rv,p,hz⟩:=I.list hq
  obtain ⟨u,hu,ru⟩:=rv.get hx
  obtain ⟨f0,f1,f2,f3,f4,f5⟩:=hf it (by simp)
  refine wpAny_pyNext_list_item st p.isList (x:=u) (by simpa using hu) fun h' st' sb=>?_
  have I1:Inv X pins σ H { s with heap:=h' }:=I.turned (t':=s.toks) (fun b o hb e=>(sb.2 b hb).trans e) f0 f1 f3 f4 f5
  obtain ⟨o,e,c,d⟩:=id st'
  exact ⟨u,rfl,Iv (s:={ s with heap:=h' }) e c d (by decide) ⟨x,H,I1,ru,⟨rfl,fun ys hy=>by rw [I.FN hy hq];exact hx⟩,st',fun b hb=>(hf b hb).1⟩⟩
 done:=by
  intro X hP hw hK hc i pins s σ H E I hf st hg
  subst hP hw hK
  obtain ⟨xs,hq,hx⟩:=hg
  obtain ⟨its,rv,p,hz⟩:=I.list hq
  obtain ⟨f0,f1,f2,f3,f4,f5⟩:=hf it (by simp)
  have hl:=rv.length
  exact wpAny_pyNext_list_end (I.ok.hd hc) st p.isList (by simp;omega) fun h' eb=>⟨rfl,I.turned (t':=s.toks) (fun b o hb e=>eb b o hb e) f0 f1 f3 f4 f5⟩
 self:=fun _ _ _ _ _ st h=>wpAny_pyIter_listiter st h
theorem Hd{P:Program}{w:World}{K:PySem.W.Frag}{tg:Expr}(a it:Addr):Turn P w K tg (Itt K a) [it] it (fun i h=>h.IsTupleIter it a i) where
 mem:=by simp
 obj:=fun i h st b hb=>by
  have e:b=it:=by simpa using hb
  subst e
  obtain ⟨o,e,c,d⟩:=st
  exact ⟨o,e,fun v z=>by rw [d] at z;cases z⟩
 keep:=fun i h h' st k=>st.at fun o e=>k it (by simp) o e
 item:=by
  intro X hP hw hK hc i pins s σ H E I hf st hg
  subst hP hw hK
  obtain ⟨xs,x,hq,hx⟩:=hg
  obtain ⟨its,rv,p,hz⟩:=I.tuple hq
  obtain ⟨u,hu,ru⟩:=rv.get hx
  obtain ⟨f0,f1,f2,f3,f4,f5⟩:=hf it (by simp)
  refine wpAny_pyNext_tuple_item st (show s.heap.IsTuple a its.toArray from p) (x:=u) (by simpa using hu) fun h' st' sb=>?_
  have I1:Inv X pins σ H { s with heap:=h' }:=I.turned (t':=s.toks) (fun b o hb e=>(sb.2 b hb).trans e) f0 f1 f3 f4 f5
  obtain ⟨o,e,c,d⟩:=id st'
  exact ⟨u,rfl,Iv (s:={ s with heap:=h' }) e c d (by decide) ⟨x,H,I1,ru,⟨rfl,fun ys hy=>by rw [I.CB hy hq];exact hx⟩,st',fun b hb=>(hf b hb).1⟩⟩
 done:=by
  intro X hP hw hK hc i pins s σ H E I hf st hg
  subst hP hw hK
  obtain ⟨xs,hq,hx⟩:=hg
  obtain ⟨its,rv,p,hz⟩:=I.tuple hq
  obtain ⟨f0,f1,f2,f3,f4,f5⟩:=hf it (by simp)
  have hl:=rv.length
  exact wpAny_pyNext_tuple_end (I.ok.hd hc) st (show s.heap.IsTuple a its.toArray from p) (by simp;omega) fun h' eb=>⟨rfl,I.turned (t':=s.toks) (fun b o hb e=>eb b o hb e) f0 f1 f3 f4 f5⟩
 self:=fun _ _ _ _ _ st h=>wpAny_pyIter_tupleiter st h
theorem Hf{P:Program}{w:World}{K:PySem.W.Frag}{tg:Expr}(it:Addr)(lo:Int)(n:Nat):Turn P w K tg (Itr lo n) [it] it (fun i h=>IsRangeIter h it (lo + (i:Nat) * 1) ((n:Int) - (i:Nat)) 1) where
 mem:=by simp
 obj:=fun i h st b hb=>by
  have e:b=it:=by simpa using hb
  subst e
  exact ⟨_,st,fun v z=>by
   have z':Data.fields _=Data.cell v:=z
   cases z'⟩
 keep:=fun i h h' st k=>k it (by simp) _ st
 item:=by
  intro X hP hw hK hc i pins s σ H E I hf st hg
  subst hP hw hK
  obtain ⟨f0,f1,f2,f3,f4,f5⟩:=hf it (by simp)
  have W:=Walks.range (prog:=X.prog) (w:=X.w) (I.ok.hd hc) it lo 1 n
  refine W.item i s _ _ hg st fun v h' tk hv st' kk=>?_
  obtain ⟨t,rfl⟩:=hv
  have I1:Inv X pins σ H { s with heap:=h',toks:=tk }:=I.turned (fun b o hb e=>kk b o (by simpa using hb) e) f0 f1 f3 f4 f5
  refine ⟨_,rfl,Iv (s:={ s with heap:=h',toks:=tk }) (n := "range_iterator") st' rfl rfl (by decide) ⟨.int (lo + i),H,I1,⟨t,?_⟩,⟨rfl,rfl⟩,st',fun b hb=>(hf b hb).1⟩⟩
  rw [Int.mul_one]
 done:=by
  intro X hP hw hK hc i pins s σ H E I hf st hg
  subst hP hw hK
  obtain ⟨f0,f1,f2,f3,f4,f5⟩:=hf it (by simp)
  exact wpAny_pyNext_range_end (I.ok.hd hc) st (by have:n <= i:=hg;omega) fun h' eb=>⟨rfl,I.turned (t':=s.toks) (fun b o hb e=>eb b o hb e) f0 f1 f3 f4 f5⟩
 self:=fun _ _ _ _ _ st h=>wpAny_pyIter_rangeiter st h
end L2
namespace L2
open PySem PySem.Spec PyProof.Rows
section
variable {X:Cx} {tg:Expr}
theorem Lr {pins : List (Addr × Obj)} {σ : St} {H : Hp} {s : Shared} {R : It -> Hp -> Prop} {E : Value -> Shared -> Prop} {lo hi : Int} {t u v : Tok} {tk : Nat} (I : Inv X pins σ H s) (h1 : -(2 ^ 62) <= lo) (h2 : lo < 2 ^ 62) (h3 : -(2 ^ 62) <= hi) (h4 : hi < 2 ^ 62)
    (q:R (Itr lo (hi - lo).toNat) H):wpAny (model X.prog X.w) X.A (pyIter (.ref s.heap.objs.size)) (PIE X pins σ tg R) E { s with heap:=s.heap.push { cls:=.type "range",data:=.fields #[.int lo t,.int hi u,.int 1 v] },toks:=tk }:=by
 refine wpAny_pyIter_range (IsRange.new ..) (small_one h1 h2 h3 h4) ?_
 have I1:Inv X pins σ H { s with heap:=s.heap.push { cls:=.type "range",data:=.fields #[.int lo t,.int hi u,.int 1 v] },toks:=tk }:=I.kept fun b o e=>Heap.get?_push_of_some _ e
 refine ⟨(s.heap.push { cls:=.type "range",data:=.fields #[.int lo t,.int hi u,.int 1 v] }).objs.size,[(s.heap.push { cls:=.type "range",data:=.fields #[.int lo t,.int hi u,.int 1 v] }).objs.size],_,_,H,rfl,
  I1.kept (t':=tk) fun b o e=>Heap.get?_push_of_some _ e,Hf _ lo (hi - lo).toNat,?_,fun b hb=>?_,q⟩
 . have e1:lo + ((0:Nat):Int) * 1=lo:=by simp
   have e2:(((hi - lo).toNat:Nat):Int) - ((0:Nat):Int)=Builtin.Range.rangeSize lo hi 1:=by rw [rangeSize_one];split <;> omega
   show IsRangeIter _ _ (lo + ((0:Nat):Int) * 1) ((((hi - lo).toNat:Nat):Int) - ((0:Nat):Int)) 1
   rw [e1,e2]
   exact Heap.get?_push_size _ rfl
 . have e:b=(s.heap.push { cls:=.type "range",data:=.fields #[.int lo t,.int hi u,.int 1 v] }).objs.size:=by simpa using hb
   subst e
   exact I1.JP (Nat.le_refl _) (I1.hok.fresh (Nat.le_refl _))
def RR(ta:TA):TI:=fun σ H R=>ta σ H fun vs H1=>∃ j:Int,vs = [.int j] /\ -(2 ^ 62) <= j /\ j < 2 ^ 62 /\ R (Itr 0 j.toNat) H1
theorem JR{a:Expr}{ta:TA}{p pos:Pos} (hg:Gl X "range") (hm:X.mg "range" = none) (ha:PA X [a] ta) (hs:starEach [a] X.env = [(false,eval a X.env)]:=by rfl):PI X tg (.Call (.Name "range" p) [a] [] pos) (RR ta):=by
 intro pins s σ H R I h
 refine Call_ (jB I hg hm boot_range (PyProof.Rows.callWith_type1 (thn (ha pos pins s σ H _ I h) fun us s1 ⟨vs,H1,I1,r1,q1⟩=>?_) hs rfl))
 obtain ⟨j,e,q1,q2,q⟩:=q1
 subst e
 cases r1 with
 | cons r rr =>
  cases rr
  obtain ⟨t,rfl⟩:=r
  exact call_range_1 (Lr I1 (by omega) (by omega) q1 q2 (by simpa using q))
def RT(wi:TI)(g:TG)(tb:TS):TS:=fun D σ H=>wi σ H fun J H1=>∃ W:Nat->Nat->St->Hp->Prop,(∃ m,W 0 m σ H1) /\ ∀ i m σ H,W i m σ H ->
 (J.stop i H /\ D.nx σ H) \/ (J.go i H /\ ∃ N:St->Hp->Prop,(∀ σ' H',N σ' H'->∃ m',m' < m /\ W (i + 1) m' σ' H') /\ ∀ x H',J.yld i H x H'->g x σ H' fun σ2 H2=>tb { D with nx:=N,ct:=N,bk:=D.nx } σ2 H2)
def qx(fp:List Addr)(h:Heap):List (Addr × Obj):=fp.filterMap fun b=>(h.get? b).map fun o=>(b,o)
theorem lC{fp:List Addr}{h:Heap}{b:Addr}{o:Obj}(hb:b ∈ fp)(e:h.get? b=some o):(b,o) ∈ qx fp h:=List.mem_filterMap.mpr ⟨b,hb,by rw [e];rfl⟩
theorem JS{fp:List Addr}{h:Heap}{p:Addr × Obj}(hp:p ∈ qx fp h):p.1 ∈ fp /\ h.get? p.1=some p.2:=by
 obtain ⟨b,hb,e⟩:=List.mem_filterMap.mp hp
 cases q:h.get? b with
 | none=>rw [q] at e;cases e
 | some o =>
  rw [q] at e
  have e':(b,o)=p:=Option.some.inj e
  subst e'
  exact ⟨hb,q⟩
theorem Inv.pinned{pins:List (Addr × Obj)}{σ:St}{H:Hp}{s:Shared}{fp:List Addr}(I:Inv X pins σ H s)(hf:∀ b ∈ fp,mH X pins H b)(ho:∀ b ∈ fp,∃ o,s.heap.get? b=some o /\ ∀ v,o.data ≠ .cell v):Inv X (pins ++ qx fp s.heap) σ H s :=
 I.D0 fun p hp=>(List.mem_append.mp hp).elim (fun z=>I.pin p (List.mem_append_right _ z)) fun z=>by
  obtain ⟨hb,e⟩:=JS z
  obtain ⟨f0,f1,f2,_⟩:=hf p.1 hb
  obtain ⟨o,e',d⟩:=ho p.1 hb
  rw [e] at e';cases e'
  exact ⟨e,f0,f1,f2,d⟩
theorem Inv.lD{pins pl:List (Addr × Obj)}{σ:St}{H:Hp}{s:Shared}(I:Inv X (pins ++ pl) σ H s):Inv X pins σ H s:=I.D0 fun p hp=>I.pin p (List.mem_append_right _ (List.mem_append_left _ hp))
theorem Qa {iter : Expr} {body : List Stmt} {wi : TI} {g : TG} {tb : TS} {pos : Pos} (hp : PassesOwn (model X.prog X.w) X.A X.env X.xe) (hc : X.calm = true) (hi : PI X tg iter wi) (hg : PG X tg g) (hb : PSs X body tb)
    (hs:∀ x,foldedSetIterable iter X.env x=pure x:=by intro _;rfl):PS X (.For tg iter body [] pos) (RT wi g tb):=by
 intro pins s σ H D I h
 refine wpAny_For (thn (hi pins s σ H _ I h) fun v s1 h1=>thn h1 fun itv s2 h2=>?_) hs
 obtain ⟨it,fp,tn,J,H2,e,I2,T,st2,f2,W,⟨m0,w0⟩,turn⟩:=h2
 subst e
 have stat:∀ {H':Hp},(∀ b ∈ fp,H' b=none)->∀ b ∈ fp,mH X pins H' b:=fun hn b hb=>⟨hn b hb,(f2 b hb).2⟩
 refine codeAny_forLoop_any (fun n s'=>∃ i σ' H',Inv X pins σ' H' s' /\ tn i s'.heap /\ (∀ b ∈ fp,H' b=none) /\ W i n σ' H') ?_ m0 ⟨0,σ,H2,I2,st2,fun b hb=>(f2 b hb).1,w0⟩
 rintro n s3 ⟨i,σ3,H3,I3,st3,fr3,w3⟩
 rcases turn i n σ3 H3 w3 with ⟨stop,qn⟩ | ⟨go,N,hN,step⟩
 . refine wpAny_passesOwn hp (thn (T.done X rfl rfl rfl hc i pins s3 σ3 H3 X.xe I3 (stat fr3) st3 stop) fun r s4 ⟨hr,I4⟩=>?_)
   subst hr
   exact wpAny_execs_nil ⟨σ3,H3,I4,qn⟩
 . refine wpAny_passesOwn hp (thn (T.item X rfl rfl rfl hc i pins s3 σ3 H3 X.xe I3 (stat fr3) st3 go) fun r s4 ⟨u,hr,h4⟩=>?_)
   subst hr
   refine wpAny_passesOwn hp (thn h4 fun _ s5 ⟨x,H5,I5,r5,y5,st5,fr5⟩=>?_)
   have I5':=I5.pinned (stat fr5) (T.obj _ _ st5)
   refine wpAny_passesOwn hp (thn (hg _ s5 σ3 H5 x u _ I5' r5 (step x H5 y5)) fun _ s6 ⟨σ6,H6,I6,q6⟩=>?_)
   refine wpAny_passesOwn hp (thn (hb _ s6 σ6 H6 _ I6 q6) fun f s7 q7=>?_)
   have again:∀ {σ7:St} {H7:Hp},Inv X (pins ++ qx fp s5.heap) σ7 H7 s7->N σ7 H7->∃ m,m < n /\ ∃ i σ' H',Inv X pins σ' H' s7 /\ tn i s7.heap /\ (∀ b ∈ fp,H' b=none) /\ W i m σ' H':=fun {σ7 H7} I7 n7=>by
    obtain ⟨m',hm,w7⟩:=hN σ7 H7 n7
    refine ⟨m',hm,i + 1,σ7,H7,I7.lD,T.keep _ _ _ st5 fun b hb o e=>(I7.pin (b,o) (List.mem_append_right _ (List.mem_append_right _ (lC hb e)))).1,fun b hb=>?_,w7⟩
    obtain ⟨o,e,d⟩:=T.obj _ _ st5 b hb
    exact (I7.pin (b,o) (List.mem_append_right _ (List.mem_append_right _ (lC hb e)))).2.1
   cases f with
   | next=>obtain ⟨σ7,H7,I7,n7⟩:=q7;exact again I7 n7
   | cont=>obtain ⟨σ7,H7,I7,n7⟩:=q7;exact again I7 n7
   | brk=>obtain ⟨σ7,H7,I7,q7⟩:=q7;exact ⟨σ7,H7,I7.lD,q7⟩
   | ret v=>obtain ⟨x7,σ7,H7,I7,r7,q7⟩:=q7;exact ⟨x7,σ7,H7,I7.lD,r7,q7⟩
end
end L2
namespace L2
open PySem PySem.Spec PyProof.Rows
abbrev R2:=V->V->Hp->VK->Prop
def OpR(X:Cx)(f:Value->Value->Sem Value)(r:R2):Prop :=
 ∀ (pins:List (Addr × Obj)) (s:Shared) (σ:St) (H:Hp) (x y:V) (v u:Value) (Q:VK),Inv X pins σ H s->RelV x v->RelV y u->r x y H Q ->
  wpAny (model X.prog X.w) X.A (f v u) (EP X pins σ Q) X.xe s
def UnR(X:Cx)(f:Value->Sem Value)(r:V->Hp->VK->Prop):Prop :=
 ∀ (pins:List (Addr × Obj)) (s:Shared) (σ:St) (H:Hp) (x:V) (v:Value) (Q:VK),Inv X pins σ H s->RelV x v->r x H Q ->
  wpAny (model X.prog X.w) X.A (f v) (EP X pins σ Q) X.xe s
def l6(X:Cx)(f:Value)(r:List V->Hp->VK->Prop):Prop :=
 ∀ (pins:List (Addr × Obj)) (s:Shared) (σ:St) (H:Hp) (xs:List V) (us:List Value) (Q:VK),Inv X pins σ H s->Vals xs us->r xs H Q ->
  wpAny (model X.prog X.w) X.A (call f us) (EP X pins σ Q) X.xe s
def TB(X:Cx)(r:V->Hp->(Bool->Hp->Prop)->Prop):Prop :=
 ∀ (pins:List (Addr × Obj)) (s:Shared) (σ:St) (H:Hp) (x:V) (v:Value) (Q:Bool->Hp->Prop),Inv X pins σ H s->RelV x v->r x H Q ->
  wpAny (model X.prog X.w) X.A (truthy v) (TP X pins σ Q) X.xe s
def tOp(r:R2)(ta tb:TE):TE:=fun σ H Q=>ta σ H fun x H1=>tb σ H1 fun y H2=>r x y H2 Q
def tUn(r:V->Hp->VK->Prop)(ta:TE):TE:=fun σ H Q=>ta σ H fun x H1=>r x H1 Q
def rI(C:Int->Int->Prop)(g:Int->Int->V):R2:=fun x y H Q=>∃ i j,x = .int i /\ y = .int j /\ C i j /\ Q (g i j) H
def rI0(g:Int->Int->V):R2:=fun x y H Q=>∃ i j,x = .int i /\ y = .int j /\ Q (g i j) H
def rU(g:Int->V):V->Hp->VK->Prop:=fun x H Q=>∃ i,x = .int i /\ Q (g i) H
section
variable {X:Cx} {a b c:Expr} {ta tb tc:TE} {pos:Pos}
theorem Qb (ha : PE X a ta) (hb : PE X b tb) {pins : List (Addr × Obj)} {s : Shared} {σ : St} {H : Hp} {R : V -> V -> Hp -> Prop} (I : Inv X pins σ H s)
    (h:ta σ H fun x H1=>tb σ H1 fun y H2=>R x y H2) {Q:Value->Shared->Prop} {f:Value->Value->Sem Value}
    (hf:∀ v u s2 x y H2,Inv X pins σ H2 s2->RelV x v->RelV y u->R x y H2->wpAny (model X.prog X.w) X.A (f v u) Q X.xe s2) :
    wpAny (model X.prog X.w) X.A (eval a X.env) (fun v s₁=>wpAny (model X.prog X.w) X.A (eval b X.env) (fun u s₂=>wpAny (model X.prog X.w) X.A (f v u) Q X.xe s₂) X.xe s₁) X.xe s:=by
 refine thn (ha pins s σ H _ I h) fun v s1 ⟨x,H1,I1,r1,q1⟩=>?_
 refine thn (hb pins s1 σ H1 _ I1 q1) fun u s2 ⟨y,H2,I2,r2,q2⟩=>?_
 exact hf v u s2 x y H2 I2 r1 r2 q2
theorem RU{op:Operator}{r:R2}(ho:OpR X (binaryOp op) r)(ha:PE X a ta)(hb:PE X b tb):PE X (.BinOp a op b pos) (tOp r ta tb):=by
 intro pins s σ H Q I h
 exact wpAny_BinOp (Qb ha hb I h fun v u s2 x y H2 I2 rx ry q=>ho pins s2 σ H2 x y v u Q I2 rx ry q)
theorem O3{op:UnaryOp}{r:V->Hp->VK->Prop}(ho:UnR X (unaryOp op) r)(ha:PE X a ta):PE X (.UnaryOp op a pos) (tUn r ta):=by
 intro pins s σ H Q I h
 exact UnaryOp_ (thn (ha pins s σ H _ I h) fun v s1 ⟨x,H1,I1,r1,q1⟩=>ho pins s1 σ H1 x v Q I1 r1 q1)
theorem opI {f : Value -> Value -> Sem Value} {C : Int -> Int -> Prop} {g : Int -> Int -> Int}
    (rule:∀ (i j:Int) (t u:Tok) (s:Shared) (Q:Value->Shared->Prop) (E:Value->Shared->Prop),C i j->Q (.int (g i j) s.toks) { s with toks:=s.toks + 1 }->wpAny (model X.prog X.w) X.A (f (.int i t) (.int j u)) Q E s) :
    OpR X f (rI C fun i j=>.int (g i j)):=by
 intro pins s σ H x y v u Q I rx ry h
 obtain ⟨i,j,rfl,rfl,hc,q⟩:=h
 obtain ⟨t,rfl⟩:=rx
 obtain ⟨t',rfl⟩:=ry
 exact rule i j t t' s _ _ hc ⟨.int (g i j),H,I.tok _,⟨_,rfl⟩,q⟩
theorem RV {f : Value -> Value -> Sem Value} {g : Int -> Int -> Int}
    (rule:∀ (i j:Int) (t u:Tok) (s:Shared) (Q:Value->Shared->Prop) (E:Value->Shared->Prop),Q (.int (g i j) s.toks) { s with toks:=s.toks + 1 }->wpAny (model X.prog X.w) X.A (f (.int i t) (.int j u)) Q E s) :
    OpR X f (rI0 fun i j=>.int (g i j)):=by
 intro pins s σ H x y v u Q I rx ry h
 obtain ⟨i,j,rfl,rfl,q⟩:=h
 obtain ⟨t,rfl⟩:=rx
 obtain ⟨t',rfl⟩:=ry
 exact rule i j t t' s _ _ ⟨.int (g i j),H,I.tok _,⟨_,rfl⟩,q⟩
theorem Ny {f : Value -> Value -> Sem Value} {g : Int -> Int -> Bool}
    (rule:∀ (i j:Int) (t u:Tok) (s:Shared) (Q:Value->Shared->Prop) (E:Value->Shared->Prop),Q (.bool (g i j)) s->wpAny (model X.prog X.w) X.A (f (.int i t) (.int j u)) Q E s) :
    OpR X f (rI0 fun i j=>.bl (g i j)):=by
 intro pins s σ H x y v u Q I rx ry h
 obtain ⟨i,j,rfl,rfl,q⟩:=h
 obtain ⟨t,rfl⟩:=rx
 obtain ⟨t',rfl⟩:=ry
 exact rule i j t t' s _ _ ⟨.bl (g i j),H,I,rfl,q⟩
def RW(i j:Int):Prop:=0 < j /\ j < 1073741824
def RX(i j:Int):Prop:=0 <= j /\ j <= 1000000 /\ i.natAbs < 2 ^ 64
def Nz(i j:Int):Prop:=(-(2 ^ 64) < i /\ i < 2 ^ 64) \/ (-(2 ^ 64) < j /\ j < 2 ^ 64)
theorem Nz.ok{i j:Int}(h:Nz i j):IntMulOk i j:=by
 rcases h with ⟨h1,h2⟩ | ⟨h1,h2⟩
 . exact .of_left (intBits_le_64 h1 h2)
 . exact .of_right (intBits_le_64 h1 h2)
theorem Qc:OpR X (binaryOp .Add) (rI0 fun i j=>.int (i + j)):=RV fun _ _ _ _ _ _ _ q=>add_int q
theorem rM:OpR X (binaryOp .Sub) (rI0 fun i j=>.int (i - j)):=RV fun _ _ _ _ _ _ _ q=>sub_int q
theorem zZ:OpR X (binaryOp .Mult) (rI Nz fun i j=>.int (i * j)):=opI fun _ _ _ _ _ _ _ hc q=>mul_int q hc.ok
theorem Iw:OpR X (binaryOp .FloorDiv) (rI RW fun i j=>.int (i / j)):=opI fun i j _ _ _ _ _ hc q=>by
 have h1:(0:Int) < j:=hc.1
 have h2:j < 1073741824:=hc.2
 exact floordiv_int (by omega) (by rw [Int.fdiv_eq_ediv_of_nonneg i (by omega)];exact q) (.inl (PyProof.noPylong_small (by omega)))
theorem wM:OpR X (binaryOp .Mod) (rI (fun _ j=>0 < j) fun i j=>.int (i % j)):=opI fun i j _ _ _ _ _ hc q=>by
 have h1:(0:Int) < j:=hc
 exact mod_int' (by omega) (by rw [Int.fmod_eq_emod_of_nonneg i (by omega)];exact q)
theorem Ls:OpR X (binaryOp .Pow) (rI RX fun i j=>.int (i ^ j.toNat)):=opI fun _ _ _ _ _ _ _ hc q=>pow_int_small hc.1 hc.2.1 hc.2.2 q
theorem unI {f : Value -> Sem Value} {g : Int -> Int}
    (rule:∀ (i:Int) (t:Tok) (s:Shared) (Q:Value->Shared->Prop) (E:Value->Shared->Prop),Q (.int (g i) s.toks) { s with toks:=s.toks + 1 }->wpAny (model X.prog X.w) X.A (f (.int i t)) Q E s) :
    UnR X f (rU fun i=>.int (g i)):=by
 intro pins s σ H x v Q I rx h
 obtain ⟨i,rfl,q⟩:=h
 obtain ⟨t,rfl⟩:=rx
 exact rule i t s _ _ ⟨.int (g i),H,I.tok _,⟨_,rfl⟩,q⟩
theorem Lu:UnR X (unaryOp .USub) (rU fun i=>.int (-i)):=unI fun _ _ _ _ _ q=>neg_int q
end
section
variable {X:Cx} {a b c:Expr} {ta tb tc:TE} {pos:Pos}
theorem D2{pins:List (Addr × Obj)}{σ:St}{H:Hp}{s:Shared}{Q:VK}{k k':Bool}(I:Inv X pins σ H s)(q:Q (.bl k) H)(e:k=k'):EP X pins σ Q (.bool k') s:=by
 subst e
 exact ⟨.bl k,H,I,rfl,q⟩
theorem RY:OpR X (compareOp .Lt) (rI0 fun i j=>.bl (decide (i < j))):=Ny fun _ _ _ _ _ _ _ q=>lt_int q
theorem RZ:OpR X (compareOp .LtE) (rI0 fun i j=>.bl (decide (i <= j))):=Ny fun _ _ _ _ _ _ _ q=>le_int q
theorem R0:OpR X (compareOp .Gt) (rI0 fun i j=>.bl (decide (j < i))):=Ny fun _ _ _ _ _ _ _ q=>gt_int q
theorem R1:OpR X (compareOp .GtE) (rI0 fun i j=>.bl (decide (j <= i))):=Ny fun _ _ _ _ _ _ _ q=>ge_int q
theorem JT:OpR X (compareOp .Lt) (fun x y H Q=>∃ i j,x = .str i /\ y = .str j /\ Q (.bl (decide (i.cps.toList < j.cps.toList))) H):=by
 intro pins s σ H x y v u Q I rx ry h
 obtain ⟨i,j,rfl,rfl,q⟩:=h
 obtain ⟨t,rfl⟩:=rx
 obtain ⟨t',rfl⟩:=ry
 exact lt_str (D2 I q rfl)
theorem OpR.or{f:Value->Value->Sem Value}{r r':R2}(h:OpR X f r)(h':OpR X f r'):OpR X f (fun x y H Q=>r x y H Q \/ r' x y H Q):=by
 intro pins s σ H x y v u Q I rx ry q
 rcases q with q | q
 . exact h pins s σ H x y v u Q I rx ry q
 . exact h' pins s σ H x y v u Q I rx ry q
theorem cS(b:Expr){op:CmpOp}(h:op ≠ .In:=by decide)(h2:op ≠ .NotIn:=by decide):behindInMarks op b=false:=by
 have e1:(op == CmpOp.In)=false:=by cases op <;> first | rfl | exact absurd rfl h
 have e2:(op == CmpOp.NotIn)=false:=by cases op <;> first | rfl | exact absurd rfl h2
 cases b <;> simp [behindInMarks,e1,e2]
theorem NA{op:CmpOp}{r:R2}(ho:OpR X (compareOp op) r)(ha:PE X a ta)(hb:PE X b tb)(hm:behindInMarks op b=false):PE X (.Compare a [op] [b] pos) (tOp r ta tb):=by
 intro pins s σ H Q I h
 exact wpAny_Compare1 (Qb ha hb I h fun v u s2 x y H2 I2 rx ry q=>ho pins s2 σ H2 x y v u Q I2 rx ry q) hm
def R3(t:TE):TT:=fun σ H Q=>t σ H fun x H'=>∃ k,x = .bl k /\ Q k H'
theorem NB{op:CmpOp}{r:R2}(ho:OpR X (compareOp op) r)(ha:PE X a ta)(hb:PE X b tb)(hm:behindInMarks op b=false):PT X (.Compare a [op] [b] pos) (R3 (tOp r ta tb)):=by
 intro pins s σ H Q I h
 refine wpAny_isTrue_Compare1 (thn (ha pins s σ H _ I h) fun v s1 ⟨x,H1,I1,r1,q1⟩=>thn (hb pins s1 σ H1 _ I1 q1) fun u s2 ⟨y,H2,I2,r2,q2⟩ =>
  thn (ho pins s2 σ H2 x y v u _ I2 r1 r2 q2) fun c s3 ⟨z,H3,I3,r3,k,e,q3⟩=>?_) hm
 subst e
 cases r3
 exact wpAny_truthy_bool ⟨H3,I3,q3⟩
def Lv(r r':R2)(ta tb tc:TE):TE:=fun σ H Q=>ta σ H fun x H1=>tb σ H1 fun y H2=>r x y H2 fun z H3=>∃ k,z = .bl k /\
 (if k=true then tc σ H3 fun w' H4=>r' y w' H4 Q else Q (.bl false) H3)
theorem Lw {op op' : CmpOp} {r r' : R2} (ho : OpR X (compareOp op) r) (ho' : OpR X (compareOp op') r') (ha : PE X a ta) (hb : PE X b tb) (hc : PE X c tc)
    (hm:lastMarks [op,op'] [b,c] = false:=by with_unfolding_all rfl):PE X (.Compare a [op,op'] [b,c] pos) (Lv r r' ta tb tc):=by
 intro pins s σ H Q I h
 refine Compare_chain (thn (ha pins s σ H _ I h) fun v s1 ⟨x,H1,I1,r1,q1⟩=>chain_link (thn (hb pins s1 σ H1 _ I1 q1) fun u s2 ⟨y,H2,I2,r2,q2⟩ =>
  thn (ho pins s2 σ H2 x y v u _ I2 r1 r2 q2) fun d s3 ⟨z,H3,I3,r3,k,e,q3⟩=>?_)) hm
 subst e
 cases r3
 refine wpAny_truthy_bool ?_
 cases k with
 | false=>exact ite_ff ⟨.bl false,H3,I3,rfl,q3⟩
 | true=>exact ite_tt (chain_last (thn (hc pins s3 σ H3 _ I3 q3) fun w' s4 ⟨z',H4,I4,r4,q4⟩=>ho' pins s4 σ H4 y z' u w' Q I4 r2 r4 q4))
def Qd(K:PySem.W.Frag)(x:V)(H:Hp)(k:Bool):Prop :=
 match x with
 | .non=>k=false
 | .bl b=>k=b
 | .int i=>k=(i != 0)
 | .str y=>y.length <= sizeLine /\ k=((y.length:Int) != 0)
 | .byt y=>y.size <= sizeLine /\ k=((y.size:Int) != 0)
 | .ref p=>(∃ xs,SqL K H p xs /\ k = !xs.isEmpty) \/ (∃ xs,SqT K H p xs /\ k = !xs.isEmpty) \/ ∃ kvs,H p=some (.dK kvs) /\ k = !kvs.isEmpty
 | _=>False
theorem Hg{κ:Type}{kvs:List (κ × V)}{vs:List (κ × Value)}(r:KV kvs vs):(!vs.isEmpty) = !kvs.isEmpty:=by
 cases r <;> rfl
theorem z5{xs:List V}{its:List Value}(r:Vals xs its):(!its.toArray.isEmpty) = !xs.isEmpty:=by
 cases r <;> simp
theorem wN:(sizeLine:Nat) < 2 ^ 63:=by rw [sizeLine_eq];decide
theorem Qh:TB X (fun x H Q=>∃ k,Qd X.K x H k /\ Q k H):=by
 intro pins s σ H x v Q I rx h
 obtain ⟨k,e,q⟩:=h
 have hl:=wN
 have hs:sizeLine=16777216:=sizeLine_eq
 cases x with
 | non =>
  cases rx
  have e':k=false:=e
  subst e'
  exact truthy_none ⟨H,I,q⟩
 | bl b =>
  cases rx
  have e':k=b:=e
  subst e'
  exact wpAny_truthy_bool ⟨H,I,q⟩
 | int i =>
  obtain ⟨t,rfl⟩:=rx
  have e':k=(i != 0):=e
  subst e'
  exact PySem.P.truthy_int ⟨H,I,q⟩
 | str y =>
  obtain ⟨t,rfl⟩:=rx
  obtain ⟨hy,e'⟩:y.length <= sizeLine /\ k=((y.length:Int) != 0):=e
  subst e'
  exact PySem.P.truthy_str (by omega) ⟨H,I.tok _,q⟩
 | byt y =>
  obtain ⟨t,rfl⟩:=rx
  obtain ⟨hy,e'⟩:y.size <= sizeLine /\ k=((y.size:Int) != 0):=e
  subst e'
  exact PySem.W.truthy_bytes (by omega) ⟨H,I.tok _,q⟩
 | ref p =>
  cases rx
  have e':(∃ xs,SqL X.K H p xs /\ k = !xs.isEmpty) \/ (∃ xs,SqT X.K H p xs /\ k = !xs.isEmpty) \/ ∃ kvs,H p=some (.dK kvs) /\ k = !kvs.isEmpty:=e
  rcases e' with ⟨xs,hx,e'⟩ | ⟨xs,hx,e'⟩ | ⟨kvs,hx,e'⟩
  . subst e'
    obtain ⟨its,r,pl,hz⟩:=I.list hx
    have hlen:=r.length
    exact wpAny_truthy_list pl.isList (by simp only [List.size_toArray];omega) ⟨H,I.tok _,by rw [z5 r];exact q⟩
  . subst e'
    obtain ⟨its,r,pl,hz⟩:=I.tuple hx
    have hlen:=r.length
    exact truthy_tuple pl (by simp only [List.size_toArray];omega) ⟨H,I.tok _,by rw [z5 r];exact q⟩
  . subst e'
    obtain ⟨hz,hS,vs,r,m⟩:kvs.length <= sizeLine /\ (p == sysModules)=false /\ ∃ vs,KV kvs vs /\ s.heap.DictOf (jh X.prog X.w) p vs:=I.hok p _ hx
    have hlen:kvs.length=vs.length:=Paired.length r
    exact wpAny_truthy_dict hS m (by omega) ⟨H,I.tok _,by rw [Hg r];exact q⟩
 | _=>exact (show False from e).elim
theorem Lx (ha : PE X a ta) (he : ∀ whole, isTrue a X.env whole = (do let v <- whole; standAt a.pos; holding [v] (truthy v))) :
    PT X a (fun σ H Q=>ta σ H fun x H'=>∃ k,Qd X.K x H' k /\ Q k H'):=by
 intro pins s σ H Q I h
 exact isTrue_plain (thn (ha pins s σ H _ I h) fun v s1 ⟨x,H1,I1,r1,q1⟩=>Qh pins s1 σ H1 x v Q I1 r1 q1) (he _)
theorem Hh:OpR X (binaryOp .Add) (fun x y H Q=>∃ i j,x = .str i /\ y = .str j /\ i.length + j.length <= sizeLine /\ Q (.str (i ++ j)) H):=by
 intro pins s σ H x y v u Q I rx ry h
 obtain ⟨i,j,rfl,rfl,hz,q⟩:=h
 obtain ⟨t,rfl⟩:=rx
 obtain ⟨t',rfl⟩:=ry
 exact add_str (fun t' tk=>⟨.str (i ++ j),H,I.tok _,⟨_,rfl⟩,q⟩) hz
theorem vals1{x:V}{us:List Value}(r:Vals [x] us):∃ u,us = [u] /\ RelV x u:=by
 cases r with
 | cons r1 r2=>cases r2;exact ⟨_,rfl,r1⟩
theorem vals2{x y:V}{us:List Value}(r:Vals [x,y] us):∃ u w',us = [u,w'] /\ RelV x u /\ RelV y w':=by
 cases r with
 | cons r1 r2 =>
  cases r2 with
  | cons r3 r4=>cases r4;exact ⟨_,_,rfl,r1,r3⟩
theorem JU(hc:X.calm=true):l6 X (.builtin "min") (fun xs H Q=>∃ i j,xs = [.int i,.int j] /\ Q (.int (if j < i then j else i)) H):=by
 intro pins s σ H xs us Q I r h
 obtain ⟨i,j,rfl,q⟩:=h
 obtain ⟨u,w',rfl,⟨t,rfl⟩,⟨t',rfl⟩⟩:=vals2 r
 refine min_two_ints (I.ok.hd hc) fun h' tk k=>⟨_,H,I.kept k,?_,q⟩
 by_cases hj:j < i
 . rw [if_pos hj,if_pos hj];exact ⟨_,rfl⟩
 . rw [if_neg hj,if_neg hj];exact ⟨_,rfl⟩
theorem lz:l6 X (.type "int") (fun xs H Q=>(∃ i,xs = [.int i] /\ Q (.int i) H) \/ ∃ k,xs = [.bl k] /\ Q (.int (if k then 1 else 0)) H):=by
 intro pins s σ H xs us Q I r h
 rcases h with ⟨i,rfl,q⟩ | ⟨k,rfl,q⟩
 . obtain ⟨u,rfl,t,rfl⟩:=vals1 r
   exact call_int_int ⟨.int i,H,I,⟨_,rfl⟩,q⟩
 . obtain ⟨u,rfl,r1⟩:=vals1 r
   cases r1
   exact call_int_bool ⟨.int (if k then 1 else 0),H,I.tok _,⟨_,rfl⟩,q⟩
theorem D3:l6 X (.type "str") (fun xs H Q=>∃ i,xs = [.int i] /\ i.natAbs.log2 < 1920 /\ Q (.str (toString i)) H):=by
 intro pins s σ H xs us Q I r h
 obtain ⟨i,rfl,hz,q⟩:=h
 obtain ⟨u,rfl,t,rfl⟩:=vals1 r
 exact PySem.P.str_of_int hz ⟨.str _,H,I.tok _,⟨_,rfl⟩,q⟩
def R4(K:PySem.W.Frag)(x:V)(H:Hp)(n:Nat):Prop :=
 match x with
 | .str y=>y.length <= sizeLine /\ n=y.length
 | .byt y=>y.size <= sizeLine /\ n=y.size
 | .ref p=>(∃ xs,SqL K H p xs /\ n=xs.length) \/ ∃ xs,SqT K H p xs /\ n=xs.length
 | _=>False
theorem bK:l6 X (.builtin "len") (fun xs H Q=>∃ x n,xs = [x] /\ R4 X.K x H n /\ Q (.int n) H):=by
 intro pins s σ H xs us Q I r h
 obtain ⟨x,n,rfl,e,q⟩:=h
 obtain ⟨u,rfl,rx⟩:=vals1 r
 have hl:=wN
 have hs:sizeLine=16777216:=sizeLine_eq
 cases x with
 | str y =>
  obtain ⟨t,rfl⟩:=rx
  obtain ⟨hy,e'⟩:y.length <= sizeLine /\ n=y.length:=e
  subst e'
  exact len_str (by omega) ⟨.int _,H,I.tok _,⟨_,rfl⟩,q⟩
 | byt y =>
  obtain ⟨t,rfl⟩:=rx
  obtain ⟨hy,e'⟩:y.size <= sizeLine /\ n=y.size:=e
  subst e'
  exact PySem.W.len_bytes (by omega) ⟨.int _,H,I.tok _,⟨_,rfl⟩,q⟩
 | ref p =>
  cases rx
  have e':(∃ xs,SqL X.K H p xs /\ n=xs.length) \/ ∃ xs,SqT X.K H p xs /\ n=xs.length:=e
  rcases e' with ⟨xs,hx,e'⟩ | ⟨xs,hx,e'⟩
  . subst e'
    obtain ⟨its,r',pl,hz⟩:=I.list hx
    have hlen:=r'.length
    exact Calls.call_len_list pl.isList (by simp only [List.size_toArray];omega) ⟨.int xs.length,H,I.tok _,⟨_,by simp only [List.size_toArray];rw [hlen]⟩,q⟩
  . subst e'
    obtain ⟨its,r',pl,hz⟩:=I.tuple hx
    have hlen:=r'.length
    exact len_tuple pl (by simp only [List.size_toArray];omega) ⟨.int xs.length,H,I.tok _,⟨_,by simp only [List.size_toArray];rw [hlen]⟩,q⟩
 | _=>exact (show False from e).elim
end
end L2
namespace L2
open PySem PySem.Spec PyProof.Rows
structure Qi (h:Heap) (x dx C:Addr) (mA:Str->Option Value):Prop where
 obj:h.get? x=some (PySem.W.instObj C dx)
 ns:h.Ns1 dx mA
 ne:dx ≠ x
theorem JV{h:Heap}{dx:Addr}{mA:Str->Option Value}(n:h.Ns1 dx mA):∃ od,h.get? dx=some od /\ ∀ name,PySem.W.lookIn name od=some (mA name):=by
 obtain ⟨o,es,ep,ho,hd,hk,_,hm⟩:=n
 refine ⟨o,ho,fun name=>?_⟩
 have e:=hm name
 unfold nsFind findBy at e
 rw [<- Array.find?_toList] at e
 unfold PySem.W.lookIn
 rw [hd]
 dsimp only
 split
 . rename_i y q
   rw [q] at e
   exact congrArg some e
 . rename_i q
   rw [q] at e
   have a:es.toList.any (·.refKey)=false:=by
    rw [List.any_eq_false]
    intro y hy
    obtain ⟨z,t,hkey⟩:=hk y (Array.mem_toList_iff.mp hy)
    simp [DictEntry.refKey,hkey]
   have a':¬ es.toList.any (·.refKey)=true:=by rw [a];exact Bool.false_ne_true
   rw [if_neg a']
   exact congrArg some e
theorem Qi.look{h:Heap}{x dx C:Addr}{mA:Str->Option Value}(I:Qi h x dx C mA):∃ od,PySem.W.InstAt h x (PySem.W.instObj C dx) C (some od) /\ ∀ name,PySem.W.lookIn name od=some (mA name) :=
 let ⟨od,ho,hl⟩:=JV I.ns
 ⟨od,⟨I.obj,rfl,rfl,ho⟩,hl⟩
section
variable {prog:Program} {w:World} {A:Around} {E:Value->Shared->Prop} {s:Shared} {K:PySem.W.Frag} {x dx C f:Addr} {mA:Str->Option Value} {name:Str} {v:Value}
end
section
variable {P:Program} {w:World} {H H':Hp} {h h':Heap} {a C dx:Addr} {fs fs':List (Str × V)}
theorem NC(hok:HOk P w H h)(e:H a=some (.ins C dx fs)):∃ mA,Qi h a dx C mA /\ (∀ f,FL (fs.lookup f) (mA f)) /\ PySem.Within mA (fs.map (·.1)) /\ fs.length <= 1000 /\ H dx=some (.own a):=by
 obtain ⟨d,z,ne,ob,mA,n,r,q⟩:=(show cB P w H h a (.ins C dx fs) from hok a _ e)
 exact ⟨mA,⟨ob,n,ne⟩,r,q,z,d⟩
end
structure Cls (K:PySem.W.Frag) (C:Addr):Prop where
 pg:PySem.W.plainGet K C Str.empty=true
 hd:PySem.W.hasDictIn K C=true
 po:PySem.W.plainOver K C=true
 sa:PySem.W.findIn K (.ref C) "__setattr__" = some (some (.builtin "object.__setattr__"))
theorem Cls.get{K:PySem.W.Frag}{C:Addr}(c:Cls K C)(f:Str):PySem.W.plainGet K C f=true:=c.pg
structure Con (K:PySem.W.Frag) (C:Addr) (f:Str) (v:V) (u:Value):Prop where
 at_:PySem.W.findIn K (.ref C) f=some (some u)
 rel:RelV v u
 get:PySem.W.specialIn K u "__get__" = some none
 cp:PySem.W.copiedNames.contains f=false
structure Meth (K:PySem.W.Frag) (C:Addr) (m:Str) (f:Addr):Prop where
 at_:PySem.W.findIn K (.ref C) m=some (some (.ref f))
 fn:PySem.W.isFn K (.ref f)=true
 kp:PySem.W.keepIn K (.ref f)=true
section
variable {X:Cx} {pins:List (Addr × Obj)} {σ:St} {H:Hp} {s:Shared} {a C dx:Addr} {fs:List (Str × V)} {f:Str} {v:V} {A:Around} {E:Value->Shared->Prop}
theorem Inv.made (I : Inv X pins σ H s) : Inv X pins σ (upd (upd H s.heap.objs.size (.own (s.heap.objs.size + 1))) (s.heap.objs.size + 1) (.ins C s.heap.objs.size []))
    { s with heap:=(s.heap.push PySem.W.emptyDict).push (PySem.W.instObj C s.heap.objs.size) }:=by
 have e1:(s.heap.push PySem.W.emptyDict).get? s.heap.objs.size=some PySem.W.emptyDict:=Heap.get?_push_size s.heap rfl
 have e2:((s.heap.push PySem.W.emptyDict).push (PySem.W.instObj C s.heap.objs.size)).get? (s.heap.objs.size + 1)=some (PySem.W.instObj C s.heap.objs.size):=by
  have:=Heap.get?_push_size (s.heap.push PySem.W.emptyDict) (o:=PySem.W.instObj C s.heap.objs.size) rfl
  rwa [Heap.size_push] at this
 have e3:(s.heap.push PySem.W.emptyDict).Ns s.heap.objs.size (fun _=>none):=⟨PySem.W.emptyDict,#[],_,e1,rfl,(fun e he=>absurd he (by simp)),fun _=>rfl⟩
 have I1:=I.laid (a:=s.heap.objs.size) (o:=.own (s.heap.objs.size + 1)) (h':=s.heap.push PySem.W.emptyDict) (t':=s.toks) (fun b u q=>Heap.get?_push_of_some _ q) (Nat.le_refl _) ⟨_,e1⟩
 refine I1.laid (a:=s.heap.objs.size + 1) (o:=.ins C s.heap.objs.size []) (t':=s.toks) (fun b u q=>Heap.get?_push_of_some _ q) (Nat.le_of_eq (Heap.size_push _ _)) ?_
 have ne:s.heap.objs.size ≠ s.heap.objs.size + 1:=Nat.ne_of_lt (Nat.lt_succ_self _)
 refine ⟨by rw [aL ne,bt],Nat.zero_le _,ne,e2,fun _=>none,(Heap.Ns1.of_empty e3).at fun o q=>Heap.get?_push_of_some _ q,fun _=>True.intro,fun y hy=>absurd rfl hy⟩
end
section
variable {X:Cx} {o e value:Expr} {f:Str} {pos pos' tpos:Pos} {ta tv:TE}
end
section
variable {X:Cx} {pins:List (Addr × Obj)} {σ:St} {H:Hp} {s:Shared} {A:Around} {E:Value->Shared->Prop} {Q:Value->Shared->Prop} {c:Value} {b:Bool}
inductive wO (K:PySem.W.Frag) (H:Hp):V->Value->Prop where
 | non:wO K H .non (.type "NoneType")
 | bl (x:Bool):wO K H (.bl x) (.type "bool")
 | int (i:Int):wO K H (.int i) (.type "int")
 | str (x:Str):wO K H (.str x) (.type "str")
 | flt (x:UInt64):wO K H (.flt x) (.type "float")
 | lst {a:Addr} {xs:List V} (e:H a=some (.lst xs)):wO K H (.ref a) (.type "list")
 | frz {a:Addr} {o:Obj} {xs:List V} (e:H a=some (.frz o (.lst xs))):wO K H (.ref a) (.type "list")
 | tup {a:Addr} {xs:List V} (e:H a=some (.tup xs)):wO K H (.ref a) (.type "tuple")
 | dK {a:Addr} {kvs:List (Key × V)} (e:H a=some (.dK kvs)):wO K H (.ref a) (.type "dict")
 | dT {a:Addr} {kvs:List (List Key × V)} (e:H a=some (.dT kvs)):wO K H (.ref a) (.type "dict")
 | dN {a:Addr} {xs:List (PyData × Addr × Value)} (e:H a=some (.dN xs)):wO K H (.ref a) (.type "dict")
 | ins {a C dx : Addr} {fs : List (Str × V)} (e : H a = some (.ins C dx fs)) (cl : Cls K C) (ha : PySem.W.findIn K (.ref C) "__class__" = some (some (.builtin "object.__class__")))
     (hn:PySem.W.specialIn K (.builtin "object.__class__") "__get__" = some (some (.builtin "getset_descriptor.__get__"))) (htk:PySem.W.takesIn K (.builtin "object.__class__")=some true)
     (hm:PySem.W.mroIn K C (.type "object")=some true):wO K H (.ref a) (.ref C)
theorem eW {x : V} {u t : Value} (I : Inv X pins σ H s) (rx : RelV x u) (ty : wO X.K H x t) (e : PySem.W.kitOne X.K t c = some b) (h : ∀ tk, Q (.bool b) { s with toks := tk }) :
    wpAny (model X.prog X.w) A (call (.builtin "isinstance") [u,c]) Q E s:=by
 cases ty with
 | non=>cases (show u=Value.none from rx);exact PySem.W.kia_one PySem.W.kitx_none I.kIn True.intro e (fun z=>nomatch z) h
 | bl y=>cases (show u=Value.bool y from rx);exact PySem.W.kia_one PySem.W.kitx_bool I.kIn True.intro e (fun z=>nomatch z) h
 | int i=>obtain ⟨t,q⟩:=(show ∃ t,u=Value.int i t from rx);cases q;exact PySem.W.kia_one PySem.W.kitx_int I.kIn True.intro e (fun z=>nomatch z) h
 | str y=>obtain ⟨t,q⟩:=(show ∃ t,u=Value.str y t from rx);cases q;exact PySem.W.kia_one PySem.W.kitx_str I.kIn True.intro e (fun z=>nomatch z) h
 | flt y=>obtain ⟨t,q⟩:=(show ∃ t,u=Value.float y t from rx);cases q;exact PySem.W.kia_one PySem.W.kitx_float I.kIn True.intro e (fun z=>nomatch z) h
 | @lst a xs ea =>
  cases (show u=Value.ref a from rx)
  obtain ⟨_,_,n,_,h1⟩:=(show cB X.prog X.w H s.heap a (.lst xs) from I.hok a _ ea)
  exact PySem.W.kia_one PySem.W.kitx_list I.kIn ⟨_,h1,rfl⟩ e (fun z=>nomatch z) h
 | @frz a ob xs ea =>
  cases (show u=Value.ref a from rx)
  obtain ⟨_,_,_,n,_,h1⟩:=(show cB X.prog X.w H s.heap a (.frz ob (.lst xs)) from I.hok a _ ea)
  exact PySem.W.kia_one PySem.W.kitx_list I.kIn ⟨_,h1,rfl⟩ e (fun z=>nomatch z) h
 | @tup a xs ea =>
  cases (show u=Value.ref a from rx)
  obtain ⟨_,_,_,p⟩:=(show cB X.prog X.w H s.heap a (.tup xs) from I.hok a _ ea)
  obtain ⟨o,h1,h2,_⟩:=p.tup
  exact PySem.W.kia_one PySem.W.kitx_tuple I.kIn ⟨o,h1,h2⟩ e (fun z=>nomatch z) h
 | @dK a kvs ea =>
  cases (show u=Value.ref a from rx)
  obtain ⟨_,_,vs,_,p⟩:=(show cB X.prog X.w H s.heap a (.dK kvs) from I.hok a _ ea)
  obtain ⟨o,es,ep,h1,h2,_⟩:=p
  exact PySem.W.kia_one PySem.W.kitx_dict I.kIn ⟨o,h1,h2.1⟩ e (fun z=>nomatch z) h
 | @dT a kvs ea =>
  cases (show u=Value.ref a from rx)
  obtain ⟨_,_,xs,_,o,es,ep,h1,h2,_⟩:=(show cB X.prog X.w H s.heap a (.dT kvs) from I.hok a _ ea)
  exact PySem.W.kia_one PySem.W.kitx_dict I.kIn ⟨o,h1,h2.1⟩ e (fun z=>nomatch z) h
 | @dN a xs ea =>
  cases (show u=Value.ref a from rx)
  obtain ⟨_,_,o,es,ep,h1,h2,_⟩:=(show cB X.prog X.w H s.heap a (.dN xs) from I.hok a _ ea)
  exact PySem.W.kia_one PySem.W.kitx_dict I.kIn ⟨o,h1,h2.1⟩ e (fun z=>nomatch z) h
 | @ins a C dx fs ea cl ha hn htk hm =>
  cases (show u=Value.ref a from rx)
  obtain ⟨mA,O,_⟩:=NC I.hok ea
  obtain ⟨od,J,_⟩:=O.look
  exact PySem.W.kia_one (PySem.W.kitx_own (cl.get _) cl.hd ha hn htk hm) I.kIn J e (fun z=>nomatch z) h
end
end L2
namespace L2
open PySem PySem.Spec PyProof.Rows
structure bZ (k:Nat) (A:Around):Prop where
 hd:A.handled=none
 dp:A.depth + 3 * k + 5 < recursionLimit
 un:A.units + 16 * k + 200 < cLine
theorem bZ.mono{j k:Nat}{A:Around}(r:bZ k A)(h:j <= k):bZ j A:=⟨r.hd,by have:=r.dp;omega,by have:=r.un;omega⟩
theorem bZ.deeper{k:Nat}{A:Around}(r:bZ (k + 1) A)(env:Env):bZ k (A.deeper env) :=
 ⟨r.hd,by have:=r.dp;show A.depth + 1 + 3 * k + 5 < _;omega,by have:=r.un;show A.units + 3 + 16 * k + 200 < _;omega⟩
theorem bZ.depth{k:Nat}{A:Around}(r:bZ k A):A.depth < recursionLimit:=by have:=r.dp;omega
theorem bZ.units{k:Nat}{A:Around}(r:bZ k A):A.units + 64 < cLine:=by have:=r.un;omega
def R5:TA:=fun _ H Q=>Q [] H
def Ly(ta:TE)(tr:TA):TA:=fun σ H Q=>ta σ H fun x H1=>tr σ H1 fun xs H2=>Q (x :: xs) H2
section
variable {X:Cx} {e:Expr} {es:List Expr} {te:TE} {t:TA} {pos:Pos}
theorem Hj:PA X [] R5:=fun _ _ _ _ H Q I h=>Calls.spliced_nil ⟨[],H,I,.nil,h⟩
theorem yD(ha:PE X e te)(hr:PA X es t)(hs:starEach (e :: es) X.env=(false,eval e X.env) :: starEach es X.env:=by rfl):PA X (e :: es) (Ly te t):=by
 intro pos pins s σ H Q I h
 rw [hs]
 show wpAny _ _ (spliced ((false,eval e X.env) :: backTo pos (starEach es X.env))) _ _ s
 refine Calls.spliced_cons (thn (ha pins s σ H _ I h) fun u s1 ⟨x,H1,I1,r1,q1⟩=>?_)
 exact thn (hr pos pins s1 σ H1 _ I1 q1) fun us s2 ⟨xs,H2,I2,r2,q2⟩=>⟨x :: xs,H2,I2,.cons r1 r2,q2⟩
def TC(t:TA):TE:=fun σ H Q=>t σ H fun xs H1=>xs.length <= sizeLine /\ ∀ p,H1 p=none->Q (.ref p) (upd H1 p (.tup xs))
def TF(t:TA):TE:=fun σ H Q=>t σ H fun xs H1=>xs.length <= sizeLine /\ ∀ p,H1 p=none->Q (.ref p) (upd H1 p (.lst xs))
theorem Qj{x1}(h:PA X es t):PE X (.Tuple es x1 pos) (TC t):=by
 intro pins s σ H Q I hq
 refine wpAny_Tuple_spliced (thn (h pos pins s σ H _ I hq) fun us s1 ⟨xs,H1,I1,r,z,q⟩=>⟨by rw [<- r.length];exact z,?_⟩)
 have hf:H1 s1.heap.objs.size=none:=I1.hok.fresh (Nat.le_refl _)
 refine ⟨.ref s1.heap.objs.size,upd H1 s1.heap.objs.size (.tup xs),I1.laid (t':=s1.toks) (fun b u e=>Heap.get?_push_of_some _ e) (Nat.le_refl _) ?_,rfl,q _ hf⟩
 exact ⟨z,us,r,⟨_,Heap.get?_push_size _ rfl,rfl,_,rfl⟩⟩
theorem Qk(h:PA X es t):PE X (.List es pos) (TF t):=by
 intro pins s σ H Q I hq
 refine wpAny_List_spliced (thn (h pos pins s σ H _ I hq) fun us s1 ⟨xs,H1,I1,r,z,q⟩=>⟨by rw [<- r.length];exact z,?_⟩)
 have hf:H1 s1.heap.objs.size=none:=I1.hok.fresh (Nat.le_refl _)
 refine ⟨.ref s1.heap.objs.size,upd H1 s1.heap.objs.size (.lst xs),I1.laid (t':=s1.toks) (fun b u e=>Heap.get?_push_of_some _ e) (Nat.le_refl _) ?_,rfl,q _ hf⟩
 exact ⟨z,us,0,r,Heap.get?_push_size _ rfl⟩
end
abbrev Sp:=List V->Hp->VK->XK->Prop
abbrev CXT:=List Env->Hp->Shared->XK->Value->Shared->Prop
structure ND (P:Program) (w:World) (K:PySem.W.Frag) (mg:Str->Option Value) (base:Heap) (A:Around) (outer:List Env) (s:Shared) (H:Hp):Prop where
 frames:A.frames=some outer
 mod:Mod K mg base
 bs:∀ b o,base.get? b=some o->s.heap.get? b=some o /\ H b=none
 bsz:base.objs.size <= s.heap.objs.size
 xB:s.heap.FunFrames base outer
 frf:∀ b ∈ frs outer,H b=none
 hok:HOk P w H s.heap
 bare:AllBare s.gens
 tabs:∀ b fl,Tab K mg fl b->∃ ps,H b=some (.tbl ps) /\ ps[0]? = some (.bool fl)
def CE(outer:List Env)(P:Program)(w:World)(H:Hp)(s:Shared)(Q:VK)(u:Value)(s':Shared):Prop :=
 ∃ v H',s'.os=s.os /\ GB s.gens s'.gens /\ Un (frs outer) [] H H' s.heap s'.heap /\ HOk P w H' s'.heap /\ RelV v u /\ Q v H'
def CR(CX:CXT)(outer:List Env)(P:Program)(w:World)(H:Hp)(s:Shared)(Q:VK)(E:XK)(r:Result)(s':Shared):Prop :=
 match r with
 | .ok (.ret u)=>CE outer P w H s Q u s'
 | .ok _=>False
 | .error e=>CX outer H s E e s'
structure jd (P:Program) (w:World) (K:PySem.W.Frag) (mg:Str->Option Value) (base:Heap) (CX:CXT) (k:Nat) (f:Addr) (fd:FuncData) (ps:List Str) (sp:Sp):Prop where
 len:∀ vs H Q E,sp vs H Q E->vs.length=ps.length
 run:∀ (A:Around) (outer:List Env) (s:Shared) (H:Hp) (args:Args) (us:List Value) (vs:List V) (Q:VK) (E:XK),bZ k A->ND P w K mg base A outer s H->BindsTo s fd args (ps.zip us)->Vals vs us->sp vs H Q E ->
  codeAny (model P w) A (.call (.ref f) args) (CR CX outer P w H s Q E) s
theorem jd.mono {P : Program} {w : World} {K : PySem.W.Frag} {mg : Str -> Option Value} {base : Heap} {CX : CXT} {j k : Nat} {f : Addr} {fd : FuncData} {ps : List Str} {sp : Sp} (F : jd P w K mg base CX j f fd ps sp) (h : j <= k) :
    jd P w K mg base CX k f fd ps sp:=⟨F.len,fun A outer s H args us vs Q E hr=>F.run A outer s H args us vs Q E (hr.mono h)⟩
theorem jd.imp {P : Program} {w : World} {K : PySem.W.Frag} {mg : Str -> Option Value} {base : Heap} {CX : CXT} {k : Nat} {f : Addr} {fd : FuncData} {ps : List Str} {sp sp' : Sp} (F : jd P w K mg base CX k f fd ps sp)
    (h:∀ vs H Q E,sp' vs H Q E->sp vs H Q E):jd P w K mg base CX k f fd ps sp' :=
 ⟨fun vs H Q E q=>F.len vs H Q E (h _ _ _ _ q),fun A outer s H args us vs Q E hr he hb hv hs=>F.run A outer s H args us vs Q E hr he hb hv (h _ _ _ _ hs)⟩
section
variable {X:Cx} {pins:List (Addr × Obj)} {σ:St} {H:Hp} {s s':Shared}
theorem Inv.Ql(I:Inv X pins σ H s):ND X.prog X.w X.K X.mg X.base X.A X.stack s H :=
 ⟨I.ok.frames,I.ok.mod,I.bs,Nat.le_trans I.ok.bsz I.sz,I.stack,I.uO,I.hok,I.bare.1,I.tabs⟩
theorem Inv.after{Q:VK}{u:Value}(I:Inv X pins σ H s)(h:CE X.stack X.prog X.w H s Q u s'):EP X pins σ Q u s':=by
 obtain ⟨v,H',os,bare,un,hok,r,q⟩:=h
 obtain ⟨hh,g,d,t,os'⟩:=s'
 obtain rfl:os'=s.os:=os
 exact ⟨v,H',I.call (h':=hh) (g':=g) (d':=d) (t':=t) (ch:=[]) un hok bare (fun b z=>absurd z (by simp)),r,q⟩
end
def O4(sp:Sp)(dvs:List V)(E:XK)(t:TA):TE:=fun σ H Q=>t σ H fun vs H1=>sp (vs ++ dvs) H1 Q E
def Binds(K:PySem.W.Frag)(fd:FuncData)(ps:List Str)(ds:List Value):Prop :=
 ∀ (s:Shared) (us:List Value),K.In s.heap->(us ++ ds).length=ps.length->BindsTo s fd ⟨us,[]⟩ (ps.zip (us ++ ds))
theorem Binds.all{K:PySem.W.Frag}{fd:FuncData}{ps:List Str}(h:∀ us:List Value,us.length=ps.length->bindArgs fd ⟨us,[]⟩=pure (ps.zip us)):Binds K fd ps []:=fun s us _ hl=>by
 rw [List.append_nil] at hl ⊢
 exact .of_eq (h us hl)
def Passes(CX:CXT)(X:Cx)(E:XK):Prop:=∀ (pins:List (Addr × Obj)) (σ:St) (H:Hp) (s:Shared) (e:Value) (s':Shared),Inv X pins σ H s->CX X.stack H s E e s'->X.xe e s'
section
variable {X:Cx} {CX:CXT} {k:Nat} {f C:Addr} {fd:FuncData} {ps:List Str} {sp:Sp} {dvs:List V} {ds:List Value} {E:XK} {x m:Str} {p pos apos:Pos} {e o:Expr} {es:List Expr} {ta:TE} {t:TA}
theorem Qm {pins : List (Addr × Obj)} {σ : St} {H : Hp} {s : Shared} {Q : VK} {us : List Value} {vs : List V} (F : jd X.prog X.w X.K X.mg X.base CX k f fd ps sp) (hr : bZ k X.A) (hb : Binds X.K fd ps ds) (hd : Vals dvs ds) (hx : Passes CX X E)
    (I:Inv X pins σ H s) (r:Vals vs us) (h:sp (vs ++ dvs) H Q E):wpAny (model X.prog X.w) X.A (call (.ref f) us) (EP X pins σ Q) X.xe s:=by
 have r2:Vals (vs ++ dvs) (us ++ ds):=r.append hd
 have hl:(us ++ ds).length=ps.length:=by rw [<- r2.length];exact F.len _ _ _ _ h
 refine wpAny_call (codeAny_mono (F.run X.A X.stack s H ⟨us,[]⟩ (us ++ ds) (vs ++ dvs) Q E hr I.Ql (hb s us I.kIn hl) r2 h) fun r s' hq=>?_)
 cases r with
 | error e=>exact hx pins σ H s e s' I hq
 | ok fl =>
  cases fl with
  | ret u=>exact I.after hq
  | next=>exact False.elim hq
  | brk=>exact False.elim hq
  | cont=>exact False.elim hq
theorem NF (F : jd X.prog X.w X.K X.mg X.base CX k f fd ps sp) (hr : bZ k X.A) (hg : Gl X x) (hm : X.mg x = some (.ref f)) (hk : PySem.W.keepIn X.K (.ref f) = true) (hb : Binds X.K fd ps ds) (hd : Vals dvs ds) (hx : Passes CX X E)
    (ha:PA X (e :: es) t) (hdb:(x == ("__debug__" : Str))=false:=by decide) (he:starEach (e :: es) X.env=(false,eval e X.env) :: starEach es X.env:=by rfl) (hpl:(backTo pos (starEach es X.env)).any (·.1)=false:=by rfl) :
    PE X (.Call (.Name x p) (e :: es) [] pos) (O4 sp dvs E t):=by
 intro pins s σ H Q I h
 refine wpAny_Call_Name_kw (si I hg hm ?_ hdb)
 refine PySem.W.callWith_K (h₀:=X.base) I.ok.mod.kin hk (thn (ha pos pins s σ H _ I h) fun us s1 ⟨vs,H1,I1,r,q⟩=>⟨I1.kIn,?_⟩) he hpl
 exact Qm F hr hb hd hx I1 r q
structure Mk (K:PySem.W.Frag) (C f:Addr):Prop where
 makes:PySem.W.makesIn K C=true
 init:PySem.W.findIn K (.ref C) "__init__" = some (some (.ref f))
 fn:PySem.W.isFn K (.ref f)=true
 kp:PySem.W.keepIn K (.ref C)=true
end
section
variable {X:Cx} {CX:CXT} {k:Nat} {f C:Addr} {fd:FuncData} {ps ks:List Str} {sp:Sp} {E:XK} {x m:Str} {p pos apos kpos:Pos} {e o:Expr} {es:List Expr} {kws:List Keyword} {te ta:TE} {t tk:TA} {nm:Option Str}
structure TH (K:PySem.W.Frag) (fd:FuncData) (ps ks:List Str) (g:List Value->List Value->List Value) (gV:List V->List V->List V):Prop where
 to:∀ (s:Shared) (us ws:List Value),K.In s.heap->(g us ws).length=ps.length->BindsTo s fd ⟨us,ks.zip ws⟩ (ps.zip (g us ws))
 rel:∀ {vs:List V} {us:List Value} {zs:List V} {ws:List Value},Vals vs us->Vals zs ws->Vals (gV vs zs) (g us ws)
variable {g:List Value->List Value->List Value} {gV:List V->List V->List V}
end
structure aN (N P:List Str) (sc:Scope):Prop where
 kind:sc.kind = .function
 co:sc.isCoroutine=false
 gen:sc.isGenerator=false
 nd:N.Nodup
 pre:N.take P.length=P
 par:∀ x ∈ P,sc.names.lookup x=some .local \/ sc.names.lookup x=some .cell
 Qn:∀ y ∈ sc.names,y.2 ≠ .free
theorem CC{kindOf:Str->Option NameKind}{x:Str}:∀ {binds:List (Str × Value)} {m:Str->Option Value},(∀ v,(x,v) ∉ binds)->bindL kindOf binds m x=m x
 | [],_,_=>rfl
 | (n,v) :: r,m,h=>by
  unfold bindL
  rw [CC fun w hw=>h w (List.mem_cons_of_mem _ hw)]
  split
  . have:x ≠ n:=by rintro rfl;exact h v List.mem_cons_self
    simp [this]
  . rfl
theorem CD{kindOf:Str->Option NameKind}{x:Str}:∀ {binds:List (Str × Value)} {m:Str->Option Value},(∀ v,(x,v) ∉ binds)->bindC kindOf binds m x=m x
 | [],_,_=>rfl
 | (n,v) :: r,m,h=>by
  unfold bindC
  rw [CD fun w hw=>h w (List.mem_cons_of_mem _ hw)]
  split
  . rfl
  . have:x ≠ n:=by rintro rfl;exact h v List.mem_cons_self
    simp [this]
theorem CF {kindOf : Str -> Option NameKind} {x : Str} {v : Value} : ∀ {P : List Str} {vs : List Value} {i : Nat} {m : Str -> Option Value}, P.Nodup -> P[i]? = some x -> vs[i]? = some v -> kindOf x = some .local ->
    bindL kindOf (P.zip vs) m x=some v
 | [],_,_,_,_,h,_,_=>by simp at h
 | _ :: _,[],_,_,_,_,h,_=>by simp at h
 | p :: P,w :: vs,0,m,nd,h1,h2,hk=>by
  simp at h1 h2;subst h1;subst h2
  show bindL kindOf ((p,w) :: P.zip vs) m p=_
  unfold bindL
  rw [CC fun v hv=>(List.nodup_cons.mp nd).1 (List.of_mem_zip hv).1,if_pos hk]
  simp
 | p :: P,w :: vs,i + 1,m,nd,h1,h2,hk=>by
  show bindL kindOf ((p,w) :: P.zip vs) m x=_
  unfold bindL
  exact CF (i:=i) (List.nodup_cons.mp nd).2 (by simpa using h1) (by simpa using h2) hk
theorem CG {kindOf : Str -> Option NameKind} {x : Str} {v : Value} : ∀ {P : List Str} {vs : List Value} {i : Nat} {m : Str -> Option Value}, P.Nodup -> P[i]? = some x -> vs[i]? = some v -> kindOf x ≠ some .local ->
    bindC kindOf (P.zip vs) m x=some v
 | [],_,_,_,_,h,_,_=>by simp at h
 | _ :: _,[],_,_,_,_,h,_=>by simp at h
 | p :: P,w :: vs,0,m,nd,h1,h2,hk=>by
  simp at h1 h2;subst h1;subst h2
  show bindC kindOf ((p,w) :: P.zip vs) m p=_
  unfold bindC
  rw [CD fun v hv=>(List.nodup_cons.mp nd).1 (List.of_mem_zip hv).1,if_neg hk]
  simp
 | p :: P,w :: vs,i + 1,m,nd,h1,h2,hk=>by
  show bindC kindOf ((p,w) :: P.zip vs) m x=_
  unfold bindC
  exact CG (i:=i) (List.nodup_cons.mp nd).2 (by simpa using h1) (by simpa using h2) hk
def start(N:List Str)(vs:List V):St:=vs.map some ++ List.replicate (N.length - vs.length) none
def ja(CX:CXT)(P:Program)(w:World)(K:PySem.W.Frag)(mg:Str->Option Value)(base:Heap)(N:List Str)(qual:Str)(scope:Scope)(f:Addr)(cd:Value)(A:Around)(outer:List Env)(s:Shared)(H:Hp)(E:XK):Cx where
 prog:=P
 w:=w
 K:=K
 mg:=mg
 base:=base
 A:=A.deeper (envOfC qual scope s.heap.objs.size f cd)
 N:=N
 s_0:=s
 H_0:=H
 env:=envOfC qual scope s.heap.objs.size f cd
 outer:=outer
 stack:=envOfC qual scope s.heap.objs.size f cd :: outer
 ex:=[]
 calm:=true
 fn:=fun _=>true
 pn:=[]
 xe:=fun e s'=>wpAny (model P w) (A.deeper (envOfC qual scope s.heap.objs.size f cd)) (leaving (envOfC qual scope s.heap.objs.size f cd) e) (fun _ s''=>CX outer H s E e s'') (fun e' s''=>CX outer H s E e' s'') s'
theorem FP{sc:Scope}{n:Nat}{x:Str}(h:sc.names.lookup x=some .cell):∃ c,(cellsFrom n sc.names []).lookup x=some c:=by
 have q:=PySem.W.cellsFrom_some sc.names n [] (.inl h)
 exact Option.isSome_iff_exists.mp q
theorem CH {CX : CXT} {P : Program} {w : World} {K : PySem.W.Frag} {mg : Str -> Option Value} {base : Heap} {N ps : List Str} {qual : Str} {scope : Scope} {f : Addr} {cd : Value} {A : Around} {outer : List Env} {s s1 : Shared} {H : Hp} {E : XK} {us : List Value} {vs : List V}
    (S:aN N ps scope) (hd:A.handled=none) (e0:ND P w K mg base A outer s H) (hl:vs.length=ps.length) (r:Vals vs us)
    (x:InCallC s s.heap.objs.size (bindL (envOfC qual scope s.heap.objs.size f cd).kindOf (ps.zip us) fun _=>none) (cellsFrom (s.heap.objs.size + 1) scope.names []) (bindC (envOfC qual scope s.heap.objs.size f cd).kindOf (ps.zip us) fun _=>none) s1) :
    Inv (ja CX P w K mg base N qual scope f cd A outer s H E) [] (start N vs) H s1:=by
 have hpl:ps.length <= N.length:=by have:=congrArg List.length S.pre;rw [List.length_take] at this;omega
 obtain ⟨h1,tk,rfl,hk⟩:=x.done
 have noA:∀ b:Addr,b ∉ (ja CX P w K mg base N qual scope f cd A outer s H E).ex:=fun b z=>absurd (show b ∈ ([]:List Addr) from z) (by simp)
 refine ⟨⟨e0.mod,S.kind,rfl,rfl,Nat.le_refl _,fun y z c h1 h2=>?_,fun y hy=>?_,fun y c _ h=>?_,fun _=>hd,Around.frames_deeper e0.frames,.inr ⟨rfl,rfl⟩,fun b z=>absurd z (noA b),e0.bs,e0.bsz,fun b _ _=>noA b,fun b z=>absurd z (noA b),e0.xB,e0.frf,e0.tabs⟩,
  rfl,⟨e0.bare,Nat.le_refl _⟩,Un.kept hk,⟨_,x.toInCall.ns,fun i y v h1 h2 h3=>?_⟩,fun y c h=>⟨_,x.cell y c h⟩,e0.hok.fresh (Nat.le_refl _),fun y c h=>?_,fun p hp=>absurd (show p ∈ ([]:List (Addr × Obj)) from hp) (by simp),e0.hok.kept hk,?_⟩
 . exact name_of_addr x.apart (PySem.mem_of_lookup h1) (PySem.mem_of_lookup h2)
 . have hy:scope.names.lookup y=some .cell \/ scope.names.lookup y=some .free:=hy
   rcases hy with hy | hy
   . exact FP hy
   . exact absurd rfl (S.Qn _ (PySem.mem_of_lookup hy))
 . exact Nat.le_of_lt (x.above y c (PySem.mem_of_lookup h))
 . have hi:i < vs.length:=by
    unfold start at h2
    by_cases hi:i < vs.length
    . exact hi
    . rw [List.getElem?_append_right (by simpa using hi)] at h2
      rw [List.getElem?_replicate] at h2
      split at h2 <;> cases h2
   have ha:vs[i]? = some v:=by
    unfold start at h2
    rw [List.getElem?_append_left (by simpa using hi),List.getElem?_map] at h2
    cases e:vs[i]? with
    | none=>rw [e] at h2;cases h2
    | some a=>rw [e] at h2;cases h2;rfl
   obtain ⟨u,hu,rv⟩:=r.get ha
   have hp:ps[i]? = some y:=by
    rw [<- S.pre,List.getElem?_take_of_lt (by omega)];exact h1
   have ndP:ps.Nodup:=by rw [<- S.pre];exact S.nd.sublist (List.take_sublist _ _)
   refine ⟨u,rv,?_⟩
   rcases S.par y (List.mem_of_getElem? hp) with k | k
   . exact .inl ⟨k,CF ndP hp hu k⟩
   . obtain ⟨c,e⟩:=FP (n:=s.heap.objs.size + 1) k
     refine .inr ⟨.inl k,c,e,?_⟩
     have q:=x.cell y c e
     rw [CG ndP hp hu (by show scope.names.lookup y ≠ _;rw [k];decide)] at q
     exact q
 . exact e0.hok.fresh (Nat.le_of_lt (x.above y c (PySem.mem_of_lookup h)))
 . unfold start
   show _=N.length
   rw [List.length_append,List.length_map,List.length_replicate]
   omega
theorem Lz {CX : CXT} {P : Program} {w : World} {K : PySem.W.Frag} {mg : Str -> Option Value} {base : Heap} {k : Nat} {f : Addr} {name qual : Str} {params : Arguments} {body : List Stmt} {scope : Scope} {dV kV doc pm cdv ct oc : Value} {an od : Option Addr}
    {osl:Array (Option Value)} {N ps:List Str} {sp:Sp} (lk:K.lookup f=some ⟨oc,od,.func (PySem.W.fnOf name qual params body scope dV kV doc pm an cdv ct),osl⟩) (hcd:PySem.W.codeIn K cdv qual=true) (S:aN N ps scope)
    (len:∀ vs H Q E,sp vs H Q E->vs.length=ps.length)
    (hbody:∀ (A:Around) (outer:List Env) (s:Shared) (H:Hp) (vs:List V) (Q:VK) (E:XK),bZ k (A.deeper (envOfC qual scope s.heap.objs.size f cdv))->sp vs H Q E ->
     ∃ t,PSs (ja CX P w K mg base N qual scope f cdv A outer s H E) body t /\ t { nx:=fun _ H'=>Q .non H',rt:=Q } (start N vs) H) :
    jd P w K mg base CX (k + 1) f (PySem.W.fnOf name qual params body scope dV kV doc pm an cdv ct) ps sp:=by
 refine ⟨len,fun A outer s H args us vs Q E hr e0 hb r hsp=>?_⟩
 have hl:=len _ _ _ _ hsp
 have KX:K.In s.heap:=e0.mod.kin.keeps fun b o e=>(e0.bs b o e).1
 have lim:s.heap.NoLimit:=e0.mod.nolimit.keeps fun b o e=>(e0.bs b o e).1
 have hkind:∀ y ∈ ps.zip us,scope.names.lookup y.1=some .local \/ (scope.names.lookup y.1=some .cell /\ ((cellsFrom (s.heap.objs.size + 1) scope.names []).lookup y.1).isSome=true):=fun ⟨n,v⟩ hy=>by
  rcases S.par n (List.of_mem_zip hy).1 with q | q
  . exact .inl q
  . exact .inr ⟨q,PySem.W.cellsFrom_some _ _ _ (.inl q)⟩
 refine codeAny_call_function hr.depth (KX _ _ lk) rfl S.co S.gen rfl (PySem.W.codeRec_of KX hcd) (hb _ _ _ _ ?_)
 refine wpAny_newFunctionEnv_cells S.kind hkind fun env he s1 x=>?_
 subst he
 refine ⟨lim.keeps x.toInCall.keep,codeAny_func ?_⟩
 obtain ⟨t,ht,hq⟩:=hbody A outer s H vs Q E (hr.deeper _) hsp
 have I:Inv (ja CX P w K mg base N qual scope f cdv A outer s H E) [] (start N vs) H s1:=CH S hr.hd e0 hl r x
 refine wpAny_mono (ht [] s1 (start N vs) H _ I hq) (fun fl s' hs=>?_) fun e s' hs=>hs
 have fin:∀ {σ':St} {H':Hp} {v:V} {u:Value},Inv (ja CX P w K mg base N qual scope f cdv A outer s H E) [] σ' H' s'->RelV v u->Q v H'->CE outer P w H s Q u s' :=
  fun {σ' H' v u} J rv q=>⟨v,H',J.os,J.bare,J.base,J.hok,rv,q⟩
 cases fl with
 | ret u =>
  obtain ⟨v,σ',H',J,rv,q⟩:=hs
  exact fin J rv q
 | next =>
  obtain ⟨σ',H',J,q⟩:=hs
  exact fin (v:=V.non) (u:=Value.none) J rfl q
 | brk =>
  obtain ⟨_,_,_,q⟩:=hs
  exact False.elim q
 | cont =>
  obtain ⟨_,_,_,q⟩:=hs
  exact False.elim q
end L2
namespace L2
open PySem PySem.Spec PyProof.Rows
section
variable {X:Cx} {x:Str} {p pos:Pos} {e:Expr} {es:List Expr} {t:TA} {id T:String} {r:List V->Hp->VK->Prop}
def tCB(r:List V->Hp->VK->Prop)(t:TA):TE:=fun σ H Q=>t σ H fun vs H1=>r vs H1 Q
theorem LA (hc : l6 X (.builtin id) r) (hg : Gl X x) (hm : X.mg x = none) (hv : bootBuiltins x = some (.builtin id)) (ha : PA X (e :: es) t) (hn : x ≠ "__name__" := by decide) (hdb : (x == ("__debug__" : Str)) = false := by decide)
    (he:starEach (e :: es) X.env=(false,eval e X.env) :: starEach es X.env:=by rfl) (hpl:(backTo pos (starEach es X.env)).any (·.1)=false:=by rfl):PE X (.Call (.Name x p) (e :: es) [] pos) (tCB r t):=by
 intro pins s σ H Q I h
 refine wpAny_Call_Name_kw (jB I hg hm hv ?_ hn hdb)
 exact PyProof.Rows.callWith_builtin1 (thn (ha pos pins s σ H _ I h) fun us s1 ⟨vs,H1,I1,r1,q1⟩=>hc pins s1 σ H1 vs us Q I1 r1 q1) he hpl
theorem JW (hc : l6 X (.type T) r) (hg : Gl X x) (hm : X.mg x = none) (hv : bootBuiltins x = some (.type T)) (ha : PA X (e :: es) t) (hn : x ≠ "__name__" := by decide) (hdb : (x == ("__debug__" : Str)) = false := by decide)
    (he:starEach (e :: es) X.env=(false,eval e X.env) :: starEach es X.env:=by rfl) (hpl:(backTo pos (starEach es X.env)).any (·.1)=false:=by rfl):PE X (.Call (.Name x p) (e :: es) [] pos) (tCB r t):=by
 intro pins s σ H Q I h
 refine wpAny_Call_Name_kw (jB I hg hm hv ?_ hn hdb)
 exact PyProof.Rows.callWith_type1 (thn (ha pos pins s σ H _ I h) fun us s1 ⟨vs,H1,I1,r1,q1⟩=>hc pins s1 σ H1 vs us Q I1 r1 q1) he hpl
end
end L2
namespace HT
open PySem PyProof.Rows
section
open PySem.SeqAt
open PySem.AutoSeq1 (wpAny_loadPart')
open PySem.MeetsSeq PySem.MeetsSeq2 PySem.MeetsSeq3
end
section
variable {prog:Program} {w:World} {A:Around} {E:Value->Shared->Prop} {s:Shared}
theorem NG {t b : Addr} {vs ws : List Value} {Q : Value -> Shared -> Prop} (ht : IsTup s.heap t vs.toArray) (hb : IsTup s.heap b ws.toArray) (hv : vs ≠ [])
    (h1:ws = []->Q (.ref t) s) (h2:ws ≠ []->Q (.ref s.heap.objs.size) { s with heap:=s.heap.push { cls:=.type "tuple",data:=.seq (vs ++ ws).toArray } })
    (hsz:vs.length + ws.length <= sizeLine):wpAny (model prog w) A (binaryOp .Add (.ref t) (.ref b)) Q E s:=by
 obtain ⟨⟨cls,dd,data,sl⟩,ho,hc,n,hd⟩:=id ht
 obtain ⟨⟨cls2,dd2,data2,sl2⟩,ho2,hc2,n2,hd2⟩:=id hb
 simp only at hc hd hc2 hd2
 subst hc hd hc2 hd2
 have e:vs.toArray ++ ws.toArray=(vs ++ ws).toArray:=by simp
 by_cases hw:ws = []
 . exact concat_meets ⟨_,ho,rfl⟩ ⟨_,ho2,rfl⟩ noFill_tuple_add seq_tuple_add PySem.F.slot_tuple_add PySem.F.entry_tuple_add (PySem.F.args_tuple_add_2 _ _)
    (tuple_addW1 t b vs.toArray ws.toArray n n2 dd dd2 sl sl2 (by simpa using hv) (by simp [hw])) ⟨ho,ho2,h1 hw⟩
 . refine concat_meets ⟨_,ho,rfl⟩ ⟨_,ho2,rfl⟩ noFill_tuple_add seq_tuple_add PySem.F.slot_tuple_add PySem.F.entry_tuple_add (PySem.F.args_tuple_add_2 _ _)
    (tuple_addW2 t b vs.toArray ws.toArray n n2 dd dd2 sl sl2 (by simpa using hv) (by simpa using hw) (by rw [List.size_toArray,List.size_toArray];exact hsz)) ⟨ho,ho2,?_⟩
   rw [e]
   exact h2 hw
def sIx(n d:Nat):Option Int->Nat
 | none=>d
 | some v=>if v < 0 then (v + (n:Int)).toNat else min v.toNat n
theorem Hk(n d:Nat)(hd:d <= n)(o:Option Int):sIx n d o <= n:=by
 cases o with
 | none=>exact hd
 | some v =>
  show (if v < 0 then (v + (n:Int)).toNat else min v.toNat n) <= n
  by_cases hv:v < 0
  . rw [if_pos hv];omega
  . rw [if_neg hv];exact Nat.min_le_right _ _
theorem Iy(v:Int)(n d:Nat):(if v < 0 then max (v + (n:Int)) 0 else min v (n:Int))=((sIx n d (some v):Nat):Int):=by
 show (if v < 0 then max (v + (n:Int)) 0 else min v (n:Int))=(((if v < 0 then (v + (n:Int)).toNat else min v.toNat n):Nat):Int)
 by_cases hv:v < 0
 . simp only [if_pos hv];omega
 . simp only [if_neg hv];omega
theorem Hl(lo hi:Option Int)(n:Nat):Builtin.Slice.sliceAdjust lo hi 1 (n:Int)=(((sIx n 0 lo:Nat):Int),((sIx n n hi:Nat):Int)):=by
 have h1:¬ ((1:Int) < 0):=by omega
 unfold Builtin.Slice.sliceAdjust
 simp only [h1,if_false]
 refine Prod.ext ?_ ?_
 . cases lo with
   | none=>rfl
   | some v=>exact Iy v n 0
 . cases hi with
   | none=>rfl
   | some v=>exact Iy v n n
theorem Hm(i j:Nat):Builtin.Slice.slicePlaces (i:Int) (j:Int) 1=j - i:=by
 unfold Builtin.Slice.slicePlaces
 have h1:(1:Int) > 0:=by omega
 simp only [h1,if_true,Int.ediv_one]
 split <;> omega
theorem l7{v:Value}{o:Option Int}{Q:Option Int->Shared->Prop}(p:IsPart v o)(h:Q o s):wpAny (model prog w) A (Builtin.Slice.slicePartIndex v) Q E s:=by
 cases p with
 | none=>exact slicePart_none h
 | int i t=>exact slicePart_int h
theorem nS {sl : Addr} {vl vu : Value} {lo hi : Option Int} {n : Nat} {Q : Int × Int × Nat -> Shared -> Prop} (hs : s.heap.IsSliceOf sl vl vu .none) (pl : IsPart vl lo) (pu : IsPart vu hi)
    (h:Q (((sIx n 0 lo:Nat):Int),1,sIx n n hi - sIx n 0 lo) s):wpAny (model prog w) A (Builtin.Slice.sliceApplied (.ref sl) (pure (n:Int))) Q E s:=by
 obtain ⟨os,hos,hcs,hds⟩:=id hs
 unfold Builtin.Slice.sliceApplied Builtin.Slice.sliceFields
 refine wpAny_bind (wpAny_bind (wpAny_field hos hds (x:=vl) rfl (wpAny_bind (wpAny_field hos hds (x:=vu) rfl (wpAny_bind (wpAny_field hos hds (x:=.none) rfl (wpAny_pure ?_)))))))
 refine wpAny_bind (slicePart_none ?_)
 show wpAny _ _ (if ((1:Int) == 0)=true then _ else _) _ _ s
 rw [if_neg (by decide)]
 refine wpAny_bind (l7 pl (wpAny_bind (l7 pu (wpAny_bind (wpAny_pure ?_)))))
 show wpAny _ _ (match Builtin.Slice.sliceAdjust lo hi 1 (n:Int) with | (lo,hi)=>pure (lo,(1:Int),Builtin.Slice.slicePlaces lo hi 1)) _ _ s
 rw [Hl lo hi n]
 show wpAny _ _ (pure (((sIx n 0 lo:Nat):Int),(1:Int),Builtin.Slice.slicePlaces ((sIx n 0 lo:Nat):Int) ((sIx n n hi:Nat):Int) 1)) _ _ s
 rw [Hm]
 exact wpAny_pure h
theorem LB(xs:Array Value)(i k:Nat):((List.range k).filterMap fun (m:Nat)=>xs[((i:Int) + (m:Int) * 1).toNat]?).toArray=((xs.toList.drop i).take k).toArray:=by
 have e:(fun (m:Nat)=>xs[((i:Int) + (m:Int) * 1).toNat]?)=fun m=>xs[i + m]? := by
  funext m
  have:((i:Int) + (m:Int) * 1).toNat=i + m:=by omega
  rw [this]
 rw [e]
 have:=pick_run xs i k
 rw [List.filterMap_map] at this
 have e2:((fun x=>xs[x]?) ∘ fun x=>i + x)=fun m=>xs[i + m]? := rfl
 rw [e2] at this
 rw [this]
theorem vy {t sl : Addr} {items : Array Value} {vl vu : Value} {lo hi : Option Int} {Q : Value -> Shared -> Prop} (ht : IsTup s.heap t items) (hs : s.heap.IsSliceOf sl vl vu .none) (pl : IsPart vl lo) (pu : IsPart vu hi)
    (hw:¬ (sIx items.size 0 lo=0 /\ sIx items.size items.size hi=items.size))
    (h:Q (.ref s.heap.objs.size) { s with heap:=s.heap.push { cls:=.type "tuple",data:=.seq ((items.toList.drop (sIx items.size 0 lo)).take (sIx items.size items.size hi - sIx items.size 0 lo)).toArray } })
    (hsz:items.size <= sizeLine):wpAny (model prog w) A (getItem (.ref t) (.ref sl)) Q E s:=by
 have htake:sizeOk (.seq ((items.toList.drop (sIx items.size 0 lo)).take (sIx items.size items.size hi - sIx items.size 0 lo)).toArray):=by
  show ((items.toList.drop (sIx items.size 0 lo)).take (sIx items.size items.size hi - sIx items.size 0 lo)).toArray.size <= sizeLine
  rw [List.size_toArray,List.length_take,List.length_drop,Array.length_toList]
  omega
 have hj:sIx items.size items.size hi <= items.size:=Hk _ _ (Nat.le_refl _) hi
 obtain ⟨os,hos,hcs,hds⟩:=id hs
 have hTs:s.TypeIs (.ref sl) "slice" := ⟨os,hos,hcs⟩
 unfold getItem
 try with_reducible refine wpAny_holding ?_
 first | refine wpAny_bind (wpAny_pure ?_) | skip
 refine wpAny_bind (wpAny_sequenceKey ht.typeIs (by decide) ?_)
 refine wpAny_bind (wpAny_callSpecial?_slot (name:=Str.ofString "__getitem__") ht.typeIs PyProof.Rows.slot_tuple_getitem
  (wpAny_call_entry PyProof.Rows.slot_tuple_getitem ht.typeIs entry_tuple_getitem ?_ (args_tuple_getitem _ _)))
 show wpAny _ _ (Builtin.Tuple.tupleItemsOf (.ref t) >>= _) _ _ s
 refine wpAny_bind (tupleItemsOf_ ht ?_)
 refine wpAny_bind (wpAny_typeOf hTs ?_)
 rw [if_pos (by decide)]
 refine wpAny_bind (nS hs pl pu ?_)
 have hno:¬ ((((sIx items.size 0 lo:Nat):Int) == 0 && (1:Int) == 1 && (sIx items.size items.size hi - sIx items.size 0 lo) == items.size)=true):=by
  intro q
  rw [Bool.and_eq_true,Bool.and_eq_true] at q
  have q1:((sIx items.size 0 lo:Nat):Int)=0:=eq_of_beq q.1.1
  have q2:sIx items.size items.size hi - sIx items.size 0 lo=items.size:=eq_of_beq q.2
  exact hw ⟨by omega,by omega⟩
 show wpAny _ _ (if (((sIx items.size 0 lo:Nat):Int) == 0 && (1:Int) == 1 && (sIx items.size items.size hi - sIx items.size 0 lo) == items.size)=true then _ else _) _ _ s
 rw [if_neg hno,LB]
 first
  | exact wpAny_bind (m:=Builtin.Tuple.tupleExact _) (wpAny_newObj_type (wpAny_pure ⟨_,rfl,wpAny_pure h⟩) htake)
  | exact wpAny_bind (m:=Builtin.Tuple.tupleExact _) (wpAny_newObj_type (wpAny_bind (wpAny_pure (wpAny_pure ⟨_,rfl,wpAny_pure h⟩))) htake)
  | exact wpAny_bind (wpAny_bind (m:=Builtin.Tuple.tupleExact _) (wpAny_newObj_type (wpAny_pure (wpAny_pure ⟨_,rfl,wpAny_pure h⟩)) htake))
  | exact wpAny_bind (wpAny_bind (m:=Builtin.Tuple.tupleExact _) (wpAny_newObj_type (wpAny_pure ⟨_,rfl,wpAny_pure h⟩) htake))
end
end HT
namespace L2
open PySem PySem.Spec PyProof.Rows
abbrev TO:=St->Hp->(Option Int->Hp->Prop)->Prop
def PO(X:Cx)(e:Option Expr)(t:TO):Prop :=
 ∀ (pins:List (Addr × Obj)) (s:Shared) (σ:St) (H:Hp) (Q:Option Int->Hp->Prop),Inv X pins σ H s->t σ H Q ->
  wpAny (model X.prog X.w) X.A (evalPart e X.env) (fun u s'=>∃ o H',Inv X pins σ H' s' /\ IsPart u o /\ Q o H') X.xe s
def NH:TO:=fun _ H Q=>Q none H
def R6(t:TE):TO:=fun σ H Q=>t σ H fun x H1=>∃ i,x = .int i /\ Q (some i) H1
section
variable {X:Cx} {e:Expr} {te:TE} {lo hi:Option Expr} {tl th:TO} {pos p2:Pos}
theorem NI:PO X none NH:=by
 intro pins s σ H Q I h
 rw [evalPart_none]
 exact wpAny_pure ⟨none,H,I,.none,h⟩
theorem NJ(h:PE X e te):PO X (some e) (R6 te):=by
 intro pins s σ H Q I hw
 rw [evalPart_some]
 refine thn (h pins s σ H _ I hw) fun u s1 ⟨x,H1,I1,r1,q1⟩=>?_
 obtain ⟨i,rfl,q⟩:=q1
 obtain ⟨t,rfl⟩:=r1
 exact ⟨some i,H1,I1,.int i t,q⟩
def SlR(X:Cx)(r:V->Option Int->Option Int->Hp->VK->Prop):Prop :=
 ∀ (pins:List (Addr × Obj)) (s:Shared) (σ:St) (H:Hp) (x:V) (v vl vu:Value) (lo hi:Option Int) (sl:Addr) (Q:VK),Inv X pins σ H s->RelV x v->s.heap.IsSliceOf sl vl vu .none->IsPart vl lo->IsPart vu hi->r x lo hi H Q ->
  ∃ T id,typeLookup (.type T) "__getitem__" = pure (some (.builtin id)) /\ s.TypeIs v T /\ wpAny (model X.prog X.w) X.A (getItem v (.ref sl)) (EP X pins σ Q) X.xe s
theorem SlR.or{r r':V->Option Int->Option Int->Hp->VK->Prop}(h:SlR X r)(h':SlR X r'):SlR X (fun x lo hi H Q=>r x lo hi H Q \/ r' x lo hi H Q):=by
 intro pins s σ H x v vl vu lo hi sl Q I rx hs pl pu q
 rcases q with q | q
 . exact h pins s σ H x v vl vu lo hi sl Q I rx hs pl pu q
 . exact h' pins s σ H x v vl vu lo hi sl Q I rx hs pl pu q
def tSl(r:V->Option Int->Option Int->Hp->VK->Prop)(te:TE)(tl th:TO):TE:=fun σ H Q=>te σ H fun x H1=>tl σ H1 fun l H2=>th σ H2 fun u H3=>r x l u H3 Q
theorem LC{r:V->Option Int->Option Int->Hp->VK->Prop}(hr:SlR X r)(he:PE X e te)(hl:PO X lo tl)(hu:PO X hi th):PE X (.Subscript e (.Slice lo hi none p2) pos) (tSl r te tl th):=by
 intro pins s σ H Q I h
 refine Subscript_ (thn (he pins s σ H _ I h) fun v s1 ⟨x,H1,I1,r1,q1⟩=>?_)
 refine wpAny_Slice (thn (hl pins s1 σ H1 _ I1 q1) fun vl s2 ⟨l,H2,I2,pl,q2⟩=>thn (hu pins s2 σ H2 _ I2 q2) fun vu s3 ⟨u,H3,I3,pu,q3⟩=>?_)
 rw [evalPart_none]
 refine wpAny_pure ?_
 have I4:Inv X pins σ H3 { s3 with heap:=s3.heap.push { cls:=.type "slice",data:=.fields #[vl,vu,.none] } }:=I3.kept (t':=s3.toks) fun b ob q=>Heap.get?_push_of_some _ q
 obtain ⟨T,id,hT,ht,hg⟩:=hr pins { s3 with heap:=s3.heap.push { cls:=.type "slice",data:=.fields #[vl,vu,.none] } } σ H3 x v vl vu l u s3.heap.objs.size Q I4 r1 (Heap.IsSliceOf.new ..) pl pu q3
 show wpAny (model X.prog X.w) X.A (subscriptTail e (.Slice lo hi none p2) v (.ref s3.heap.objs.size)) (EP X pins σ Q) X.xe { s3 with heap:=s3.heap.push { cls:=.type "slice",data:=.fields #[vl,vu,.none] } }
 exact tail_any (ops:=[.ref s3.heap.objs.size,v]) ht hT hg (by with_unfolding_all rfl)
def FQ(xs:List V)(lo hi:Option Int):List V:=(xs.drop (HT.sIx xs.length 0 lo)).take (HT.sIx xs.length xs.length hi - HT.sIx xs.length 0 lo)
theorem xr(xs:List V)(lo hi:Option Int):(FQ xs lo hi).length <= xs.length:=by
 unfold FQ
 rw [List.length_take,List.length_drop]
 omega
def R7(K:PySem.W.Frag):V->Option Int->Option Int->Hp->VK->Prop:=fun x lo hi H Q=>∃ a xs,x = .ref a /\ SqT K H a xs /\
 ¬ (HT.sIx xs.length 0 lo=0 /\ HT.sIx xs.length xs.length hi=xs.length) /\ ∀ p,H p=none->Q (.ref p) (upd H p (.tup (FQ xs lo hi)))
theorem Qo:SlR X (R7 X.K):=by
 intro pins s σ H x v vl vu lo hi sl Q I rx hs pl pu h
 obtain ⟨a,xs,rfl,hx,hw,q⟩:=h
 cases rx
 obtain ⟨its,r,ht,hz⟩:=I.tuple hx
 have hlen:its.toArray.size=xs.length:=by rw [List.size_toArray];exact r.length.symm
 refine ⟨"tuple",_,PyProof.Rows.slot_tuple_getitem.lookup,ht.typeIs,?_⟩
 refine HT.vy ht hs pl pu (by rw [hlen];exact hw) ?_ (by rw [hlen];exact hz)
 rw [hlen]
 refine ⟨.ref s.heap.objs.size,_,I.laid (t':=s.toks) (o:=.tup (FQ xs lo hi)) (fun b ob q=>Heap.get?_push_of_some _ q) (Nat.le_refl _) ?_,rfl,q _ (I.hok.fresh (Nat.le_refl _))⟩
 exact ⟨Nat.le_trans (xr xs lo hi) hz,_,(r.drop (HT.sIx xs.length 0 lo)).take (HT.sIx xs.length xs.length hi - HT.sIx xs.length 0 lo),n9.new _ _⟩
def O5(K:PySem.W.Frag):R2:=fun x y H Q=>∃ a b xs ys,x = .ref a /\ y = .ref b /\ SqT K H a xs /\ SqT K H b ys /\ xs ≠ [] /\ xs.length + ys.length <= sizeLine /\
 (ys = []->Q (.ref a) H) /\ (ys ≠ []->∀ p,H p=none->Q (.ref p) (upd H p (.tup (xs ++ ys))))
theorem Vals.D4{xs:List V}{us:List Value}(r:Vals xs us):us = [] ↔ xs = []:=by
 cases r with
 | nil=>simp
 | cons _ _=>simp
theorem NK:OpR X (binaryOp .Add) (O5 X.K):=by
 intro pins s σ H x y v u Q I rx ry h
 obtain ⟨a,b,xs,ys,rfl,rfl,ha,hb,hx,hz,q1,q2⟩:=h
 cases rx
 cases ry
 obtain ⟨its,r1,p1,_⟩:=I.tuple ha
 obtain ⟨its2,r2,p2,_⟩:=I.tuple hb
 refine HT.NG p1 p2 (fun z=>hx (r1.D4.mp z)) (fun z=>⟨.ref a,H,I,rfl,q1 (r2.D4.mp z)⟩) (fun z=>?_) (by rw [<- r1.length,<- r2.length];exact hz)
 refine ⟨.ref s.heap.objs.size,_,I.laid (t':=s.toks) (o:=.tup (xs ++ ys)) (fun b ob q=>Heap.get?_push_of_some _ q) (Nat.le_refl _) ?_,rfl,q2 (fun w=>z (r2.D4.mpr w)) _ (I.hok.fresh (Nat.le_refl _))⟩
 exact ⟨by rw [List.length_append];exact hz,_,r1.append r2,n9.new _ _⟩
end
end L2
namespace L2
open PySem PySem.Spec PyProof.Rows
def ixN(n:Nat)(i:Int):Option Nat:=if 0 <= i then (if i < n then some i.toNat else none) else if -(n:Int) <= i then some (i + n).toNat else none
def atI{α:Type}(xs:List α)(i:Int):Option α:=(ixN xs.length i).bind fun j=>xs[j]?
theorem D5{n:Nat}{i:Int}{j:Nat}(h:ixN n i=some j):seqIndex? i n=some j /\ j < n /\ -(n:Int) <= i /\ i < n:=by
 unfold ixN at h
 by_cases h0:0 <= i
 . rw [if_pos h0] at h
   by_cases h1:i < n
   . rw [if_pos h1] at h
     have e:i.toNat=j:=Option.some.inj h
     exact ⟨by rw [seqIndex_of h0 h1,e],by omega,by omega,h1⟩
   . rw [if_neg h1] at h;cases h
 . rw [if_neg h0] at h
   by_cases h1 : -(n:Int) <= i
   . rw [if_pos h1] at h
     have e:(i + n).toNat=j:=Option.some.inj h
     exact ⟨by rw [seqIndex_neg (by omega) h1,e],by omega,h1,by omega⟩
   . rw [if_neg h1] at h;cases h
theorem D6{α:Type}{xs:List α}{i:Int}{v:α}(h:atI xs i=some v):∃ j,seqIndex? i xs.length=some j /\ xs[j]? = some v /\ j < xs.length /\ -(xs.length:Int) <= i /\ i < xs.length:=by
 unfold atI at h
 cases e:ixN xs.length i with
 | none=>rw [e] at h;cases h
 | some j =>
  rw [e] at h
  obtain ⟨h1,h2,h3,h4⟩:=D5 e
  exact ⟨j,h1,h,h2,h3,h4⟩
def Iz(b:Expr):Prop:=∀ o i,subscripted b false o i=operate [o,i] (getItem o i)
def IxR(X:Cx)(r:R2):Prop :=
 ∀ (value slice:Expr) (pins:List (Addr × Obj)) (s:Shared) (σ:St) (H:Hp) (x y:V) (v u:Value) (Q:VK),Inv X pins σ H s->RelV x v->RelV y u->r x y H Q ->
  subscripted slice false v u=operate [v,u] (getItem v u)->wpAny (model X.prog X.w) X.A (subscriptTail value slice v u) (EP X pins σ Q) X.xe s
def MtR(X:Cx)(id:String)(r:V->List V->Hp->VK->Prop):Prop :=
 ∀ (pins:List (Addr × Obj)) (s:Shared) (σ:St) (H:Hp) (x:V) (xs:List V) (v:Value) (us:List Value) (Q:VK),Inv X pins σ H s->RelV x v->Vals xs us->r x xs H Q ->
  wpAny (model X.prog X.w) X.A (call (.builtin id) (v :: us)) (EP X pins σ Q) X.xe s
section
variable {X:Cx} {a b:Expr} {ta tb:TE} {pos:Pos}
theorem IxR.or{r r':R2}(h:IxR X r)(h':IxR X r'):IxR X (fun x y H Q=>r x y H Q \/ r' x y H Q):=by
 intro value slice pins s σ H x y v u Q I rx ry q hs
 rcases q with q | q
 . exact h value slice pins s σ H x y v u Q I rx ry q hs
 . exact h' value slice pins s σ H x y v u Q I rx ry q hs
theorem MtR.or{id:String}{r r':V->List V->Hp->VK->Prop}(h:MtR X id r)(h':MtR X id r'):MtR X id (fun x xs H Q=>r x xs H Q \/ r' x xs H Q):=by
 intro pins s σ H x xs v us Q I rx rs q
 rcases q with q | q
 . exact h pins s σ H x xs v us Q I rx rs q
 . exact h' pins s σ H x xs v us Q I rx rs q
theorem R8{r:R2}(hr:IxR X r)(ha:PE X a ta)(hb:PE X b tb)(hs:Iz b):PE X (.Subscript a b pos) (tOp r ta tb):=by
 intro pins s σ H Q I h
 exact Subscript_ (Qb ha hb I h fun v u s2 x y H2 I2 rx ry q=>hr a b pins s2 σ H2 x y v u Q I2 rx ry q (hs _ _))
def R9(K:PySem.W.Frag):R2:=fun x y H Q=>∃ p xs i v,x = .ref p /\ y = .int i /\ SqL K H p xs /\ atI xs i=some v /\ Q v H
def Sa(K:PySem.W.Frag):R2:=fun x y H Q=>∃ p xs i v,x = .ref p /\ y = .int i /\ SqT K H p xs /\ atI xs i=some v /\ Q v H
def Sb:R2:=fun x y H Q=>∃ z i c,x = .str z /\ y = .int i /\ z.length <= sizeLine /\ atI z.cps.toList i=some c /\ Q (.str ⟨#[c]⟩) H
theorem NL:IxR X (R9 X.K):=by
 intro value slice pins s σ H x y v u Q I rx ry h hs
 obtain ⟨p,xs,i,z,rfl,rfl,hq,he,q⟩:=h
 cases rx
 obtain ⟨t,rfl⟩:=ry
 obtain ⟨its,r,pl,hz⟩:=I.list hq
 obtain ⟨j,h1,h2,h3,h4,h5⟩:=D6 he
 obtain ⟨w,ew,rw'⟩:=r.get h2
 have hl:=r.length
 have hn:=wN
 have fin:EP X pins σ Q w s:=⟨z,H,I,rw',q⟩
 by_cases h0:0 <= i
 . have hj:i.toNat=j:=by
    rw [seqIndex_of h0 h5] at h1
    exact Option.some.inj h1
   exact item_listR pl.isList h0 (by omega) (by rw [hj];simpa using ew) fin hs
 . have hj:(i + (its.toArray.size:Int)).toNat=j:=by
    rw [seqIndex_neg (by omega) h4] at h1
    rw [List.size_toArray,<- hl]
    exact Option.some.inj h1
   exact subscriptTail_builtinR (x:=w) pl.isList.typeIs slot_list_getitem.lookup
    (wpAny_getItem_list_neg (Q:=fun r s'=>r=w /\ EP X pins σ Q r s') pl.isList (by omega) (by rw [List.size_toArray] <;> omega) (by omega) (by rw [hj];simpa using ew) ⟨rfl,fin⟩) hs
theorem Qp:IxR X (Sa X.K):=by
 intro value slice pins s σ H x y v u Q I rx ry h hs
 obtain ⟨p,xs,i,z,rfl,rfl,hq,he,q⟩:=h
 cases rx
 obtain ⟨t,rfl⟩:=ry
 obtain ⟨its,r,pl,hz⟩:=I.tuple hq
 obtain ⟨j,h1,h2,h3,h4,h5⟩:=D6 he
 obtain ⟨w,ew,rw'⟩:=r.get h2
 have hl:=r.length
 have hn:=wN
 have fin:EP X pins σ Q w s:=⟨z,H,I,rw',q⟩
 exact subscriptTail_builtinR (x:=w) pl.typeIs slot_tuple_getitem.lookup
  (getItem_tuple (j:=j) (Q:=fun r s'=>r=w /\ EP X pins σ Q r s') pl (by omega) (by omega) (by rw [List.size_toArray,<- hl];exact h1) (by simpa using ew) ⟨rfl,fin⟩) hs
theorem Qq:IxR X Sb:=by
 intro value slice pins s σ H x y v u Q I rx ry h hs
 obtain ⟨z,i,c,rfl,rfl,hz,he,q⟩:=h
 obtain ⟨t,rfl⟩:=rx
 obtain ⟨t',rfl⟩:=ry
 obtain ⟨j,h1,h2,h3,h4,h5⟩:=D6 he
 have hl:z.cps.toList.length=z.length:=by simp [Str.length]
 rw [hl] at h1 h4 h5
 have hn:=wN
 exact tail_any (typeIs_str s z t) slot_str_getitem.lookup (getItem_str (c:=c) (by
  have e1:decide (i < -(2 ^ 63:Int))=false:=decide_eq_false (by omega)
  have e2:decide (i >= 2 ^ 63)=false:=decide_eq_false (by omega)
  rw [e1,e2,Bool.or_false]) (by rw [h1];simpa using h2) ⟨.str ⟨#[c]⟩,H,I.tok _,⟨_,rfl⟩,q⟩) hs
def rIx(K:PySem.W.Frag):R2:=fun x y H Q=>R9 K x y H Q \/ Sa K x y H Q \/ Sb x y H Q
theorem Qr:IxR X (rIx X.K):=NL.or (Qp.or Qq)
theorem Hn(its:List Value)(n j:Nat)(u:Value):Obj.mapSeq (·.setIfInBounds j u) { cls:=.type "list",data:=.seq its.toArray n }={ cls:=.type "list",data:=.seq (its.set j u).toArray n }:=by
 simp [Obj.mapSeq]
theorem Inv.lst {pins : List (Addr × Obj)} {σ : St} {H : Hp} {s : Shared} {p : Addr} {xs : List V} (I : Inv X pins σ H s) (h : H p = some (.lst xs)) :
    ∃ (its:List Value) (n:Nat),Vals xs its /\ s.heap.get? p=some { cls:=.type "list",data:=.seq its.toArray n } /\ xs.length <= sizeLine:=by
 obtain ⟨z,its,n,r,e⟩:=I.hok p _ h
 exact ⟨its,n,r,e,z⟩
theorem Inv.Qt {pins : List (Addr × Obj)} {σ : St} {H : Hp} {s : Shared} {p : Addr} {xs ys : List V} {its its' : List Value} {n n' : Nat} {f : Obj -> Obj} (I : Inv X pins σ H s) (h : H p = some (.lst xs))
    (ho:s.heap.get? p=some { cls:=.type "list",data:=.seq its.toArray n }) (hf:f { cls:=.type "list",data:=.seq its.toArray n }={ cls:=.type "list",data:=.seq its'.toArray n' }) (r:Vals ys its') (hz:ys.length <= sizeLine) (t:Nat) :
    Inv X pins σ (upd H p (.lst ys)) { s with heap:=s.heap.update p f,toks:=t }:=by
 have e:(s.heap.update p f).get? p=some { cls:=.type "list",data:=.seq its'.toArray n' }:=by
  rw [Heap.get?_update_self f ho (by rw [hf] <;> rfl),hf]
 refine I.write (x:=p) (e:=p) (by rw [h];trivial) (.inl rfl) (fun b u hb q=>(Heap.get?_update_other _ _ (Ne.symm hb)).trans q) ⟨_,e⟩ ?_
 exact ⟨hz,its',n',r,e⟩
def O6:V->V->V->Hp->(Hp->Prop)->Prop:=fun o i v H Q=>∃ p xs k j,o = .ref p /\ i = .int k /\ H p=some (.lst xs) /\ ixN xs.length k=some j /\ Q (upd H p (.lst (xs.set j v)))
theorem set_list:RP X O6:=by
 intro pins s σ H o i v ov iv u Q I ro ri rv h
 obtain ⟨p,xs,k,j,rfl,rfl,hp,hj,q⟩:=h
 cases ro
 obtain ⟨t,rfl⟩:=ri
 obtain ⟨its,n,r,ho,hz⟩:=I.lst hp
 obtain ⟨h1,h2,h3,h4⟩:=D5 hj
 have hl:=r.length
 have hn:=wN
 have I':Inv X pins σ (upd H p (.lst (xs.set j v))) { s with heap:=s.heap.update p (Obj.mapSeq (·.setIfInBounds j u)) } :=
  I.Qt hp ho (Hn its n j u) (r.set rv j) (by rw [List.length_set];exact hz) s.toks
 by_cases h0:0 <= k
 . have hk:k.toNat=j:=by
    rw [seqIndex_of h0 h4] at h1
    exact Option.some.inj h1
   exact PySem.W.ki_setAt ho h0 (by omega) (by rw [List.size_toArray,<- hl];exact h4) (by rw [hk];exact ⟨_,I',q⟩)
 . have hk:(k + (its.toArray.size:Int)).toNat=j:=by
    rw [seqIndex_neg (by omega) h3] at h1
    rw [List.size_toArray,<- hl]
    exact Option.some.inj h1
   exact PySem.W.ki_setBack ho (by omega) (by rw [List.size_toArray,<- hl];exact h3) (by omega) (by rw [hk];exact ⟨_,I',q⟩)
theorem D7(lo hi:Option Int)(n:Nat):(sliceBounds lo hi none n).1=((HT.sIx n 0 lo:Nat):Int) /\ (sliceBounds lo hi none n).2.1=((HT.sIx n n hi:Nat):Int) /\ (sliceBounds lo hi none n).2.2=1:=by
 refine ⟨?_,?_,rfl⟩
 . cases lo with
   | none=>simp [sliceBounds,HT.sIx]
   | some i =>
    simp only [sliceBounds,HT.sIx,Option.getD_none,show (1:Int) > 0 by decide,if_true]
    by_cases h:i < 0
    . simp only [h,if_true] <;> omega
    . simp only [h,if_false] <;> omega
 . cases hi with
   | none=>simp [sliceBounds,HT.sIx]
   | some i =>
    simp only [sliceBounds,HT.sIx,Option.getD_none,show (1:Int) > 0 by decide,if_true]
    by_cases h:i < 0
    . simp only [h,if_true] <;> omega
    . simp only [h,if_false] <;> omega
theorem B3(its:List Value)(lo hi:Option Int):slicePick its.toArray lo hi none=((its.drop (HT.sIx its.length 0 lo)).take (HT.sIx its.length its.length hi - HT.sIx its.length 0 lo)).toArray:=by
 obtain ⟨h1,h2,h3⟩:=D7 lo hi its.toArray.size
 unfold slicePick
 rw [h1,h2,h3]
 simp only [sliceRange_one,pick_run,List.size_toArray] <;> rfl
def Sd(K:PySem.W.Frag):V->Option Int->Option Int->Hp->VK->Prop:=fun x lo hi H Q=>∃ a xs,x = .ref a /\ SqL K H a xs /\ ∀ p,H p=none->Q (.ref p) (upd H p (.lst (FQ xs lo hi)))
theorem NM:SlR X (Sd X.K):=by
 intro pins s σ H x v vl vu lo hi sl Q I rx hs pl pu h
 obtain ⟨a,xs,rfl,hx,q⟩:=h
 cases rx
 obtain ⟨its,r,ht,hz⟩:=I.list hx
 have hlen:=r.length
 refine ⟨"list",_,slot_list_getitem.lookup,ht.isList.typeIs,?_⟩
 refine wpAny_getItem_list_slice ht.isList hs pl pu .none (by simp) ?_ (by rw [List.size_toArray] <;> omega)
 rw [B3,<- hlen]
 refine ⟨.ref s.heap.objs.size,_,I.laid (t':=s.toks) (o:=.lst (FQ xs lo hi)) (fun b ob q=>Heap.get?_push_of_some _ q) (Nat.le_refl _) ?_,rfl,q _ (I.hok.fresh (Nat.le_refl _))⟩
 exact ⟨Nat.le_trans (xr xs lo hi) hz,_,0,(r.drop (HT.sIx xs.length 0 lo)).take (HT.sIx xs.length xs.length hi - HT.sIx xs.length 0 lo),Heap.get?_push_size _ rfl⟩
theorem l6.or{f:Value}{r r':List V->Hp->VK->Prop}(h:l6 X f r)(h':l6 X f r'):l6 X f (fun xs H Q=>r xs H Q \/ r' xs H Q):=by
 intro pins s σ H xs us Q I rs q
 rcases q with q | q
 . exact h pins s σ H xs us Q I rs q
 . exact h' pins s σ H xs us Q I rs q
theorem D8:l6 X (.type "list") (fun xs H Q=>∃ p ys,xs = [.ref p] /\ (SqL X.K H p ys \/ SqT X.K H p ys) /\ ∀ l,H l=none->Q (.ref l) (upd H l (.lst ys))):=by
 intro pins s σ H xs us Q I r h
 obtain ⟨p,ys,rfl,hq,q⟩:=h
 obtain ⟨u,rfl,rx⟩:=vals1 r
 cases rx
 have fin : ∀ (its : List Value), Vals ys its -> ys.length <= sizeLine -> ∀ (h' : Heap) (c' : Nat), (∀ b o', s.heap.get? b = some o' -> h'.get? b = some o') ->
     h'.get? s.heap.objs.size=some { cls:=.type "list",dict:=none,data:=.seq its.toArray c',slots:=#[] }->EP X pins σ Q (.ref s.heap.objs.size) { s with heap:=h' }:=fun its r' hz h' c' kp e =>
  ⟨.ref s.heap.objs.size,_,I.laid (t':=s.toks) kp (Nat.le_refl _) (show cB X.prog X.w _ h' _ (.lst ys) from ⟨hz,its,c',r',e⟩),rfl,q _ (I.hok.fresh (Nat.le_refl _))⟩
 rcases hq with hq | hq
 . obtain ⟨its,r',pl,hz⟩:=I.list hq
   have hlen:=r'.length
   obtain ⟨o,ho,hc,n,hd⟩:=pl.isList
   exact call_list_seq p (.inl rfl) ho hc hd (fun h' c' kp e=>fin its r' hz h' c' kp e) (by simp only [List.size_toArray] <;> omega)
 . obtain ⟨its,r',pl,hz⟩:=I.tuple hq
   have hlen:=r'.length
   obtain ⟨o,ho,hc,n,hd⟩:=pl
   exact call_list_seq p (.inr rfl) ho hc hd (fun h' c' kp e=>fin its r' hz h' c' kp e) (by simp only [List.size_toArray] <;> omega)
theorem fM:l6 X (.type "tuple") (fun xs H Q=>∃ p ys,xs = [.ref p] /\ ((SqL X.K H p ys /\ ∀ l,H l=none->Q (.ref l) (upd H l (.tup ys))) \/ (SqT X.K H p ys /\ Q (.ref p) H))):=by
 intro pins s σ H xs us Q I r h
 obtain ⟨p,ys,rfl,h⟩:=h
 obtain ⟨u,rfl,rx⟩:=vals1 r
 cases rx
 rcases h with ⟨hq,q⟩ | ⟨hq,q⟩
 . obtain ⟨its,r',pl,hz⟩:=I.list hq
   have hlen:=r'.length
   refine call_tuple_list pl.isList (fun h' kp=>?_) (by simp only [List.size_toArray] <;> omega)
   have I1:Inv X pins σ H { s with heap:=h' }:=I.kept (t':=s.toks) kp
   have I2:Inv X pins σ (upd H h'.objs.size (.tup ys)) { s with heap:=h'.push { cls:=.type "tuple",data:=.seq its.toArray } } :=
    I1.laid (t':=s.toks) (fun b o e=>Heap.get?_push_of_some _ e) (Nat.le_refl _) (show cB X.prog X.w _ _ _ (.tup ys) from ⟨hz,its,r',n9.new _ _⟩)
   exact ⟨.ref h'.objs.size,_,I2,rfl,q _ (I1.hok.fresh (Nat.le_refl _))⟩
 . obtain ⟨its,r',pl,hz⟩:=I.tuple hq
   exact call_tuple_same pl ⟨.ref p,H,I,rfl,q⟩
def tyV(K:PySem.W.Frag)(T:String)(x:V)(H:Hp):Prop:=match x with
 | .str _=>T = "str"
 | .int _=>T = "int"
 | .ref p => (T = "list" /\ ∃ xs, SqL K H p xs) \/ (T = "tuple" /\ ∃ o, K.lookup p = some o /\ o.cls = .type "tuple" /\ o.dict = none) \/
     (T = "dict" /\ ((∃ kvs,H p=some (.dK kvs)) \/ ∃ kvs,H p=some (.dT kvs))) \/ (T = "set" /\ ∃ S n,H p=some (.set S n))
 | _=>False
theorem LD {pins : List (Addr × Obj)} {σ : St} {H : Hp} {s : Shared} {T : String} {x : V} {v : Value} (I : Inv X pins σ H s) (r : RelV x v) (ty : tyV X.K T x H) :
    s.TypeIs v T /\ ∀ a,v = .ref a->∃ ob,s.heap.get? a=some ob /\ ob.dict=none:=by
 cases x with
 | str z =>
  obtain ⟨t,rfl⟩:=r
  cases (show T = "str" from ty)
  exact ⟨typeIs_str s z t,fun _ e=>nomatch e⟩
 | int i =>
  obtain ⟨t,rfl⟩:=r
  cases (show T = "int" from ty)
  exact ⟨typeIs_int s i t,fun _ e=>nomatch e⟩
 | ref p =>
  cases r
  rcases ty with ⟨rfl,xs,hq⟩ | ⟨rfl,o,hk,hc,hd⟩ | ⟨rfl,hk⟩ | ⟨rfl,S,n,hk⟩
  . obtain ⟨its,_,pl,_⟩:=I.list hq
    refine ⟨pl.isList.typeIs,fun a e=>?_⟩
    cases e
    obtain ⟨o,n,e,c,hd,_⟩:=pl
    exact ⟨o,e,hd⟩
  . refine ⟨⟨o,I.kIn p o hk,hc⟩,fun a e=>?_⟩
    cases e
    exact ⟨o,I.kIn _ o hk,hd⟩
  . have z:∃ o,s.heap.get? p=some o /\ o.ExactDict:=by
     rcases hk with ⟨kvs,hk⟩ | ⟨kvs,hk⟩
     . obtain ⟨_,_,_,_,o,_,_,e,ex,_⟩:=I.hok p _ hk
       exact ⟨o,e,ex⟩
     . obtain ⟨_,_,_,_,o,_,_,e,ex,_⟩:=I.hok p _ hk
       exact ⟨o,e,ex⟩
    obtain ⟨o,e,ex⟩:=z
    refine ⟨⟨o,e,ex.1⟩,fun a e2=>?_⟩
    cases e2
    exact ⟨o,e,ex.2.1⟩
  . obtain ⟨o,_,_,_,e,ex,_⟩:=I.hok p _ hk
    refine ⟨⟨o,e,ex.1⟩,fun a e2=>?_⟩
    cases e2
    exact ⟨o,e,ex.2.1⟩
 | _=>exact False.elim ty
def TJ(K:PySem.W.Frag)(T:String)(r:V->List V->Hp->VK->Prop)(to:TE):TE:=fun σ H Q=>to σ H fun x H1=>tyV K T x H1 /\ r x [] H1 Q
def tBM(K:PySem.W.Frag)(T:String)(r:V->List V->Hp->VK->Prop)(to:TE)(t:TA):TE:=fun σ H Q=>to σ H fun x H1=>tyV K T x H1 /\ t σ H1 fun xs H2=>r x xs H2 Q
variable {o e:Expr} {es:List Expr} {to:TE} {t:TA} {name:Str} {apos cpos:Pos} {T id:String} {r:V->List V->Hp->VK->Prop}
theorem Qu (pa : PlainAttrs T) (slot : Slot T name id) (hty : typeOf (.builtin id) = pure (.type "method_descriptor")) (hm : MtR X id r) (ho : PE X o to)
    (hbase:attributeBase o name X.env (eval o X.env)=eval o X.env:=by rfl) (hline:(apos.endLine == cpos.line)=true:=by rfl):PE X (.Call (.Attribute o name apos) [] [] cpos) (TJ X.K T r to):=by
 intro pins s σ H Q I h
 refine wpAny_Call_method0_late hbase hline (thn (ho pins s σ H _ I h) fun v s1 ⟨x,H1,I1,r1,ty,q1⟩=>?_)
 obtain ⟨h1,h2⟩:=LD I1 r1 ty
 exact ⟨T,id,pa,slot,hty,h1,h2,Calls.callWith_builtin rfl (PySem.evalArgs_none (hm pins s1 σ H1 x [] v [] Q I1 r1 .nil q1))⟩
theorem O7 (pa : PlainAttrs T) (slot : Slot T name id) (hty : typeOf (.builtin id) = pure (.type "method_descriptor")) (hm : MtR X id r) (ho : PE X o to) (ha : PA X (e :: es) t)
    (hbase:attributeBase o name X.env (eval o X.env)=eval o X.env:=by rfl)
    (hfew:((backTo cpos (starEach (e :: es) X.env)).all (fun x=>!x.1) && (backToKw cpos (keywordEach [] X.env)).all (fun x=>x.1.isSome)
     && decide ((e :: es).length + ([]:List Keyword).length + (if ([]:List Keyword).isEmpty then 0 else 1) < 30))=true:=by rfl)
    (hline:(apos.endLine == cpos.line)=true:=by rfl) (hs:starEach (e :: es) X.env=(false,eval e X.env) :: starEach es X.env:=by rfl) (hplain:(backTo cpos (starEach es X.env)).any (·.1)=false:=by rfl) :
    PE X (.Call (.Attribute o name apos) (e :: es) [] cpos) (tBM X.K T r to t):=by
 intro pins s σ H Q I h
 refine wpAny_Call_method_late hbase hfew hline rfl (thn (ho pins s σ H _ I h) fun v s1 ⟨x,H1,I1,r1,ty,q1⟩=>?_)
 obtain ⟨h1,h2⟩:=LD I1 r1 ty
 refine ⟨T,id,pa,slot,hty,h1,h2,?_⟩
 have hA:=ha cpos pins s1 σ H1 _ I1 q1
 rw [hs] at hA ⊢
 refine Calls.callWith_builtin (by show (false || (backTo cpos (starEach es X.env)).any (·.1))=false;rw [hplain] <;> rfl) (Calls.evalArgs_plain ?_)
 exact thn hA fun us s2 ⟨vs,H2,I2,r2,q2⟩=>hm pins s2 σ H2 x vs v us Q I2 r1 r2 q2
end
end L2
namespace L2
open PySem PySem.Spec PyProof.Rows
def MtM(X:Cx)(id:String)(r:V->List V->Hp->VK->Prop):Prop :=
 ∀ (pins:List (Addr × Obj)) (s:Shared) (σ:St) (H:Hp) (x:V) (xs:List V) (v:Value) (us:List Value) (Q:VK),Inv X pins σ H s->RelV x v->Vals xs us->r x xs H Q ->
  wpAny (model X.prog X.w) X.A (call (.builtin id) (v :: us)) (EP X pins σ Q) X.xe s
theorem Vals.one:∀ {x:V} {us:List Value},Vals [x] us->∃ u,us = [u] /\ RelV x u
 | _,_,.cons r .nil=>⟨_,rfl,r⟩
theorem Vals.two:∀ {x y:V} {us:List Value},Vals [x,y] us->∃ u v,us = [u,v] /\ RelV x u /\ RelV y v
 | _,_,_,.cons r (.cons q .nil)=>⟨_,_,rfl,r,q⟩
theorem Vals.zero:∀ {us:List Value},Vals [] us->us = []
 | _,.nil=>rfl
theorem Vals.eraseIdx:∀ {xs:List V} {us:List Value} (i:Nat),Vals xs us->Vals (xs.eraseIdx i) (us.eraseIdx i)
 | _,_,_,.nil=>.nil
 | _,_,0,.cons _ t=>t
 | _,_,i + 1,.cons r t=>.cons r (Vals.eraseIdx i t)
theorem Vals.reverse{xs:List V}{us:List Value}(h:Vals xs us):Vals xs.reverse us.reverse:=by
 induction h with
 | nil=>exact .nil
 | cons r t ih=>rw [List.reverse_cons,List.reverse_cons];exact Vals.append ih (.cons r .nil)
theorem Vals.rep{xs:List V}{us:List Value}(h:Vals xs us):∀ k:Nat,Vals (List.replicate k xs).flatten (List.replicate k us).flatten
 | 0=>.nil
 | k + 1=>by
  rw [List.replicate_succ,List.replicate_succ,List.flatten_cons,List.flatten_cons]
  exact Vals.append h (Vals.rep h k)
theorem CI{α:Type}:∀ (l:List α) (i:Nat),(l.eraseIdx i).length <= l.length
 | [],_=>Nat.le_refl _
 | _ :: _,0=>Nat.le_succ _
 | _ :: r,i + 1=>Nat.succ_le_succ (CI r i)
section
variable {X:Cx} {pins:List (Addr × Obj)} {σ:St} {H:Hp} {s:Shared} {l b:Addr} {xs ys zs:List V}
theorem Inv.Qv {its its' : List Value} {n : Nat} {f : Array Value -> Array Value} {t' : Nat} (I : Inv X pins σ H s) (hH : H l = some (.lst xs))
    (e:s.heap.get? l=some { cls:=.type "list",data:=.seq its.toArray n }) (hf:f its.toArray=its'.toArray) (hv:Vals ys its') (hz:ys.length <= sizeLine) :
    Inv X pins σ (upd H l (.lst ys)) { s with heap:=s.heap.update l (Obj.mapSeq f),toks:=t' }:=by
 have q:=PySem.IsL.update e f
 rw [hf] at q
 refine I.write (x:=l) (e:=l) (by rw [hH];exact trivial) (.inl rfl) (fun b' u hb hu=>(Heap.get?_update_other s.heap (Obj.mapSeq f) (Ne.symm hb)).trans hu) ⟨_,q⟩ ?_
 exact ⟨hz,its',_,hv,q⟩
theorem Inv.TK {its : List Value} {t' : Nat} (I : Inv X pins σ H s) (hv : Vals ys its) (hz : ys.length <= sizeLine) :
    Inv X pins σ (upd H s.heap.objs.size (.lst ys)) { s with heap:=s.heap.push { cls:=.type "list",data:=.seq its.toArray },toks:=t' } :=
 I.laid (fun _ _ q=>Heap.get?_push_of_some _ q) (Nat.le_refl _) ⟨hz,its,0,hv,Heap.get?_push_size _ rfl⟩
theorem Inv.fresh(I:Inv X pins σ H s):H s.heap.objs.size=none:=I.hok.fresh (Nat.le_refl _)
theorem Inv.JX(I:Inv X pins σ H s)(hH:H l=some (.lst xs)):xs.length <= sizeLine /\ ∃ (its:List Value) (n:Nat),Vals xs its /\ xs.length=its.length /\ s.heap.get? l=some { cls:=.type "list",data:=.seq its.toArray n }:=by
 obtain ⟨z,its,n,r,e⟩:=I.hok l _ hH
 exact ⟨z,its,n,r,r.length,e⟩
theorem LF{n:Nat}(h:n <= sizeLine):Builtin.List.listTooLong n=false:=by
 unfold Builtin.List.listTooLong
 exact decide_eq_false (by omega)
end
section
variable {X:Cx}
def IA:V->List V->Hp->VK->Prop:=fun x vs H Q=>∃ l xs y,x = .ref l /\ vs = [y] /\ H l=some (.lst xs) /\ xs.length < sizeLine /\ Q .non (upd H l (.lst (xs ++ [y])))
theorem jC:MtM X "list.append" IA:=by
 intro pins s σ H x vs v us Q I rx rv h
 obtain ⟨l,xs,y,rfl,rfl,hH,hz,q⟩:=h
 cases rx
 obtain ⟨u,rfl,ru⟩:=rv.one
 obtain ⟨z,its,n,r,hl,e⟩:=I.JX hH
 refine call_meets F.slot_list_append ⟨_,e,rfl⟩ F.entry_list_append (F.args_list_append_2 _ _) (PySem.list_append l its.toArray n u (by rw [List.size_toArray];omega)) ⟨e,?_⟩
 refine ⟨.non,_,I.Qv (its':=its ++ [u]) hH e (by simp) (r.append (.cons ru .nil)) ?_,rfl,q⟩
 rw [List.length_append,List.length_singleton]
 omega
def NN:V->List V->Hp->VK->Prop:=fun x vs H Q=>∃ l b xs zs,x = .ref l /\ vs = [.ref b] /\ H l=some (.lst xs) /\ H b=some (.lst zs) /\ xs.length + zs.length <= sizeLine /\ Q .non (upd H l (.lst (xs ++ zs)))
theorem Rg:MtM X "list.extend" NN:=by
 intro pins s σ H x vs v us Q I rx rv h
 obtain ⟨l,b,xs,zs,rfl,rfl,hH,hB,hz,q⟩:=h
 cases rx
 obtain ⟨u,rfl,ru⟩:=rv.one
 cases ru
 obtain ⟨z,its,n,r,hl,e⟩:=I.JX hH
 obtain ⟨z2,its2,n2,r2,hl2,e2⟩:=I.JX hB
 have hsz:its.toArray.size + its2.toArray.size <= sizeLine:=by rw [List.size_toArray,List.size_toArray];omega
 have hlong:¬ (!its.toArray.isEmpty && Builtin.List.listTooLong (its.toArray.size + its2.toArray.size))=true:=by
  rw [LF hsz,Bool.and_false]
  exact Bool.false_ne_true
 refine call_meets F.slot_list_extend ⟨_,e,rfl⟩ F.entry_list_extend (F.args_list_extend_2 _ _)
  (AutoSeq1.list_extend_list_list_0 l its.toArray n b its2.toArray n2 hlong (by rw [List.size_toArray];omega) (by omega)) ⟨e,e2,?_⟩
 refine ⟨.non,_,I.Qv (its':=its ++ its2) hH e (by simp) (r.append r2) ?_,rfl,q⟩
 rw [List.length_append]
 omega
def Ho:V->List V->Hp->VK->Prop:=fun x vs H Q=>∃ l xs i k y,x = .ref l /\ vs = [.int i] /\ H l=some (.lst xs) /\ -(2 ^ 63) <= i /\ i < 2 ^ 63 /\ seqIndex? i xs.length=some k /\ xs[k]? = some y /\ Q y (upd H l (.lst (xs.eraseIdx k)))
theorem LG:MtM X "list.pop" Ho:=by
 intro pins s σ H x vs v us Q I rx rv h
 obtain ⟨l,xs,i,k,y,rfl,rfl,hH,h1,h2,hk,hy,q⟩:=h
 cases rx
 obtain ⟨u,rfl,ru⟩:=rv.one
 obtain ⟨t,rfl⟩:=ru
 obtain ⟨z,its,n,r,hl,e⟩:=I.JX hH
 obtain ⟨w,hw,rw'⟩:=r.get hy
 refine call_meets F.slot_list_pop ⟨_,e,rfl⟩ F.entry_list_pop (F.args_list_pop_2 _ _)
  (MeetsSeq.list_pop_at l its.toArray n i t k w (fitsIndex_both h1 h2) (by rw [List.size_toArray,<- hl];exact hk) (by rw [<- Array.getElem?_toList];exact hw) (by rw [List.size_toArray];omega)) ⟨e,?_⟩
 refine ⟨y,_,I.Qv (its':=its.eraseIdx k) hH e ?_ (r.eraseIdx k) ?_,rw',q⟩
 . show its.toArray.eraseIdxIfInBounds k=(its.eraseIdx k).toArray
   rw [List.eraseIdxIfInBounds_toArray]
 . have:=CI xs k
   omega
def Se:R2:=fun x y H Q=>∃ l b xs zs,x = .ref l /\ y = .ref b /\ H l=some (.lst xs) /\ H b=some (.lst zs) /\ xs.length + zs.length <= sizeLine /\ ∀ p,H p=none->Q (.ref p) (upd H p (.lst (xs ++ zs)))
theorem Qw:OpR X (binaryOp .Add) Se:=by
 intro pins s σ H x y v u Q I rx ry h
 obtain ⟨l,b,xs,zs,rfl,rfl,hH,hB,hz,q⟩:=h
 cases rx
 cases ry
 obtain ⟨z,its,n,r,hl,e⟩:=I.JX hH
 obtain ⟨z2,its2,n2,r2,hl2,e2⟩:=I.JX hB
 refine PySem.P.add_list e e2 ?_ (by rw [List.size_toArray,List.size_toArray];omega)
 have ea:its.toArray ++ its2.toArray=(its ++ its2).toArray:=by simp
 rw [ea]
 exact ⟨.ref _,_,I.TK (t':=s.toks) (r.append r2) (by rw [List.length_append];omega),rfl,q _ I.fresh⟩
end
section
variable {prog:Program} {w:World} {A:Around} {E:Value->Shared->Prop} {s:Shared}
end
section
variable {X:Cx}
end
end L2
namespace L2
open PySem PySem.Spec PyProof.Rows
theorem Vals.ints:∀ {ns:List Int} {us:List Value},Vals (ns.map V.int) us->IntsAre us ns
 | [],us,h=>by
  rw [List.map_nil] at h
  cases h
  exact IntsAre.nil
 | n :: ns,us,h=>by
  rw [List.map_cons] at h
  cases h with
  | cons r t =>
   obtain ⟨k,rfl⟩:=r
   exact IntsAre.cons n k (Vals.ints t)
theorem D9:∀ {us:List Value} {ns:List Int},IntsAre us ns->Vals (ns.map V.int) us
 | _,_,.nil=>by rw [List.map_nil];exact Paired.nil
 | _,_,.cons n t h=>by rw [List.map_cons];exact Paired.cons (show RelV (V.int n) (Value.int n t) from ⟨t,rfl⟩) (D9 h)
theorem Vals.bls:∀ {bs:List Bool} {us:List Value},Vals (bs.map V.bl) us->us=bs.map Value.bool
 | [],us,h=>by
  rw [List.map_nil] at h
  cases h
  rfl
 | b :: bs,us,h=>by
  rw [List.map_cons] at h
  cases h with
  | cons r t =>
   cases r
   rw [Vals.bls t,List.map_cons]
theorem Vals.TM{a:Addr}{us:List Value}(r:Vals [V.ref a] us):us = [Value.ref a]:=by
 cases r with
 | cons r t =>
  cases t
  cases r
  rfl
section
variable {prog:Program} {w:World} {A:Around} {E:Value->Shared->Prop} {s:Shared} {l:Addr} {its:List Value} {ns:List Int} {Q:Value->Shared->Prop}
end
section
variable {X:Cx}
end
section
variable {X:Cx}
end
section
variable {X:Cx}
end
theorem LH {prog : Program} {w : World} {A : Around} {E : Value -> Shared -> Prop} {s : Shared} {l : Addr} {items : Array Value} {Q : Value -> Shared -> Prop} (hl : s.heap.IsList l items)
    (h:∀ s₂:Shared,s₂={ s with heap:=s.heap.push { cls:=.type "list_iterator",data:=.fields #[.ref l,.int 0 0] } } ->
     (s₂.heap.IsListIter s.heap.objs.size l 0 /\ s₂.heap.IsList l items)->l ≠ s.heap.objs.size->Q (.ref s.heap.objs.size) s₂):wpAny (model prog w) A (pyIter (.ref l)) Q E s:=by
 have hlt:l < s.heap.objs.size:=by obtain ⟨_,e,_⟩:=hl;exact Heap.lt_size e
 exact wpAny_pyIter_list hl (h _ rfl ⟨⟨_,Heap.get?_push_size _ rfl,rfl,rfl⟩,hl.push _⟩ (Nat.ne_of_lt hlt))
theorem FR {prog : Program} {w : World} {A : Around} {bs : List Bool} {its : List Value} (e : its = bs.map Value.bool) :
    TruthOf prog w A (fun i v=>its.toArray[i]? = some v) (fun i=>bs.getD i false):=fun i v s Q E hv hq=>by
 have hv':its[i]? = some v:=by simpa using hv
 rw [e,List.getElem?_map] at hv'
 obtain ⟨b,hb,rfl⟩:=Option.map_eq_some_iff.mp hv'
 have hg:bs.getD i false=b:=by rw [List.getD_eq_getElem?_getD,hb] <;> rfl
 have hq':Q (bs.getD i false) s:=hq
 rw [hg] at hq'
 exact wpAny_truthy_bool hq'
theorem any_range:∀ bs:List Bool,(List.range bs.length).any (fun i=>bs.getD i false)=bs.any id
 | []=>rfl
 | b :: bs=>by
  rw [List.length_cons,List.range_succ_eq_map,List.any_cons,List.any_map,List.any_cons,<- any_range bs]
  all_goals rfl
theorem all_range:∀ bs:List Bool,(List.range bs.length).all (fun i=>bs.getD i false)=bs.all id
 | []=>rfl
 | b :: bs=>by
  rw [List.length_cons,List.range_succ_eq_map,List.all_cons,List.all_map,List.all_cons,<- all_range bs]
  all_goals rfl
section
variable {X:Cx}
def Sf(K:PySem.W.Frag):List V->Hp->VK->Prop:=fun vs H Q=>∃ (a:Addr) (bs:List Bool),vs = [V.ref a] /\ SqL K H a (bs.map V.bl) /\ Q (.bl (bs.all id)) H
theorem LI(hc:X.calm=true):l6 X (.builtin "all") (Sf X.K):=by
 intro pins s σ H vs us Q I r h
 obtain ⟨a,bs,rfl,hs,q⟩:=h
 obtain ⟨its,rv,hl,_⟩:=I.list hs
 rw [Vals.TM r]
 have hb:=rv.bls
 refine call_all_walk (LH hl.isList fun s₂ e2 st hne=>?_)
 subst e2
 refine ⟨_,_,_,_,_,_,_,rfl,Walks.list (A:=X.A.in1) (I.ok.hd hc) _ a hne its.toArray,st,FR hb,fun h' tk hk=>?_⟩
 refine ⟨.bl _,H,I.kept fun b o eo=>hk b o (fun hmem=>?_) (Heap.get?_push_of_some _ eo),?_,q⟩
 . rcases List.mem_cons.mp hmem with e1 | hmem
   . exact absurd (e1 ▸ Heap.lt_size eo) (Nat.lt_irrefl _)
   . cases hmem
 . show Value.bool _=Value.bool _
   rw [<- all_range,hb,List.size_toArray,List.length_map]
end
mutual
inductive Dp (K:PySem.W.Frag) (H:Hp):V->PyData->Prop
 | non:Dp K H .non .none
 | bl (b:Bool):Dp K H (.bl b) (.bool b)
 | int (i:Int):Dp K H (.int i) (.int i)
 | str (x:Str):Dp K H (.str x) (.str x)
 | lst {a:Addr} {xs:List V} {ds:List PyData}:SqL K H a xs->z6 K H xs ds->Dp K H (.ref a) (.list ds)
 | tup {a:Addr} {xs:List V} {ds:List PyData}:SqT K H a xs->z6 K H xs ds->Dp K H (.ref a) (.tuple ds)
inductive z6 (K:PySem.W.Frag) (H:Hp):List V->List PyData->Prop
 | nil:z6 K H [] []
 | cons {v:V} {vs:List V} {d:PyData} {ds:List PyData}:Dp K H v d->z6 K H vs ds->z6 K H (v :: vs) (d :: ds)
end
section
variable {X:Cx} {pins:List (Addr × Obj)} {σ:St} {H:Hp} {s:Shared}
mutual
theorem Dp.reads(I:Inv X pins σ H s):∀ (d:PyData) (v:V) (u:Value),Dp X.K H v d->RelV v u->∃ as,Reads s.heap u d as
 | .none,_,_,h,r=>by
  cases h
  cases r
  exact ⟨_,Reads.none⟩
 | .bool b,_,_,h,r=>by
  cases h
  cases r
  exact ⟨_,Reads.bool b⟩
 | .int i,_,_,h,r=>by
  cases h
  obtain ⟨t,rfl⟩:=r
  exact ⟨_,Reads.int i t⟩
 | .str x,_,_,h,r=>by
  cases h
  obtain ⟨t,rfl⟩:=r
  exact ⟨_,Reads.str x t⟩
 | .list ds,_,_,h,r=>by
  cases h with
  | lst hs ha =>
   cases r
   obtain ⟨its,rv,⟨o,n,ho,hc,_,hd⟩,_⟩:=I.list hs
   obtain ⟨as,hr⟩:=Dp.readsAll I ds _ its ha rv
   exact ⟨_,Reads.list ho hc hd hr⟩
 | .tuple ds,_,_,h,r=>by
  cases h with
  | tup hs ha =>
   cases r
   obtain ⟨its,rv,⟨o,ho,hc,n,hd⟩,_⟩:=I.tuple hs
   obtain ⟨as,hr⟩:=Dp.readsAll I ds _ its ha rv
   exact ⟨_,Reads.tuple ho hc hd hr⟩
 | .dict _,_,_,h,_=>by cases h
theorem Dp.readsAll(I:Inv X pins σ H s):∀ (ds:List PyData) (vs:List V) (us:List Value),z6 X.K H vs ds->Vals vs us->∃ as,ReadsAll s.heap us ds as
 | [],_,_,h,r=>by
  cases h
  cases r
  exact ⟨_,ReadsAll.nil⟩
 | d :: ds,_,_,h,r=>by
  cases h with
  | cons h1 h2 =>
   cases r with
   | cons r1 r2 =>
    obtain ⟨as,q1⟩:=Dp.reads I d _ _ h1 r1
    obtain ⟨bs,q2⟩:=Dp.readsAll I ds _ _ h2 r2
    exact ⟨_,ReadsAll.cons q1 q2⟩
end
end
section
variable {X:Cx}
def LJ(K:PySem.W.Frag):R2:=fun x y H Q=>∃ d e,Dp K H x d /\ Dp K H y e /\ SeqAt.shaped d=true /\ SeqAt.shaped e=true /\ Q (.bl (PyData.eqv d e)) H
def Sg(K:PySem.W.Frag):R2:=fun x y H Q=>∃ d e,Dp K H x d /\ Dp K H y e /\ SeqAt.shaped d=true /\ SeqAt.shaped e=true /\ Q (.bl (!PyData.eqv d e)) H
theorem Qx(hu:X.A.units + 64 < cLine):OpR X (compareOp .Eq) (LJ X.K):=by
 intro pins s σ H x y v u Q I rx ry h
 obtain ⟨d,e,hd,he,sd,se,q⟩:=h
 obtain ⟨as,r1⟩:=Dp.reads I d x v hd rx
 obtain ⟨bs,r2⟩:=Dp.reads I e y u he ry
 exact SeqAt.compareEq_shaped r1 r2 sd se hu ⟨.bl _,H,I,rfl,q⟩
theorem LK(hu:X.A.units + 64 < cLine):OpR X (compareOp .NotEq) (Sg X.K):=by
 intro pins s σ H x y v u Q I rx ry h
 obtain ⟨d,e,hd,he,sd,se,q⟩:=h
 obtain ⟨as,r1⟩:=Dp.reads I d x v hd rx
 obtain ⟨bs,r2⟩:=Dp.reads I e y u he ry
 exact SeqAt.compareNe_shaped r1 r2 sd se hu ⟨.bl _,H,I,rfl,q⟩
end
end L2
namespace L2
open PySem PySem.Spec PyProof.Rows
abbrev LL(h:Heap)(c:Addr)(v:Option Value):Prop:=h.IsCell c v
def TN(scope sc:Scope):Scope :=
 { scope with names:=scope.names.map fun (n,k)=>if (k == .free && sc.kind == .function && sc.names.lookup n == some .cell) then (n,.cell) else (n,k) }
def aW(cells:List (Str × Addr)):List (Str × NameKind)->List (Str × Addr)->List (Str × Addr)
 | [],acc=>acc
 | (n,k) :: r,acc=>if k == .free then aW cells r ((n,(cells.lookup n).getD 0) :: acc) else aW cells r acc
theorem vz (env : Env) (f : Str × NameKind -> List (Str × Addr) -> Sem (ForInStep (List (Str × Addr))))
    (hf:∀ n k c,f (n,k) c=if k == .free then (do let a <- cellOf env n;pure (.yield ((n,a) :: c))) else pure (.yield c)) :
    ∀ (names:List (Str × NameKind)) (acc:List (Str × Addr)),(∀ y ∈ names,y.2 = .free->∃ c,env.cells.lookup y.1=some c)->forIn names acc f=pure (aW env.cells names acc)
 | [],acc,_=>by rw [List.forIn_nil];rfl
 | (n,k) :: r,acc,h=>by
  rw [List.forIn_cons,hf]
  have ih:=fun acc=>vz env f hf r acc fun y hy=>h y (List.mem_cons_of_mem _ hy)
  unfold aW
  by_cases hk:(k == NameKind.free)=true
  . rw [if_pos hk,if_pos hk]
    obtain ⟨c,hc⟩:=h (n,k) List.mem_cons_self (by simpa using hk)
    have e:cellOf env n=pure c:=by unfold cellOf;rw [hc]
    rw [e]
    have e2:(env.cells.lookup n).getD 0=c:=by rw [hc];rfl
    rw [e2]
    exact ih _
  . rw [if_neg hk,if_neg hk]
    exact ih _
theorem n4{scope:Scope}{env:Env}(h:∀ y ∈ scope.names,y.2 = .free->∃ c,env.cells.lookup y.1=some c):closureFor scope env=pure (aW env.cells scope.names []):=by
 simp only [closureFor]
 rw [vz env _ (fun n k c=>rfl) scope.names [] h]
 rfl
theorem mem_lookup{α:Type}:∀ {l:List (Str × α)} {n:Str} {c:α},(n,c) ∈ l->∃ c',l.lookup n=some c'
 | (k,v) :: r,n,c,h=>by
  rw [List.lookup_cons]
  cases hb:n == k with
  | true=>exact ⟨_,rfl⟩
  | false =>
   rcases List.mem_cons.mp h with e | h
   . cases e;simp at hb
   . exact mem_lookup h
theorem i6{cells:List (Str × Addr)}:∀ {names:List (Str × NameKind)} {acc:List (Str × Addr)} {n:Str} {c:Addr},(n,c) ∈ aW cells names acc->(n,c) ∈ acc \/ ((n,.free) ∈ names /\ c=(cells.lookup n).getD 0)
 | [],_,_,_,h=>.inl h
 | (m,k) :: r,acc,n,c,h=>by
  unfold aW at h
  split at h
  . rename_i hk
    have hk:k = .free:=by simpa using hk
    rcases i6 h with h | ⟨h1,h2⟩
    . rcases List.mem_cons.mp h with e | h
      . cases e;exact .inr ⟨hk ▸ List.mem_cons_self,rfl⟩
      . exact .inl h
    . exact .inr ⟨List.mem_cons_of_mem _ h1,h2⟩
  . rcases i6 h with h | ⟨h1,h2⟩
    . exact .inl h
    . exact .inr ⟨List.mem_cons_of_mem _ h1,h2⟩
theorem rN{cells:List (Str × Addr)}:∀ {names:List (Str × NameKind)} {acc:List (Str × Addr)} {p:Str × Addr},p ∈ acc->p ∈ aW cells names acc
 | [],_,_,h=>h
 | (m,k) :: r,acc,p,h=>by
  unfold aW
  split
  . exact rN (List.mem_cons_of_mem _ h)
  . exact rN h
theorem jO{cells:List (Str × Addr)}:∀ {names:List (Str × NameKind)} {acc:List (Str × Addr)} {n:Str},(n,.free) ∈ names->(n,(cells.lookup n).getD 0) ∈ aW cells names acc
 | (m,k) :: r,acc,n,h=>by
  unfold aW
  rcases List.mem_cons.mp h with e | h
  . cases e
    exact rN List.mem_cons_self
  . split
    . exact jO h
    . exact jO h
theorem nT : ∀ {names : List (Str × NameKind)} {h : Heap} {acc : List (Str × Addr)} {x : Str} {c : Addr}, (x, c) ∈ cellsFrom h.objs.size names acc ->
    (x,c) ∈ acc \/ ((x,.cell) ∈ names /\ h.objs.size <= c /\ LL (pushCells h names) c none)
 | [],_,_,_,_,h=>.inl h
 | (n,k) :: r,h,acc,x,c,hm=>by
  unfold cellsFrom at hm
  unfold pushCells
  split at hm
  . rename_i hk
    rw [if_pos hk]
    have hk:k = .cell:=by simpa using hk
    rw [<- Heap.size_push h { cls:=.type "cell",data:=.cell none }] at hm
    rcases nT hm with hm | ⟨h1,h2,h3⟩
    . rcases List.mem_cons.mp hm with e | hm
      . cases e
        exact .inr ⟨hk ▸ List.mem_cons_self,Nat.le_refl _,_,pushCells_keeps r _ _ _ (Heap.get?_push_size _ rfl),rfl⟩
      . exact .inl hm
    . rw [Heap.size_push] at h2
      exact .inr ⟨List.mem_cons_of_mem _ h1,Nat.le_of_succ_le h2,h3⟩
  . rename_i hk
    rw [if_neg hk]
    rcases nT hm with hm | ⟨h1,h2,h3⟩
    . exact .inl hm
    . exact .inr ⟨List.mem_cons_of_mem _ h1,h2,h3⟩
theorem sj:∀ {names:List (Str × NameKind)} {n:Nat} {acc:List (Str × Addr)} {p:Str × Addr},p ∈ acc->p ∈ cellsFrom n names acc
 | [],_,_,_,h=>h
 | (m,k) :: r,n,acc,p,h=>by
  unfold cellsFrom
  split
  . exact sj (List.mem_cons_of_mem _ h)
  . exact sj h
theorem wQ:∀ {names:List (Str × NameKind)} {n:Nat} {acc:List (Str × Addr)} {x:Str},(x,.cell) ∈ names->∃ c,(x,c) ∈ cellsFrom n names acc
 | (m,k) :: r,n,acc,x,h=>by
  unfold cellsFrom
  rcases List.mem_cons.mp h with e | h
  . cases e
    exact ⟨n,sj List.mem_cons_self⟩
  . split
    . exact wQ h
    . exact wQ h
theorem wR : ∀ {names : List (Str × NameKind)} {h : Heap} {acc : List (Str × Addr)} {x y : Str} {c : Addr}, (∀ p ∈ acc, p.2 < h.objs.size) -> (∀ x y c, (x, c) ∈ acc -> (y, c) ∈ acc -> x = y) ->
    (x,c) ∈ cellsFrom h.objs.size names acc->(y,c) ∈ cellsFrom h.objs.size names acc->x=y
 | [],_,_,_,_,_,_,hi,h1,h2=>hi _ _ _ h1 h2
 | (n,k) :: r,h,acc,x,y,c,hl,hi,h1,h2=>by
  unfold cellsFrom at h1 h2
  split at h1
  . rename_i hk
    rw [if_pos hk] at h2
    rw [<- Heap.size_push h { cls:=.type "cell",data:=.cell none }] at h1 h2
    refine wR (h:=h.push _) (fun p hp=>?_) (fun x y c a b=>?_) h1 h2
    . rw [Heap.size_push]
      rcases List.mem_cons.mp hp with rfl | hp
      . exact Nat.lt_succ_self _
      . exact Nat.lt_succ_of_lt (hl p hp)
    . rcases List.mem_cons.mp a with e | a <;> rcases List.mem_cons.mp b with e' | b
      . cases e;cases e';rfl
      . cases e;exact absurd (hl _ b) (Nat.lt_irrefl _)
      . cases e';exact absurd (hl _ a) (Nat.lt_irrefl _)
      . exact hi _ _ _ a b
  . rename_i hk
    rw [if_neg hk] at h2
    exact wR hl hi h1 h2
theorem FT {M : Model} {A : Around} {E : Value -> Shared -> Prop} {s : Shared} {scope : Scope} {globals : Addr} {closure : List (Str × Addr)} {qual : Str} {func : Option Addr} {code : Value} {around : Env} {builtins : Addr} {Q : Env -> Shared -> Prop}
    (h:Q (newEnv scope s.heap.objs.size globals (cellsFrom (s.heap.objs.size + 1) scope.names closure) qual func code (some around) builtins)
     { s with heap:=pushCells (s.heap.push { cls:=.type "dict",data:=.dict #[] }) scope.names }) :
    wpAny M A (newFunctionEnv scope globals closure [] qual func code (some around) builtins) Q E s:=by
 simp only [newFunctionEnv,Option.isSome_some,if_true]
 refine wpAny_bind (wpAny_alloc ?_)
 refine wpAny_bind (wpAny_layCells _ (fun n k c=>rfl) scope.names closure _ _ ?_)
 rw [show ({ s with heap:=s.heap.push { cls:=.type "dict",data:=.dict #[] } }:Shared).heap.objs.size=s.heap.objs.size + 1 from Heap.size_push ..]
 rw [List.forIn_nil]
 exact wpAny_bind (wpAny_pure (wpAny_pure h))
theorem rO {sc : Scope} : ∀ {names : List (Str × NameKind)} {x : Str} {k : NameKind},
    (names.map fun (n,k)=>if (k == NameKind.free && sc.kind == .function && sc.names.lookup n == some .cell) then (n,NameKind.cell) else (n,k)).lookup x=some k ->
    ∃ k',names.lookup x=some k' /\ (k=k' \/ (k' = .free /\ k = .cell))
 | [],_,_,h=>by simp at h
 | (n,k₀) :: r,x,k,h=>by
  have ih:=@rO sc r x k
  have h':List.lookup x ((if (k₀ == NameKind.free && sc.kind == .function && sc.names.lookup n == some .cell)=true then (n,NameKind.cell) else (n,k₀)) :: (r.map _))=some k:=h
  cases hx:x == n with
  | true =>
   simp only [List.lookup_cons,hx]
   by_cases hc:(k₀ == NameKind.free && sc.kind == .function && sc.names.lookup n == some .cell)=true
   . rw [if_pos hc] at h'
     simp only [List.lookup_cons,hx] at h'
     cases h'
     simp only [Bool.and_eq_true,beq_iff_eq] at hc
     exact ⟨k₀,rfl,.inr ⟨hc.1.1,rfl⟩⟩
   . rw [if_neg hc] at h'
     simp only [List.lookup_cons,hx] at h'
     cases h'
     exact ⟨_,rfl,.inl rfl⟩
  | false =>
   simp only [List.lookup_cons,hx]
   by_cases hc:(k₀ == NameKind.free && sc.kind == .function && sc.names.lookup n == some .cell)=true
   . rw [if_pos hc] at h'
     simp only [List.lookup_cons,hx] at h'
     exact ih h'
   . rw [if_neg hc] at h'
     simp only [List.lookup_cons,hx] at h'
     exact ih h'
structure gF (N:List Str) (sc scope:Scope) (own:List (Str × Nat)):Prop where
 kind:scope.kind = .function
 uniq:∀ y ∈ scope.names,scope.names.lookup y.1=some y.2
 ix:∀ p ∈ own,N[p.2]? = some p.1
 free:∀ y ∈ scope.names,y.2 = .free->sc.names.lookup y.1=some .cell \/ sc.names.lookup y.1=some .free
 own:∀ y ∈ scope.names,y.2 = .local \/ y.2 = .cell->y.1 ∈ own.map (·.1) \/ y.1 ∉ N
def wipe(σ:St):List Nat->St
 | []=>σ
 | v :: vs=>(wipe σ vs).set v none
theorem aR(σ:St):∀ vs:List Nat,(wipe σ vs).length=σ.length
 | []=>rfl
 | v :: vs=>by unfold wipe;rw [List.length_set,aR σ vs]
theorem bY{σ:St}{i:Nat}{x:V}:∀ {vs:List Nat},(wipe σ vs)[i]? = some (some x)->σ[i]? = some (some x) /\ i ∉ vs
 | [],h=>⟨h,by simp⟩
 | v :: vs,h=>by
  unfold wipe at h
  by_cases hi:v=i
  . subst hi
    by_cases hv:v < (wipe σ vs).length
    . rw [List.getElem?_set_self hv] at h;cases h
    . rw [List.getElem?_eq_none (by simpa using hv)] at h;cases h
  . rw [List.getElem?_set_ne hi] at h
    obtain ⟨h1,h2⟩:=bY h
    exact ⟨h1,by simp only [List.mem_cons,not_or];exact ⟨fun e=>hi e.symm,h2⟩⟩
abbrev Cx.blk(X:Cx)(s:Shared)(H:Hp)(scope:Scope)(cenv:Env)(fp:List Addr):Cx:={ X with s_0:=s,H_0:=H,env:=cenv,outer:=X.stack,ex:=fp,fn:=fun x=>scope.names.lookup x == some .cell,pn:=[],xe:=fun _ _=>False }
section
variable {X:Cx} {pins:List (Addr × Obj)} {σ:St} {H:Hp} {s:Shared}
theorem FU {scope : Scope} {own : List (Str × Nat)} {fp : List Addr} (I : Inv X pins σ H s) (ok : gF X.N X.env.scope scope own) (hN : X.N.Nodup) (hfp : ∀ b ∈ fp, mH X pins H b /\ b < s.heap.objs.size) :
    Inv (X.blk s H scope (compEnvC scope (cellsFrom (s.heap.objs.size + 1) scope.names (aW X.env.cells scope.names [])) s.heap.objs.size X.env) fp) [] (wipe σ (own.map (·.2))) H { s with heap:=pushCells (s.heap.push { cls:=.type "dict",data:=.dict #[] }) scope.names }:=by
 have hfree:∀ y ∈ scope.names,y.2 = .free->∃ c,X.env.cells.lookup y.1=some c:=fun y hy e=>by
  rcases ok.free y hy e with k | k
  . exact I.ok.has _ (.inl k)
  . exact I.ok.has _ (.inr k)
 generalize hcenv:compEnvC scope (cellsFrom (s.heap.objs.size + 1) scope.names (aW X.env.cells scope.names [])) s.heap.objs.size X.env=cenv
 have kp:∀ b o,s.heap.get? b=some o->(pushCells (s.heap.push { cls:=.type "dict",data:=.dict #[] }) scope.names).get? b=some o:=fun b o e=>pushCells_keeps _ _ _ _ (Heap.get?_push_of_some _ e)
 have hL:cenv.locals=s.heap.objs.size:=by rw [<- hcenv];rfl
 have hcl:cenv.cells=cellsFrom (s.heap.objs.size + 1) scope.names (aW X.env.cells scope.names []):=by rw [<- hcenv];rfl
 have hsc:cenv.scope=TN scope X.env.scope:=by rw [<- hcenv];rfl
 rw [<- Heap.size_push s.heap { cls:=.type "dict",data:=.dict #[] }] at hcl
 have cm:∀ {y c},(y,c) ∈ aW X.env.cells scope.names []->X.env.cells.lookup y=some c /\ c < s.heap.objs.size:=fun {y c} hm=>by
  rcases i6 hm with hm | ⟨h1,rfl⟩
  . cases hm
  . obtain ⟨c,hc⟩:=hfree _ h1 rfl
    rw [hc]
    obtain ⟨w,z⟩:=I.cell _ _ hc
    exact ⟨rfl,z.lt⟩
 have mem:∀ {y c},cenv.cells.lookup y=some c->(X.env.cells.lookup y=some c /\ c < s.heap.objs.size) \/ (s.heap.objs.size + 1 <= c /\ LL (pushCells (s.heap.push { cls:=.type "dict",data:=.dict #[] }) scope.names) c none):=fun {y c} e=>by
  rw [hcl] at e
  rcases nT (PySem.mem_of_lookup e) with hm | ⟨_,h2,h3⟩
  . exact .inl (cm hm)
  . rw [Heap.size_push] at h2;exact .inr ⟨h2,h3⟩
 have look:∀ {y},scope.names.lookup y=some .free->∃ c,cenv.cells.lookup y=some c /\ X.env.cells.lookup y=some c:=fun {y} hl=>by
  have hy:(y,NameKind.free) ∈ scope.names:=PySem.mem_of_lookup hl
  obtain ⟨c',e'⟩:=mem_lookup (sj (names:=scope.names) (n:=(s.heap.push { cls:=.type "dict",data:=.dict #[] }).objs.size) (jO (cells:=X.env.cells) (acc:=[]) hy))
  rw [<- hcl] at e'
  refine ⟨c',e',?_⟩
  rw [hcl] at e'
  rcases nT (PySem.mem_of_lookup e') with hm | ⟨h1,_,_⟩
  . exact (cm hm).1
  . have:=ok.uniq _ h1
    rw [hl] at this;cases this
 have okB:(X.blk s H scope cenv fp).Ok:=by
  refine ⟨I.ok.mod,by show cenv.scope.kind=_;rw [hsc];exact ok.kind,by show cenv.globals=_;rw [<- hcenv];exact I.ok.glob,by show cenv.builtins=_;rw [<- hcenv];exact I.ok.blt,by show s.heap.objs.size <= cenv.locals;rw [hL];exact Nat.le_refl _,
   fun y z c e1 e2=>?_,fun y hy=>?_,fun y c z e=>?_,I.ok.hd,I.ok.frames,.inl rfl,fun b hb=>⟨?_,fun y c e z=>?_⟩,I.bs,Nat.le_trans I.ok.bsz I.sz,fun b o e hb=>?_,fun b hb z=>?_,I.stack,I.uO,I.tabs⟩
  . have e1:cenv.cells.lookup y=some c:=e1
    have e2:cenv.cells.lookup z=some c:=e2
    rw [hcl] at e1 e2
    refine wR (fun p hp=>?_) (fun y z c a b=>I.ok.inj y z c (cm a).1 (cm b).1) (PySem.mem_of_lookup e1) (PySem.mem_of_lookup e2)
    rw [Heap.size_push]
    exact Nat.lt_succ_of_lt (cm (y:=p.1) (c:=p.2) hp).2
  . show ∃ c,cenv.cells.lookup y=some c
    have key:∀ k,cenv.kindOf y=some k->(k = .cell \/ k = .free)->∃ c,cenv.cells.lookup y=some c:=fun k hk hk'=>by
     unfold Env.kindOf at hk
     rw [hsc] at hk
     obtain ⟨k',e,r⟩:=rO hk
     have:k' = .cell \/ k' = .free:=by
      rcases r with rfl | ⟨rfl,_⟩
      . exact hk'
      . exact .inr rfl
     rcases this with rfl | rfl
     . obtain ⟨c,hm⟩:=wQ (n:=(s.heap.push { cls:=.type "dict",data:=.dict #[] }).objs.size) (acc:=aW X.env.cells scope.names []) (PySem.mem_of_lookup e)
       obtain ⟨c',e'⟩:=mem_lookup hm
       exact ⟨c',by rw [hcl];exact e'⟩
     . obtain ⟨c,h1,_⟩:=look e
       exact ⟨c,h1⟩
    rcases hy with hy | hy
    . exact key _ hy (.inl rfl)
    . exact key _ hy (.inr rfl)
  . have z:(scope.names.lookup y == some NameKind.cell)=true:=z
    have z:scope.names.lookup y=some .cell:=by simpa using z
    have e:cenv.cells.lookup y=some c:=e
    rw [hcl] at e
    rcases nT (PySem.mem_of_lookup e) with hm | ⟨_,h2,_⟩
    . rcases i6 hm with hm | ⟨h1,_⟩
      . cases hm
      . have q:=ok.uniq _ h1
        rw [z] at q;cases q
    . rw [Heap.size_push] at h2
      exact Nat.le_of_succ_le h2
  . show b ≠ cenv.locals
    rw [hL];exact Nat.ne_of_lt (hfp b hb).2
  . have e:cenv.cells.lookup y=some c:=e
    rcases mem e with ⟨h1,_⟩ | ⟨h1,_⟩
    . exact (hfp b hb).1.2.2.2.2.1 y c h1 z
    . have h2:s.heap.objs.size + 1 <= b:=by rw [<- z];exact h1
      exact absurd (Nat.lt_of_lt_of_le (hfp b hb).2 (Nat.le_of_succ_le h2)) (Nat.lt_irrefl _)
  . rcases (hfp b hb).1.2.2.2.1 with z | z
    . exact I.ok.Gz b o e z
    . exact absurd (Nat.lt_of_lt_of_le (Heap.lt_size e) (Nat.le_trans I.ok.bsz z)) (Nat.lt_irrefl _)
  . rcases List.mem_cons.mp (I.tW b z) with z | z
    . exact (hfp b hb).1.2.1 z
    . exact (hfp b hb).1.2.2.1 z
 refine ⟨okB,rfl,I.bare.self,Un.kept kp,⟨fun _=>none,?_,fun i y av e1 e2 e3=>?_⟩,fun y c e=>?_,?_,fun y c e=>?_,fun p hp=>?_,I.hok.kept kp,by rw [aR];exact I.len⟩
 . show Heap.Ns _ cenv.locals _
   rw [hL]
   exact Heap.Ns.keeps (Heap.Ns.new ..) fun b o e=>pushCells_keeps _ _ _ _ e
 . obtain ⟨e2,hne⟩:=bY e2
   have hfr:scope.names.lookup y=some .free /\ (cenv.kindOf y=some .cell \/ cenv.kindOf y=some .free):=by
    have key:∀ k,cenv.scope.names.lookup y=some k->k = .local \/ k = .cell \/ k = .free->scope.names.lookup y=some .free /\ (cenv.kindOf y=some .cell \/ cenv.kindOf y=some .free):=fun k hk hk'=>by
     have hk0:=hk
     rw [hsc] at hk
     obtain ⟨k',e,r⟩:=rO hk
     have no:¬ (k' = .local \/ k' = .cell):=fun hh=>by
      rcases ok.own _ (PySem.mem_of_lookup e) hh with e' | e'
      . obtain ⟨p,hp,hpy⟩:=List.mem_map.mp e'
        have e3:=ok.ix p hp
        have:p.1=y:=hpy
        rw [this] at e3
        exact hne (List.mem_map.mpr ⟨p,hp,uP hN e3 e1⟩)
      . exact e' (List.mem_of_getElem? e1)
     rcases r with rfl | ⟨rfl,rfl⟩
     . rcases hk' with rfl | rfl | rfl
       . exact absurd (.inl rfl) no
       . exact absurd (.inr rfl) no
       . exact ⟨e,.inr hk0⟩
     . exact ⟨e,.inl hk0⟩
    have e3:Vis cenv.scope y:=e3
    rcases e3 with e3 | e3 | e3
    . exact key _ e3 (.inl rfl)
    . exact key _ e3 (.inr (.inl rfl))
    . exact key _ e3 (.inr (.inr rfl))
   obtain ⟨m,hn,hl⟩:=I.loc
   have hvis:Vis X.env.scope y:=(ok.free _ (PySem.mem_of_lookup hfr.1) rfl).elim (fun k=>.inr (.inl k)) (fun k=>.inr (.inr k))
   obtain ⟨w,r,q⟩:=hl i y av e1 e2 hvis
   refine ⟨w,r,.inr ⟨hfr.2,?_⟩⟩
   obtain ⟨c,h1,h2⟩:=look hfr.1
   rcases q with ⟨k,_⟩ | ⟨_,c',e',z⟩
   . have k:X.env.scope.names.lookup y=some .local:=k
     rcases ok.free _ (PySem.mem_of_lookup hfr.1) rfl with k' | k' <;> rw [show X.env.scope.names.lookup y=_ from k'] at k <;> cases k
   . rw [h2] at e';cases e'
     exact ⟨c,h1,z.keeps kp⟩
 . have e:cenv.cells.lookup y=some c:=e
   rcases mem e with ⟨h1,_⟩ | ⟨_,z⟩
   . obtain ⟨w,z⟩:=I.cell y c h1
     exact ⟨w,z.keeps kp⟩
   . exact ⟨_,z⟩
 . show H cenv.locals=none
   rw [hL];exact I.hok.fresh (Nat.le_refl _)
 . have e:cenv.cells.lookup y=some c:=e
   rcases mem e with ⟨h1,_⟩ | ⟨h1,_⟩
   . exact I.kR y c h1
   . exact I.hok.fresh (Nat.le_of_succ_le h1)
 . exact absurd (show p ∈ ([]:List (Addr × Obj)) ++ [] from hp) (by simp)
theorem Qy {E : Value -> Shared -> Prop} {D : Addr} {xs : List V} {y : V} {v : Value} {Q : Value -> Shared -> Prop} (I : Inv X pins σ H s) (hD : H D = some (.lst xs)) (hz : xs.length < sizeLine) (r : RelV y v)
    (h:∀ s',Inv X pins σ (upd H D (.lst (xs ++ [y]))) s'->Q .none s'):wpAny (model X.prog X.w) X.A (call (.builtin "list.append") [.ref D,v]) Q E s:=by
 obtain ⟨hz',its,n,ri,e⟩:=I.hok D _ hD
 have hl:=ri.length
 refine append_at (hsz:=by rw [List.size_toArray];omega) e fun h' sb ho'=>?_
 refine h { s with heap:=h' } (I.write (t':=s.toks) (by rw [hD];trivial) (.inl rfl) (fun b u hb q=>(sb.2 b hb).trans q) ⟨_,ho'⟩ ⟨by rw [List.length_append];exact hz,its ++ [v],n + 1,ri.append (.cons r .nil),?_⟩)
 rw [ho']
 simp
def PTs(X:Cx)(ifs:List Expr)(t:TT):Prop :=
 ∀ (pins:List (Addr × Obj)) (s:Shared) (σ:St) (H:Hp) (Q:Bool->Hp->Prop),Inv X pins σ H s->t σ H Q ->
  wpAny (model X.prog X.w) X.A (forIn ifs true fun c r=>if r=true then do let ok <- isTrue c X.env (eval c X.env);pure (ForInStep.yield ok) else pure (ForInStep.yield r)) (TP X pins σ Q) X.xe s
def TQ:TT:=fun _ H Q=>Q true H
theorem NO:PTs X [] TQ:=fun _ _ _ H _ I h=>wpAny_tests_nil ⟨H,I,h⟩
theorem NP{c:Expr}{t:TT}(h:PT X c t):PTs X [c] t:=fun pins s σ H Q I hw=>wpAny_tests_one (h pins s σ H Q I hw)
end
theorem Ey{α:Type}{t:Sem α}{Q Q':α->Shared->Prop}{M:Model}{A:Around}{E:Value->Shared->Prop}{s:Shared}(h:wpAny M A t Q (fun _ _=>False) s)(hQ:∀ a s,Q a s->Q' a s):wpAny M A t Q' E s:=wpAny_mono h hQ fun _ _ z=>False.elim z
theorem Ea {prog : Program} {w : World} {A : Around} {R : Result -> Shared -> Prop} {s : Shared} {elt target iter : Expr} {ifs : List Expr} {scope : Scope} {pos : Pos} {it acc : Value} {env : Env} (I : Nat -> Shared -> Prop)
    (turn:∀ n s,I n s->wpAny (model prog w) A (pyNext it) (fun r s₁=>match r with
     | none=>R (.ok .next) s₁
     | some v => wpAny (model prog w) A (letOwnedTupleGo target it v) (fun _ s₁' => wpAny (model prog w) A (assign target env v) (fun _ s₂ =>
         wpAny (model prog w) A (forIn ifs true fun c r=>if r=true then do let ok <- isTrue c env (eval c env);pure (ForInStep.yield ok) else pure (ForInStep.yield r)) (fun ok s₃ =>
          if ok=true then wpAny (model prog w) A (eval elt env) (fun x s₄ =>
           wpAny (model prog w) A (call (.builtin "list.append") [acc,x]) (fun _ s₅=>∃ m,m < n /\ I m s₅) (notedBy (model prog w) A env fun e s'=>R (.error e) s') s₄) (notedBy (model prog w) A env fun e s'=>R (.error e) s') s₃
          else ∃ m,m < n /\ I m s₃) (notedBy (model prog w) A env fun e s'=>R (.error e) s') s₂) (notedBy (model prog w) A env fun e s'=>R (.error e) s') s₁') (notedBy (model prog w) A env fun e s'=>R (.error e) s') s₁) (notedBy (model prog w) A env fun e s'=>R (.error e) s') s)
    (n:Nat) (h:I n s) :
    codeAny (model prog w) A (.compLoop (.ListComp elt [⟨target,iter,ifs,0⟩] scope pos) 0 it acc env) R s:=by
 refine codeAny_loop rfl I (fun n s hI=>?_) n h
 show wpAny _ A ((compTurn (.ListComp elt [⟨target,iter,ifs,0⟩] scope pos) 0 it acc env).onRaise (fun x=>do noteFrame x env;theTreesLotGoes x)) _ _ s
 refine wpAny_noted ?_
 rw [compTurn_list]
 refine wpAny_bind (wpAny_standAt (wpAny_bind (wpAny_mono (turn n s hI) (fun r s₁ h₁=>?_) fun _ _ h'=>h')))
 cases r with
 | none=>exact wpAny_pure h₁
 | some v =>
  refine wpAny_bind (wpAny_mono h₁ (fun _ s₁' h₁'=>?_) fun _ _ h'=>h')
  refine wpAny_bind (wpAny_mono h₁' (fun _ s₂ h₂=>wpAny_bind (wpAny_mono h₂ (fun ok s₃ h₃=>?_) fun _ _ h'=>h')) fun _ _ h'=>h')
  cases ok with
  | false=>exact wpAny_pure ⟨rfl,h₃⟩
  | true =>
   exact wpAny_bind (wpAny_bind (wpAny_mono h₃ (fun x s₄ h₄=>wpAny_bind (wpAny_mono h₄ (fun _ s₅ h₅=>wpAny_pure (wpAny_pure ⟨rfl,h₅⟩)) fun _ _ h'=>h')) fun _ _ h'=>h'))
section
variable {X:Cx}
def tLc(wi:TI)(g:TG)(tt:TT)(te:TE)(vs:List Nat):TE:=fun σ H Q=>wi σ H fun J H1=>∀ D,H1 D=none->∃ W:Nat->Nat->Hp->Prop,(∃ m,W 0 m (upd H1 D (.lst []))) /\ ∀ i m H,W i m H ->
 (J.stop i H /\ Q (.ref D) H) \/ (J.go i H /\ ∃ Nx:Hp->Prop,(∀ H',Nx H'->∃ m',m' < m /\ W (i + 1) m' H') /\ ∀ x H',J.yld i H x H'->g x (wipe σ vs) H' fun σ2 H2=>wipe σ2 vs=wipe σ vs /\ tt σ2 H2 fun b H3 =>
  if b=true then te σ2 H3 fun y H4=>∃ acc,H4 D=some (.lst acc) /\ acc.length < sizeLine /\ Nx (upd H4 D (.lst (acc ++ [y]))) else Nx H3)
theorem IB {pins : List (Addr × Obj)} {s : Shared} {σ : St} {H : Hp} {Q : VK} {elt tg iter : Expr} {ifs : List Expr} {scope : Scope} {own : List (Str × Nat)} {pos pos' : Pos} {wi : TI} {g : TG} {tt : TT} {te : TE} {use : Option (Value -> Sem Unit)} {Qf : Value -> Shared -> Prop}
    (hc:X.calm=true) (hN:X.N.Nodup) (I:Inv X pins σ H s) (hi:PI X tg iter wi) (ok:gF X.N X.env.scope scope own)
    (hg:∀ (s:Shared) (H:Hp) (C:Addr) (cl:List (Str × Addr)) (fp:List Addr),PG (X.blk s H scope (compEnvC scope cl C X.env) fp) tg g) (ht:∀ (s:Shared) (H:Hp) (C:Addr) (cl:List (Str × Addr)) (fp:List Addr),PTs (X.blk s H scope (compEnvC scope cl C X.env) fp) ifs tt)
    (he:∀ (s:Shared) (H:Hp) (C:Addr) (cl:List (Str × Addr)) (fp:List Addr),PE (X.blk s H scope (compEnvC scope cl C X.env) fp) elt te) (hs:∀ x,foldedSetIterable iter X.env x=pure x)
    (h:tLc wi g tt te (own.map (·.2)) σ H Q)
    (hRR:∀ D C s' m H',Inv X pins σ H' s'->Q (.ref D) H'->s'.heap.Ns C m->mH X pins H' C->compPost (model X.prog X.w) X.A X.xe use Qf (.ref D) C (.ok .next) s') :
    wpAny (model X.prog X.w) X.A (comprehension (.ListComp elt [⟨tg,iter,ifs,0⟩] scope pos) scope X.env pos' (newList []) false (eval iter X.env) use) Qf X.xe s:=by
 have hfree:∀ y ∈ scope.names,y.2 = .free->∃ c,X.env.cells.lookup y.1=some c:=fun y hy e=>by
  rcases ok.free y hy e with k | k
  . exact I.ok.has _ (.inl k)
  . exact I.ok.has _ (.inr k)
 refine wpAny_comprehension_free (use:=use) rfl hs (n4 hfree) ok.kind (fun y hy e=>by rw [ok.uniq y hy,e])
  (thn (hi pins s σ H _ I h) fun xv s1 hx=>thn hx fun itv s2 h2=>?_)
 obtain ⟨it,fp,tn,J,H2,e,I2,T,st2,f2,q⟩:=h2
 subst e
 refine wpAny_newObj_type (FT ?_) (by show 0 <= sizeLine;decide)
 generalize hD:s2.heap.objs.size=D
 have hDn:H2 D=none:=I2.hok.fresh (Nat.le_of_eq hD)
 obtain ⟨W,⟨m0,w0⟩,turn⟩:=q D hDn
 generalize hs3:({ s2 with heap:=s2.heap.push { cls:=.type "list",data:=.seq ([]:List Value).toArray } }:Shared)=s3
 have I3:Inv X pins σ (upd H2 D (.lst [])) s3:=by
  rw [<- hs3]
  refine I2.laid (t':=s2.toks) (fun b o e=>Heap.get?_push_of_some _ e) (Nat.le_of_eq hD) ⟨Nat.zero_le _,[],0,.nil,?_⟩
  rw [<- hD]
  exact Heap.get?_push_size _ rfl
 have h3:s3.heap=s2.heap.push { cls:=.type "list",data:=.seq ([]:List Value).toArray }:=by rw [<- hs3]
 have sz:∀ b ∈ fp,b < s2.heap.objs.size:=fun b hb=>by
  obtain ⟨o,e,_⟩:=T.obj _ _ st2 b hb
  exact Heap.lt_size e
 have f3:∀ b ∈ fp,mH X pins (upd H2 D (.lst [])) b /\ b < s3.heap.objs.size:=fun b hb=>by
  have hlt:=sz b hb
  refine ⟨⟨?_,(f2 b hb).2⟩,by rw [h3,Heap.size_push];exact Nat.lt_succ_of_lt hlt⟩
  rw [aL (by rw [<- hD];exact Nat.ne_of_lt hlt)]
  exact (f2 b hb).1
 have st3:tn 0 s3.heap:=T.keep _ _ _ st2 fun b _ o e=>by rw [h3];exact Heap.get?_push_of_some _ e
 have I4:=FU I3 ok hN f3
 have pg:=hg s3 (upd H2 D (.lst [])) s3.heap.objs.size (cellsFrom (s3.heap.objs.size + 1) scope.names (aW X.env.cells scope.names [])) fp
 have pt:=ht s3 (upd H2 D (.lst [])) s3.heap.objs.size (cellsFrom (s3.heap.objs.size + 1) scope.names (aW X.env.cells scope.names [])) fp
 have pe:=he s3 (upd H2 D (.lst [])) s3.heap.objs.size (cellsFrom (s3.heap.objs.size + 1) scope.names (aW X.env.cells scope.names [])) fp
 show codeAny _ _ (.compStart (.ListComp elt [⟨tg,iter,ifs,0⟩] scope pos) 0 (.ref it) (.ref D) (compEnvC scope (cellsFrom (s3.heap.objs.size + 1) scope.names (aW X.env.cells scope.names [])) s3.heap.objs.size X.env)) (compPost (model X.prog X.w) X.A X.xe use Qf (.ref D) s3.heap.objs.size) { s3 with heap:=pushCells (s3.heap.push { cls:=.type "dict",data:=.dict #[] }) scope.names }
 have nfp:∀ b ∈ fp,(upd H2 D (.lst [])) b=none:=fun b hb=>(f3 b hb).1.1
 generalize hce:compEnvC scope (cellsFrom (s3.heap.objs.size + 1) scope.names (aW X.env.cells scope.names [])) s3.heap.objs.size X.env=ce at I4 pg pt pe ⊢
 have cL:ce.locals=s3.heap.objs.size:=by subst hce;rfl
 generalize hH3:upd H2 D (.lst [])=H3 at I3 I4 pg pt pe w0 nfp f3
 generalize hs4:({ s3 with heap:=pushCells (s3.heap.push { cls:=.type "dict",data:=.dict #[] }) scope.names }:Shared)=s4 at I4 ⊢
 have st4:tn 0 s4.heap:=T.keep _ _ _ st3 fun b _ o e=>by rw [<- hs4];exact pushCells_keeps _ _ _ _ (Heap.get?_push_of_some _ e)
 have stat:∀ {σ':St} {H':Hp} {s':Shared},Inv (X.blk s3 H3 scope ce fp) [] σ' H' s'->(∀ b ∈ fp,H' b=none)->∀ b ∈ fp,mH (X.blk s3 H3 scope ce fp) [] H' b:=fun {σ' H' s'} I' hn b hb =>
  ⟨hn b hb,(I'.ok.exf b hb).1,I'.ok.GA b hb,.inl hb,fun x c e=>(I'.ok.exf b hb).2 x c e,fun p hp=>absurd (show p ∈ ([]:List (Addr × Obj)) ++ [] from hp) (by simp)⟩
 have loop:codeAny (model X.prog X.w) X.A (.compLoop (.ListComp elt [⟨tg,iter,ifs,0⟩] scope pos) 0 (.ref it) (.ref D) ce) (compPost (model X.prog X.w) X.A X.xe use Qf (.ref D) s3.heap.objs.size) s4:=by
  refine Ea (fun n s'=>∃ i H',Inv (X.blk s3 H3 scope ce fp) [] (wipe σ (own.map (·.2))) H' s' /\ tn i s'.heap /\ (∀ b ∈ fp,H' b=none) /\ W i n H') ?_ m0 ⟨0,H3,I4,st4,nfp,w0⟩
  rintro n s5 ⟨i,H5,I5,st5,n5,w5⟩
  rcases turn i n H5 w5 with ⟨stop,qq⟩ | ⟨go,Nx,hNx,step⟩
  . have td:=T.done (X.blk s3 H3 scope ce fp) rfl rfl rfl hc i [] s5 _ H5 (fun _ _=>False) I5 (stat I5 n5) st5 stop
    refine Ey td fun r s6 ⟨hr,I6⟩=>?_
    subst hr
    have I7:Inv X pins σ H5 s6:=I3.yM (ch:=fp) I6.os I6.base I6.hok I6.bare fun b hb=>⟨(f3 b hb).1.2.2.2.1,(f3 b hb).1.2.1,(f3 b hb).1.2.2.2.2.1,(f3 b hb).1.2.2.2.2.2⟩
    have nC:H5 s3.heap.objs.size=none:=by
     have z:H5 ce.locals=none:=I6.free
     rw [cL] at z
     exact z
    obtain ⟨m,hn,_⟩:=I6.loc
    have hn:s6.heap.Ns ce.locals m:=hn
    rw [cL] at hn
    exact hRR D s3.heap.objs.size s6 m H5 I7 qq hn (I3.JP (Nat.le_refl _) nC)
  . have ti:=T.item (X.blk s3 H3 scope ce fp) rfl rfl rfl hc i [] s5 _ H5 (fun _ _=>False) I5 (stat I5 n5) st5 go
    refine Ey ti fun r s6 ⟨u,hr,h6⟩=>?_
    subst hr
    refine Ey h6 fun _ s7 ⟨x,H7,I7,r7,y7,st7,n7⟩=>?_
    have I7':=I7.pinned (stat I7 n7) (T.obj _ _ st7)
    refine Ey (pg _ s7 _ H7 x u _ I7' r7 (step x H7 y7)) fun _ s8 ⟨σ8,H8,I8,hw8,q8⟩=>?_
    refine Ey (pt _ s8 σ8 H8 _ I8 q8) fun b s9 ⟨H9,I9,q9⟩=>?_
    have fin:∀ {s':Shared} {H':Hp},Inv (X.blk s3 H3 scope ce fp) ([] ++ qx fp s7.heap) σ8 H' s'->Nx H'->∃ m,m < n /\ ∃ i H',Inv (X.blk s3 H3 scope ce fp) [] (wipe σ (own.map (·.2))) H' s' /\ tn i s'.heap /\ (∀ b ∈ fp,H' b=none) /\ W i m H':=fun {s' H'} I' nx=>by
     obtain ⟨m',hm,w'⟩:=hNx H' nx
     have pin':∀ b ∈ fp,∀ o,s7.heap.get? b=some o->s'.heap.get? b=some o /\ H' b=none:=fun b hb o e =>
      let z:=I'.pin (b,o) (List.mem_append_right _ (List.mem_append_right _ (lC hb e)))
      ⟨z.1,z.2.1⟩
     have hl:(wipe σ (own.map (·.2))).length=σ8.length:=by rw [<- hw8,aR]
     refine ⟨m',hm,i + 1,H',(I'.lD (pins:=[])).weak hl (fun j v e=>?_),T.keep _ _ _ st7 fun b hb o e=>(pin' b hb o e).1,fun b hb=>?_,w'⟩
     . rw [<- hw8] at e
       exact (bY e).1
     . obtain ⟨o,e,_⟩:=T.obj _ _ st7 b hb
       exact (pin' b hb o e).2
    cases b with
    | false =>
     simp only [Bool.false_eq_true,if_false] at q9 ⊢
     exact fin I9 q9
    | true =>
     simp only [if_true] at q9 ⊢
     refine Ey (pe _ s9 σ8 H9 _ I9 q9) fun z s10 ⟨yv,H10,I10,r10,acc,hD10,hz10,nx⟩=>?_
     exact Qy (X:=X.blk s3 H3 scope ce fp) I10 hD10 hz10 r10 fun s11 I11=>fin I11 nx
 exact codeAny_compStart_list loop (T.self X.A 0 _ _ _ st4 loop)
theorem LM {elt tg iter : Expr} {ifs : List Expr} {scope : Scope} {own : List (Str × Nat)} {pos : Pos} {wi : TI} {g : TG} {tt : TT} {te : TE} (hc : X.calm = true) (hN : X.N.Nodup) (hi : PI X tg iter wi) (ok : gF X.N X.env.scope scope own)
    (hg:∀ (s:Shared) (H:Hp) (C:Addr) (cl:List (Str × Addr)) (fp:List Addr),PG (X.blk s H scope (compEnvC scope cl C X.env) fp) tg g) (ht:∀ (s:Shared) (H:Hp) (C:Addr) (cl:List (Str × Addr)) (fp:List Addr),PTs (X.blk s H scope (compEnvC scope cl C X.env) fp) ifs tt)
    (he:∀ (s:Shared) (H:Hp) (C:Addr) (cl:List (Str × Addr)) (fp:List Addr),PE (X.blk s H scope (compEnvC scope cl C X.env) fp) elt te) (hs:∀ x,foldedSetIterable iter X.env x=pure x:=by intro _;rfl) :
    PE X (.ListComp elt [⟨tg,iter,ifs,0⟩] scope pos) (tLc wi g tt te (own.map (·.2))):=by
 intro pins s σ H Q I h
 rw [eval_ListComp]
 refine IB hc hN I hi ok hg ht he hs h fun D C s' m H' I' q hn f=>⟨m,hn,fun h'' sb=>?_⟩
 obtain ⟨f0,f1,f2,f3,f4,f5⟩:=f
 exact ⟨.ref D,H',I'.turned (t':=s'.toks) (fun b o hb e=>(sb.2 b hb).trans e) f0 f1 f3 f4 f5,rfl,q⟩
theorem LN {i : Nat} {y : Str} {py : Pos} {elt tg iter : Expr} {ifs : List Expr} {scope : Scope} {own : List (Str × Nat)} {pos spos : Pos} {wi : TI} {g : TG} {tt : TT} {te : TE} (hc : X.calm = true) (hN : X.N.Nodup) (hy : X.N[i]? = some y) (hyl : X.env.scope.names.lookup y = some .local)
    (hsw:swapsWith (.ListComp elt [⟨tg,iter,ifs,0⟩] scope pos) (some (.Name y py)) spos.line X.env=pure true) (hi:PI X tg iter wi) (ok:gF X.N X.env.scope scope own)
    (hg:∀ (s:Shared) (H:Hp) (C:Addr) (cl:List (Str × Addr)) (fp:List Addr),PG (X.blk s H scope (compEnvC scope cl C X.env) fp) tg g) (ht:∀ (s:Shared) (H:Hp) (C:Addr) (cl:List (Str × Addr)) (fp:List Addr),PTs (X.blk s H scope (compEnvC scope cl C X.env) fp) ifs tt)
    (he:∀ (s:Shared) (H:Hp) (C:Addr) (cl:List (Str × Addr)) (fp:List Addr),PE (X.blk s H scope (compEnvC scope cl C X.env) fp) elt te) (hs:∀ x,foldedSetIterable iter X.env x=pure x:=by intro _;rfl) :
    PS X (.Assign [.Name y py] (.ListComp elt [⟨tg,iter,ifs,0⟩] scope pos) spos) (Lp (tLc wi g tt te (own.map (·.2))) (FO i)):=by
 intro pins s σ H D I h
 rw [exec_Assign_Name_used _ _ _ _ hsw]
 refine wpAny_bind (wpAny_standAt (wpAny_bind ?_))
 show wpAny _ X.A (do let _ <- comprehension (.ListComp elt [⟨tg,iter,ifs,0⟩] scope pos) scope X.env (firstIterPos [⟨tg,iter,ifs,0⟩] pos) (newList []) false (eval iter X.env) (some (assign (.Name y py) X.env))) _ _ s
 have h:tLc wi g tt te (own.map (·.2)) σ H (fun x H1=>FO i x σ H1 D.nx):=h
 refine wpAny_bind (thn (IB (Qf:=fun _ s'=>SP X pins D .next s') hc hN I hi ok hg ht he hs h fun L C s' m H' I' q hn f=>?_) fun _ s' hq=>wpAny_pure (wpAny_pure hq))
 show wpAny _ _ (assign (.Name y py) X.env (.ref L)) _ _ _
 refine wpAny_assign_Name (CA (v:=V.ref L) I' hN hy (.inl hyl) rfl (fun s2 I2 ⟨a,sb,ha⟩=>?_) (.inr hyl))
 obtain ⟨f0,f1,f2,f3,f4,f5⟩:=f
 have haC:C ≠ a:=by
  rcases ha with z | z
  . rw [z];exact f1
  . exact fun e=>f4 y a z e.symm
 refine ⟨m,hn.sameBut sb haC,fun h3 sb3=>?_⟩
 exact ⟨_,H',I2.turned (t':=s2.toks) (fun b o hb e=>(sb3.2 b hb).trans e) f0 f1 f3 f4 f5,q⟩
theorem NQ {elt : Expr} {gs : List Comprehension} {scope : Scope} {pos py : Pos} {y : Str} {l : Nat} {env : Env} (hk : env.scope.kind = .function) (hy : env.scope.names.lookup y = some .local) (hl : (py.line == pos.line) = true)
    (ha:(scope.names.any fun (n,k)=>n == y && (k == .local || k == .cell))=false):swapsWith (.ListComp elt gs scope pos) (some (.Name y py)) l env=pure true:=by
 have ky:env.kindOf y=some .local:=hy
 have hb:env.blockKind = .function:=by unfold Env.blockKind;rw [hk];rfl
 unfold swapsWith
 simp only [hb,ky,ha,Expr.pos,hl]
 rfl
end
def Si(N:List Str)(sc scope:Scope)(own:List (Str × Nat)):Bool :=
 (match scope.kind with | .function=>true | _=>false) && (scope.names.all fun y=>decide (scope.names.lookup y.1=some y.2)) && (own.all fun p=>decide (N[p.2]? = some p.1)) &&
  (scope.names.all fun y=>match y.2 with
   | .free=>(match sc.names.lookup y.1 with | some .cell=>true | some .free=>true | _=>false)
   | .local=>decide (y.1 ∈ own.map (·.1)) || decide (y.1 ∉ N)
   | .cell=>decide (y.1 ∈ own.map (·.1)) || decide (y.1 ∉ N)
   | _=>true)
theorem bB{N:List Str}{sc scope:Scope}{own:List (Str × Nat)}(h:Si N sc scope own=true):gF N sc scope own:=by
 unfold Si at h
 simp only [Bool.and_eq_true,List.all_eq_true,decide_eq_true_eq] at h
 obtain ⟨⟨⟨h1,h2⟩,h3⟩,h4⟩:=h
 refine ⟨?_,h2,h3,fun y hy e=>?_,fun y hy e=>?_⟩
 . split at h1
   . assumption
   . cases h1
 . have q:=h4 y hy
   simp only [e] at q
   split at q <;> first | exact .inl (by assumption) | exact .inr (by assumption) | cases q
 . have q:=h4 y hy
   rcases e with e | e <;> (simp only [e,Bool.or_eq_true,decide_eq_true_eq] at q;exact q)
end L2
namespace L2
open PySem PySem.Spec PyProof.Rows
section
variable {prog:Program} {w:World} {A:Around} {R:Result->Shared->Prop} {s:Shared} {elt t0 i0 t1 i1:Expr} {ifs0 ifs1:List Expr} {scope:Scope} {pos:Pos} {it acc:Value} {env:Env}
end
theorem bj{σ:St}{i:Nat}:∀ {vs:List Nat},i ∉ vs->(wipe σ vs)[i]? = σ[i]?
 | [],_=>rfl
 | v :: vs,h=>by
  have h1:v ≠ i:=fun e=>h (by rw [e];exact List.mem_cons_self)
  have h2:i ∉ vs:=fun m=>h (List.mem_cons_of_mem _ m)
  unfold wipe
  rw [List.getElem?_set_ne h1]
  exact bj h2
section
variable {X:Cx}
end
end L2
namespace L2
open PySem PySem.Spec PyProof.Rows
section
variable {κ:Type} [DecidableEq κ]
def z7(kvs:List (κ × V))(k:κ):Option V:=(kvs.find? fun kv=>decide (kv.1=k)).map (·.2)
def putK(kvs:List (κ × V))(k:κ)(v:V):List (κ × V) :=
 if (kvs.any fun kv=>decide (kv.1=k))=true then kvs.map (fun kv=>if kv.1=k then (kv.1,v) else kv) else kvs ++ [(k,v)]
theorem FV{p:κ × V}{r:List (κ × V)}{k:κ}(e:p.1=k):z7 (p :: r) k=some p.2:=by simp [z7,List.find?_cons,e]
theorem FW{p:κ × V}{r:List (κ × V)}{k:κ}(e:¬ p.1=k):z7 (p :: r) k=z7 r k:=by simp [z7,List.find?_cons,e]
theorem FX(k:κ):∀ kvs:List (κ × V),(kvs.any fun kv=>decide (kv.1=k))=(z7 kvs k).isSome
 | []=>rfl
 | p :: r=>by
  rw [List.any_cons]
  by_cases e:p.1=k
  . simp only [FV e,decide_eq_true e,Bool.true_or,Option.isSome_some]
  . rw [FW e,decide_eq_false e,Bool.false_or];exact FX k r
theorem FY(kvs:List (κ × V))(k:κ)(v:V):(putK kvs k v).length <= kvs.length + 1:=by
 unfold putK
 split
 . rw [List.length_map];omega
 . rw [List.length_append,List.length_cons,List.length_nil];omega
theorem FL.JY{o:Option V}{u:Option Value}(r:FL o u):o.isSome=u.isSome:=by
 cases o with
 | none=>cases u with
  | none=>rfl
  | some _=>exact (show False from r).elim
 | some _=>cases u with
  | none=>exact (show False from r).elim
  | some _=>rfl
theorem FL.getD{o:Option V}{u:Option Value}{d:V}{d':Value}(r:FL o u)(rd:RelV d d'):RelV (o.getD d) (u.getD d'):=by
 cases o with
 | none=>cases u with
  | none=>exact rd
  | some _=>exact (show False from r).elim
 | some _=>cases u with
  | none=>exact (show False from r).elim
  | some _=>exact r
theorem KV.any{kvs:List (κ × V)}{vs:List (κ × Value)}(r:KV kvs vs)(k:κ):(kvs.any fun kv=>decide (kv.1=k))=vs.any fun kv=>decide (kv.1=k):=by
 unfold KV at r
 induction r with
 | nil=>rfl
 | cons h t ih=>rw [List.any_cons,List.any_cons,ih,h.1]
theorem KV.Qz {kvs : List (κ × V)} {vs : List (κ × Value)} (r : KV kvs vs) (k : κ) {y : V} {u : Value} (ry : RelV y u) :
    KV (kvs.map fun kv=>if kv.1=k then (kv.1,y) else kv) (vs.map fun kv=>if kv.1=k then (kv.1,u) else kv):=by
 unfold KV at r ⊢
 induction r with
 | nil=>exact .nil
 | @cons p q ps qs h t ih =>
  rw [List.map_cons,List.map_cons]
  refine .cons ?_ ih
  obtain ⟨h1,h2⟩:=h
  by_cases e:p.1=k
  . rw [if_pos e,if_pos (h1.symm.trans e)];exact ⟨h1,ry⟩
  . rw [if_neg e,if_neg (fun z=>e (h1.trans z))];exact ⟨h1,h2⟩
theorem KV.put{kvs:List (κ × V)}{vs:List (κ × Value)}(r:KV kvs vs)(k:κ){y:V}{u:Value}(ry:RelV y u):KV (putK kvs k y) (stored vs k u):=by
 unfold putK stored
 rw [r.any k]
 by_cases e:(vs.any fun kv=>decide (kv.1=k))=true
 . rw [if_pos e,if_pos e];exact r.Qz k ry
 . rw [if_neg e,if_neg e];exact Paired.snoc r ⟨rfl,ry⟩
theorem KV.keys{kvs:List (κ × V)}{vs:List (κ × Value)}(r:KV kvs vs):kvs.map (·.1)=vs.map (·.1):=by
 unfold KV at r
 induction r with
 | nil=>rfl
 | cons h t ih=>rw [List.map_cons,List.map_cons,ih,h.1]
theorem KV.length{kvs:List (κ × V)}{vs:List (κ × Value)}(r:KV kvs vs):kvs.length=vs.length:=Paired.length r
end
theorem Sj{P:Program}{w:World}{k:Key}{u:Value}(r:RelV (kV k) u):(jh P w).is k u=true:=by
 cases k with
 | inl i=>obtain ⟨t,e⟩:=(show ∃ t,u=Value.int i t from r);subst e;exact FJ P w i t
 | inr x=>obtain ⟨t,e⟩:=(show ∃ t,u=Value.str x t from r);subst e;exact FK P w x t
abbrev KT(H:Hp):List (List Key × V)->List (List Key × Addr × Value)->Prop:=Paired fun p q=>p.1=q.1 /\ H q.2.1=some (.tup (p.1.map kV)) /\ RelV p.2 q.2.2
theorem KT.val{H:Hp}{kvs:List (List Key × V)}{xs:List (List Key × Addr × Value)}(r:KT H kvs xs)(k:List Key):FL (z7 kvs k) ((atKey xs k).map (·.2)):=by
 induction r with
 | nil=>exact True.intro
 | @cons p q ps qs h t ih =>
  obtain ⟨h1,_,h2⟩:=h
  by_cases e:p.1=k
  . have e':q.1=k:=h1.symm.trans e
    have b:atKey (q :: qs) k=some q.2:=by simp [atKey,List.find?_cons,e']
    rw [FV e,b];exact h2
  . have e':¬ q.1=k:=fun z=>e (h1.trans z)
    have b:atKey (q :: qs) k=atKey qs k:=by simp [atKey,List.find?_cons,e']
    rw [FW e,b];exact ih
theorem KT.Qz {H : Hp} {kvs : List (List Key × V)} {xs : List (List Key × Addr × Value)} (r : KT H kvs xs) (k : List Key) {y : V} {u : Value} (ry : RelV y u) :
    KT H (kvs.map fun kv=>if kv.1=k then (kv.1,y) else kv) (xs.map (putAt k u)):=by
 induction r with
 | nil=>exact .nil
 | @cons p q ps qs h t ih =>
  rw [List.map_cons,List.map_cons]
  refine .cons ?_ ih
  obtain ⟨h1,h2,h3⟩:=h
  unfold putAt
  by_cases e:p.1=k
  . rw [if_pos e,if_pos (h1.symm.trans e)];exact ⟨h1,h2,ry⟩
  . rw [if_neg e,if_neg (fun z=>e (h1.trans z))];exact ⟨h1,h2,h3⟩
theorem KT.put {H : Hp} {kvs : List (List Key × V)} {xs : List (List Key × Addr × Value)} (r : KT H kvs xs) (k : List Key) {b : Addr} {y : V} {u : Value} (hb : H b = some (.tup (k.map kV))) (ry : RelV y u) :
    KT H (putK kvs k y) (storedH xs k b u):=by
 have e:(kvs.any fun kv=>decide (kv.1=k))=(atKey xs k).isSome:=by
  rw [FX,(r.val k).JY,Option.isSome_map]
 unfold putK storedH
 rw [e]
 by_cases q:(atKey xs k).isSome=true
 . rw [if_pos q,if_pos q];exact r.Qz k ry
 . rw [if_neg q,if_neg q];exact Paired.snoc r ⟨rfl,hb,ry⟩
theorem KT.keeps{H H':Hp}{kvs:List (List Key × V)}{xs:List (List Key × Addr × Value)}(r:KT H kvs xs)(ht:∀ b ys,H b=some (.tup ys)->H' b=some (.tup ys)):KT H' kvs xs :=
 Paired.Nk r fun _ _ z=>⟨z.1,ht _ _ z.2.1,z.2.2⟩
section
variable {P:Program} {w:World} {H:Hp} {h:Heap} {a:Addr}
theorem Sk{u:HO}(ok:HOk P w H h)(e:Rd H a u):cB P w H h a u:=e.ok ok
theorem Sl{kvs:List (Key × V)}(ok:HOk P w H h)(e:Rd H a (.dK kvs)):kvs.length <= sizeLine /\ (a == sysModules)=false /\ ∃ vs,KV kvs vs /\ h.DictOf (jh P w) a vs :=
 show cB P w H h a (.dK kvs) from Sk ok e
theorem Sm{kvs:List (Key × V)}(ok:HOk P w H h)(e:H a=some (.dK kvs)):kvs.length <= sizeLine /\ (a == sysModules)=false /\ ∃ vs,KV kvs vs /\ h.DictOf (jh P w) a vs:=Sl ok (.inl e)
end
def NR(H:Hp)(a:Addr)(y:V)(r:Option V):Prop :=
 (∃ kvs k,Rd H a (.dK kvs) /\ y=kV k /\ r=z7 kvs k) \/ ∃ kvs k b,Rd H a (.dT kvs) /\ y = .ref b /\ H b=some (.tup (k.map kV)) /\ r=z7 kvs k
def NT(H:Hp)(a:Addr)(y v:V)(H':Hp):Prop :=
 (∃ kvs k,H a=some (.dK kvs) /\ y=kV k /\ kvs.length < sizeLine /\ H'=upd H a (.dK (putK kvs k v))) \/
 ∃ kvs k b,H a=some (.dT kvs) /\ y = .ref b /\ H b=some (.tup (k.map kV)) /\ kvs.length < sizeLine /\ H'=upd H a (.dT (putK kvs k v))
theorem NR.k{H:Hp}{a:Addr}{kvs:List (Key × V)}{k:Key}(e:H a=some (.dK kvs)):NR H a (kV k) (z7 kvs k):=.inl ⟨kvs,k,.inl e,rfl,rfl⟩
theorem NR.t{H:Hp}{a b:Addr}{kvs:List (List Key × V)}{k:List Key}(e:H a=some (.dT kvs))(eb:H b=some (.tup (k.map kV))):NR H a (.ref b) (z7 kvs k):=.inr ⟨kvs,k,b,.inl e,rfl,eb,rfl⟩
theorem NT.k{H:Hp}{a:Addr}{kvs:List (Key × V)}{k:Key}{v:V}(e:H a=some (.dK kvs))(hl:kvs.length < sizeLine):NT H a (kV k) v (upd H a (.dK (putK kvs k v))):=.inl ⟨kvs,k,e,rfl,hl,rfl⟩
theorem NT.t {H : Hp} {a b : Addr} {kvs : List (List Key × V)} {k : List Key} {v : V} (e : H a = some (.dT kvs)) (eb : H b = some (.tup (k.map kV))) (hl : kvs.length < sizeLine) :
    NT H a (.ref b) v (upd H a (.dT (putK kvs k v))):=.inr ⟨kvs,k,b,e,rfl,eb,hl,rfl⟩
section
variable {X:Cx} {pins:List (Addr × Obj)} {σ:St} {H:Hp} {s:Shared} {a:Addr} {y v:V} {u r:Value} {o:Option V} {A:Around} {E:Value->Shared->Prop}
theorem Inv.big(I:Inv X pins σ H s):sysModules < s.heap.objs.size:=by
 have h:mainGlobals < s.heap.objs.size:=(I.mod.glob.keeps I.bk).lt
 exact Nat.lt_trans (by decide) h
theorem NU {h' : Heap} {t' : Nat} {ob : HO} (I : Inv X pins σ H s) (mu : Mut (H a)) (hs : Heap.SameBut a s.heap h') (he : ∃ q, h'.get? a = some q) (new : cB X.prog X.w (upd H a ob) h' a ob) :
    Inv X pins σ (upd H a ob) { s with heap:=h',toks:=t' } :=
 I.write (x:=a) (e:=a) mu (.inl rfl) (fun b q hb z=>(hs.2 b hb).trans z) he new
theorem QA {P : Program} {w : World} {H' : Hp} {h' : Heap} {kvs : List (Key × V)} {vs : List (Key × Value)} (z : kvs.length <= sizeLine) (hd : (a == sysModules) = false) (rel : KV kvs vs) (dd : h'.DictOf (jh P w) a vs) :
    cB P w H' h' a (.dK kvs):=⟨z,hd,vs,rel,dd⟩
end
section
variable {X:Cx} {pins:List (Addr × Obj)} {σ:St} {H:Hp} {s:Shared} {a:Addr} {kvs:List (Key × V)} {k:Key} {u:Value} {A:Around} {E:Value->Shared->Prop}
end
section
variable {X:Cx} {o i e value:Expr} {pos pos' tpos:Pos} {td ty tv:TE}
end
theorem LO{P:Program}{w:World}{H:Hp}(h:Heap)(hb:sysModules < h.objs.size):cB P w H (h.push { cls:=.type "dict",data:=.dict #[] }) h.objs.size (.dK []) :=
 ⟨Nat.zero_le _,beq_eq_false_iff_ne.mpr (Ne.symm (Nat.ne_of_lt hb)),[],.nil,Heap.DictOf.new h⟩
section
variable {X:Cx} {pos:Pos}
end
def Hq:List (TE × TE)->St->Hp->(List (V × V)->Hp->Prop)->Prop
 | [],_,H,Q=>Q [] H
 | (tk,tv) :: r,σ,H,Q=>tk σ H fun x H1=>tv σ H1 fun y H2=>Hq r σ H2 fun ps H3=>Q ((x,y) :: ps) H3
abbrev VV:List (V × V)->List (Value × Value)->Prop:=Paired fun p q=>RelV p.1 q.1 /\ RelV p.2 q.2
def PPs(X:Cx)(pos:Pos)(keys:List (Option Expr))(values:List Expr)(trs:List (TE × TE)):Prop :=
 ∀ (pins:List (Addr × Obj)) (s:Shared) (σ:St) (H:Hp) (Q:List (V × V)->Hp->Prop),Inv X pins σ H s->Hq trs σ H Q ->
  wpAny (model X.prog X.w) X.A (evalPairs (pairTrees keys values X.env pos)) (fun vs s'=>∃ ps H',Inv X pins σ H' s' /\ VV ps vs /\ Q ps H') X.xe s
theorem NV{X:Cx}{pos:Pos}:PPs X pos [] [] []:=fun pins s σ H Q I h=>pairTrees_nil_walk ⟨[],H,I,.nil,h⟩
theorem LP {X : Cx} {pos : Pos} {k v : Expr} {ks : List (Option Expr)} {vs : List Expr} {tk tv : TE} {trs : List (TE × TE)} (hk : PE X k tk) (hv : PE X v tv) (hr : PPs X pos ks vs trs) :
    PPs X pos (some k :: ks) (v :: vs) ((tk,tv) :: trs):=fun pins s σ H Q I h =>
 pairTrees_cons_walk (thn (hk pins s σ H _ I h) fun u s1 ⟨x,H1,I1,rx,q1⟩=>thn (hv pins s1 σ H1 _ I1 q1) fun w2 s2 ⟨y,H2,I2,ry,q2⟩ =>
  thn (hr pins s2 σ H2 _ I2 q2) fun ws s3 ⟨ps,H3,I3,rel,q3⟩=>⟨(x,y) :: ps,H3,I3,.cons ⟨rx,ry⟩ rel,q3⟩)
def z8(kvs more:List (Key × V)):List (Key × V):=more.foldl (fun acc kv=>putK acc kv.1 kv.2) kvs
theorem KV.merge:∀ {more:List (Key × V)} {rs:List (Key × Value)} {kvs:List (Key × V)} {vs:List (Key × Value)},KV more rs->KV kvs vs->KV (z8 kvs more) (merged vs rs):=by
 intro more rs kvs vs r
 unfold KV at r
 induction r generalizing kvs vs with
 | nil=>intro q;exact q
 | @cons p q ps qs h t ih =>
  intro r0
  have e:KV (putK kvs p.1 p.2) (stored vs q.1 q.2):=by
   have:=r0.put p.1 h.2
   rw [<- h.1];exact this
  exact ih e
theorem tK:∀ (more kvs:List (Key × V)),(z8 kvs more).length <= kvs.length + more.length
 | [],kvs=>by show kvs.length <= kvs.length + 0;omega
 | p :: r,kvs=>by
  have h1:=tK r (putK kvs p.1 p.2)
  have h2:=FY kvs p.1 p.2
  show (z8 (putK kvs p.1 p.2) r).length <= _
  rw [List.length_cons];omega
theorem z9{P:Program}{w:World}:∀ {kvs:List (Key × V)} {ws:List (Value × Value)},VV (kvs.map fun kv=>(kV kv.1,kv.2)) ws->∃ rs,Carries (jh P w) ws rs /\ KV kvs rs
 | [],_,r=>by rw [List.map_nil] at r;cases r;exact ⟨[],True.intro,.nil⟩
 | p :: kvs,_,r=>by
  rw [List.map_cons] at r
  cases r with
  | @cons a b as bs h t =>
   obtain ⟨rs,c,q⟩:=z9 (P:=P) (w:=w) t
   obtain ⟨b1,b2⟩:=b
   exact ⟨(p.1,b2) :: rs,⟨Sj h.1,rfl,c⟩,.cons ⟨rfl,h.2⟩ q⟩
def Sn(trs:List (TE × TE)):TE:=fun σ H Q=>∀ p,H p=none->Hq trs σ (upd H p (.dK [])) fun ps H2=>H2 p=some (.dK []) /\ ∃ kvs:List (Key × V),ps=kvs.map (fun kv=>(kV kv.1,kv.2)) /\ kvs.length <= 15 /\ Q (.ref p) (upd H2 p (.dK (z8 [] kvs)))
theorem NW {X : Cx} {pos : Pos} {keys : List (Option Expr)} {values : List Expr} {trs : List (TE × TE)} (h : PPs X pos keys values trs) (hall : keys.all (·.isSome) = true) (hl : keys.length = values.length) (h0 : keys ≠ [])
    (h15:keys.length <= 15):PE X (.Dict keys values pos) (Sn trs):=by
 intro pins s σ H Q I q
 have hn:=I.hok.fresh (Nat.le_refl s.heap.objs.size)
 have I1:=I.laid (a:=s.heap.objs.size) (o:=.dK []) (h':=s.heap.push { cls:=.type "dict",data:=.dict #[] }) (t':=s.toks) (fun _ _ q=>Heap.get?_push_of_some _ q) (Nat.le_refl _) (LO s.heap I.big)
 refine wpAny_Dict_walk (knd:=jh X.prog X.w) hall hl h0 h15 (thn (h pins _ σ _ _ I1 (q _ hn)) fun ws s2 ⟨ps,H2,I2,rel,e,kvs,ep,lk,q2⟩=>?_)
 subst ep
 obtain ⟨rs,c,rk⟩:=z9 (P:=X.prog) (w:=X.w) rel
 obtain ⟨z,hd,vs0,r0,dd⟩:=Sm I2.hok e
 cases r0
 refine ⟨rs,c,dd,fun h' dd' hs=>⟨.ref s.heap.objs.size,_,?_,rfl,q2⟩⟩
 have hz:(z8 [] kvs).length <= sizeLine:=by
  have h1:=tK kvs []
  rw [List.length_nil] at h1
  rw [sizeLine_eq];omega
 have he:∃ q,h'.get? s.heap.objs.size=some q:=let ⟨q,_,_,hq,_⟩:=dd';⟨q,hq⟩
 exact NU I2 (by rw [e];exact True.intro) hs he (QA hz hd (rk.merge .nil) dd')
structure M1 (X:Cx) (o:Expr) (m:Str) (apos:Pos) (e:Expr) (cpos:Pos):Prop where
 base:attributeBase o m X.env (eval o X.env)=eval o X.env
 few:((backTo cpos (starEach [e] X.env)).all (fun x=>!x.1) && (backToKw cpos (keywordEach [] X.env)).all (fun x=>x.1.isSome)
  && decide (([e]:List Expr).length + ([]:List Keyword).length + (if ([]:List Keyword).isEmpty then 0 else 1) < 30))=true
 line:(apos.endLine == cpos.line)=true
 trees:backTo cpos (starEach [e] X.env) = [(false,eval e X.env)]
structure M2 (X:Cx) (o:Expr) (m:Str) (apos:Pos) (e f:Expr) (cpos:Pos):Prop where
 base:attributeBase o m X.env (eval o X.env)=eval o X.env
 few:((backTo cpos (starEach [e,f] X.env)).all (fun x=>!x.1) && (backToKw cpos (keywordEach [] X.env)).all (fun x=>x.1.isSome)
  && decide (([e,f]:List Expr).length + ([]:List Keyword).length + (if ([]:List Keyword).isEmpty then 0 else 1) < 30))=true
 line:(apos.endLine == cpos.line)=true
 trees:backTo cpos (starEach [e,f] X.env) = [(false,eval e X.env),(false,eval f X.env)]
section
variable {X:Cx} {pins:List (Addr × Obj)} {σ:St} {H:Hp} {s:Shared} {a:Addr} {y d:V} {u r:Value} {o:Option V} {A:Around} {E:Value->Shared->Prop}
end
section
variable {X:Cx} {o e f:Expr} {apos cpos:Pos} {td ty tx:TE}
end
section
variable {X:Cx} {pins:List (Addr × Obj)} {σ:St} {H:Hp} {s:Shared} {a:Addr} {kvs:List (Key × V)} {A:Around} {E:Value->Shared->Prop}
end
section
variable {X:Cx} {pins:List (Addr × Obj)} {σ:St} {H:Hp} {s:Shared} {a:Addr} {y:V} {u:Value} {A:Around} {E:Value->Shared->Prop}
end
end L2
namespace L2
open PySem PySem.Spec PyProof.Rows
section
variable {prog:Program} {w:World} {A:Around} {E:Value->Shared->Prop}
end
section
variable {X:Cx}
end
end L2
namespace L2
open PySem PySem.Spec PyProof.Rows
section
variable {X:Cx} {pins:List (Addr × Obj)} {σ:St} {H:Hp} {s:Shared} {h':Heap}
theorem Inv.CJ {t' : Nat} {ch : List Addr} {T : Addr} {ob : HO} (I : Inv X pins σ H s) (k : ∀ b o, b ∉ ch -> s.heap.get? b = some o -> h'.get? b = some o) (hf : ∀ b ∈ ch, mH X pins H b) (hT : s.heap.objs.size <= T)
    (new:cB X.prog X.w (upd H T ob) h' T ob):Inv X pins σ (upd H T ob) { s with heap:=h',toks:=t' }:=by
 have hn:H T=none:=I.hok.fresh hT
 have nit:∀ b u,H b=some u->b ∉ ch:=fun b u e z=>by
  have q:=(hf b z).1
  rw [q] at e;cases e
 refine I.step (g':=s.gens) (d':=s.drawn) (ch:=ch) (fun b hb=>⟨(hf b hb).2.2.2.1,(hf b hb).2.1,(hf b hb).2.2.2.2.1,(hf b hb).2.2.2.2.2⟩) (fun b o _ _ hc e _=>k b o hc e) (fun b o _ _ hc e _=>⟨o.slots,k b o hc e⟩)
  (fun b o _ e n=>?_) (fun b o hc e=>⟨o,k b o hc e⟩) (fun b xs e=>?_) (fun b o u e=>?_) (fun b ps e=>⟨#[],?_⟩) (fun m hm=>?_) (fun b u e=>?_) I.bare.self
 . rw [aL (Nat.ne_of_lt (Nat.lt_of_lt_of_le (Heap.lt_size e) hT))];exact n
 . rw [aL (aQ e hn)];exact e
 . rw [aL (aQ e hn)];exact e
 . rw [aL (aQ e hn),e];simp
 . obtain ⟨o,es,ep,ho,r⟩:=hm
   exact ⟨o,es,ep,k _ o (fun z=>(hf _ z).2.1 rfl) ho,r⟩
 . by_cases hb:b=T
   . subst hb
     rw [bt] at e
     cases e
     exact new
   . rw [aL hb] at e
     refine (I.hok b u e).xy (fun c v hc q=>k c v ?_ q) (fun c q=>by rw [aL (aQ q hn)];exact q) (fun c xs q=>by rw [aL (aQ q hn)];exact q) fun c xs q=>by rw [aL (aQ q hn)];exact q
     rcases hc with z | z
     . rw [z];exact nit b u e
     . exact nit c _ z
end
section
variable {X:Cx}
theorem QB {tg : Expr} {pins : List (Addr × Obj)} {σ : St} {H : Hp} {s : Shared} {R : It -> Hp -> Prop} {J : It} {tn : Nat -> Heap -> Prop} {tk : Nat} (I : Inv X pins σ H s) (o : Obj)
    (T:Turn X.prog X.w X.K tg J [s.heap.objs.size] s.heap.objs.size tn) (st:tn 0 (s.heap.push o)) (q:R J H):PIE X pins σ tg R (.ref s.heap.objs.size) { s with heap:=s.heap.push o,toks:=tk }:=by
 refine ⟨s.heap.objs.size,[s.heap.objs.size],tn,J,H,rfl,I.kept fun b ob e=>Heap.get?_push_of_some _ e,T,st,fun b hb=>?_,q⟩
 have e:b=s.heap.objs.size:=by simpa using hb
 subst e
 exact I.JP (Nat.le_refl _) (I.hok.fresh (Nat.le_refl _))
end
def Itc(lo c:Int)(n:Nat):It:=⟨fun i _=>i < n,fun i H x H'=>H'=H /\ x = .int (lo + (i:Nat) * c),fun i _=>n <= i⟩
theorem FZ{P:Program}{w:World}{K:PySem.W.Frag}{tg:Expr}(it:Addr)(lo c:Int)(n:Nat):Turn P w K tg (Itc lo c n) [it] it (fun i h=>IsRangeIter h it (lo + (i:Nat) * c) ((n:Int) - (i:Nat)) c) where
 mem:=by simp
 obj:=fun i h st b hb=>by
  have e:b=it:=by simpa using hb
  subst e
  exact ⟨_,st,fun v z=>nomatch z⟩
 keep:=fun i h h' st k=>k it (by simp) _ st
 item:=by
  intro X hP hw hK hc i pins s σ H E I hf st hg
  subst hP hw hK
  obtain ⟨f0,f1,f2,f3,f4,f5⟩:=hf it (by simp)
  have W:=Walks.range (prog:=X.prog) (w:=X.w) (I.ok.hd hc) it lo c n
  refine W.item i s _ _ hg st fun v h' tk hv st' kk=>?_
  obtain ⟨t,rfl⟩:=hv
  have I1:Inv X pins σ H { s with heap:=h',toks:=tk }:=I.turned (fun b o hb e=>kk b o (by simpa using hb) e) f0 f1 f3 f4 f5
  exact ⟨_,rfl,Iv (s:={ s with heap:=h',toks:=tk }) (n := "range_iterator") st' rfl rfl (by decide) ⟨.int (lo + (i:Nat) * c),H,I1,⟨t,rfl⟩,⟨rfl,rfl⟩,st',fun b hb=>(hf b hb).1⟩⟩
 done:=by
  intro X hP hw hK hc i pins s σ H E I hf st hg
  subst hP hw hK
  obtain ⟨f0,f1,f2,f3,f4,f5⟩:=hf it (by simp)
  exact wpAny_pyNext_range_end (I.ok.hd hc) st (by have:n <= i:=hg;omega) fun h' eb=>⟨rfl,I.turned (t':=s.toks) (fun b o hb e=>eb b o hb e) f0 f1 f3 f4 f5⟩
 self:=fun A i s Q E st h=>wpAny_pyIter_rangeiter st h
def RgC(i j c:Int)(n:Nat):Prop:=c ≠ 0 /\ c.natAbs < 1073741824 /\ Builtin.Range.small i j c=true /\ Builtin.Range.rangeSize i j c=n
theorem RgC.neg{i j:Int}(ha : -(2 ^ 62) <= i)(ha':i < 2 ^ 62)(hb : -(2 ^ 62) <= j)(hb':j < 2 ^ 62):RgC i j (-1) (i - j).toNat :=
 ⟨by decide,by decide,PySem.W.small_down ha ha' hb hb',PySem.W.rangeSize_downNat i j⟩
def So(ta:TA):TI:=fun σ H R=>ta σ H fun vs H1=>∃ (i j c:Int) (n:Nat),vs = [.int i,.int j,.int c] /\ RgC i j c n /\ R (Itc i c n) H1
section
variable {X:Cx} {tg:Expr}
theorem JZ {a b c : Expr} {ta : TA} {p pos : Pos} (hg : Gl X "range") (hm : X.mg "range" = none) (ha : PA X [a, b, c] ta)
    (hs:starEach [a,b,c] X.env=(false,eval a X.env) :: starEach [b,c] X.env:=by rfl) (hpl:(backTo pos (starEach [b,c] X.env)).any (·.1)=false:=by rfl) :
    PI X tg (.Call (.Name "range" p) [a,b,c] [] pos) (So ta):=by
 intro pins s σ H R I h
 refine Call_ (jB I hg hm boot_range (PyProof.Rows.callWith_type1 (thn (ha pos pins s σ H _ I h) fun us s1 ⟨vs,H1,I1,r1,q1⟩=>?_) hs hpl))
 obtain ⟨i,j,k,n,e,⟨c0,c1,c2,c3⟩,q⟩:=q1
 subst e
 cases r1 with
 | cons r rr =>
  cases rr with
  | cons r' rr =>
   cases rr with
   | cons r'' rr =>
    cases rr
    obtain ⟨t,rfl⟩:=r
    obtain ⟨t',rfl⟩:=r'
    obtain ⟨t'',rfl⟩:=r''
    refine call_range_3 c0 ?_ (.inl (PyProof.noPylong_small c1))
    refine wpAny_pyIter_range (IsRange.new ..) c2 ?_
    have I2:Inv X pins σ H1 { s1 with heap:=s1.heap.push { cls:=.type "range",data:=.fields #[.int i t,.int j t',.int k t''] } }:=I1.kept (t':=s1.toks) fun b o e=>Heap.get?_push_of_some _ e
    refine QB (tk:=s1.toks) I2 _ (FZ _ i k n) ?_ q
    have e1:i + ((0:Nat):Int) * k=i:=by simp
    have e2:(n:Int) - ((0:Nat):Int)=Builtin.Range.rangeSize i j k:=by rw [c3];simp
    show IsRangeIter _ _ (i + ((0:Nat):Int) * k) ((n:Int) - ((0:Nat):Int)) k
    rw [e1,e2]
    exact Heap.get?_push_size _ rfl
end
section
variable {X:Cx} {tg:Expr}
end
section
variable {prog:Program} {w:World} {A:Around} {E:Value->Shared->Prop} {s:Shared}
end
section
variable {X:Cx} {pins:List (Addr × Obj)} {σ:St} {H:Hp} {s:Shared} {d:Addr} {o:Obj}
end
section
variable {P:Program} {w:World} {K:PySem.W.Frag} {tg:Expr} {d:Addr} {o:Obj} {es:Array DictEntry} {ep:Nat}
end
section
variable {X:Cx} {tg e:Expr} {td:TE} {apos cpos:Pos}
end
def Ite(K:PySem.W.Frag)(a:Addr):It :=
 ⟨fun i H=>∃ (xs:List V) (x:V),SqL K H a xs /\ xs[i]? = some x,fun i H v H'=>∃ T x,v = .ref T /\ H T=none /\ H'=upd H T (.tup [.int (i:Nat),x]) /\ ∀ xs,SqL K H a xs->xs[i]? = some x,fun i H=>∃ xs:List V,SqL K H a xs /\ xs.length <= i⟩
theorem J0 {P : Program} {w : World} {K : PySem.W.Frag} {elts : List Expr} {kk : Nat} {tpos : Pos} (a e it : Addr) :
    Turn P w K (.Tuple elts kk tpos) (Ite K a) [e,it] e (fun i h=>(∃ old,IsEnum h e it ((i:Nat):Int) old) /\ h.IsListIter it a i /\ e ≠ it) where
 mem:=by simp
 obj:=fun i h st b hb=>by
  obtain ⟨⟨old,he⟩,⟨o,ho,hc,hd⟩,_⟩:=st
  have e':b=e \/ b=it:=by simpa using hb
  rcases e' with z | z
  . rw [z];exact ⟨_,he,fun v q=>nomatch q⟩
  . rw [z];exact ⟨o,ho,fun v q=>by rw [hd] at q;cases q⟩
 keep:=fun i h h' st k=>let ⟨⟨old,he⟩,hi,hne⟩:=st;⟨⟨old,k e (by simp) _ he⟩,hi.at fun o q=>k it (by simp) o q,hne⟩
 item:=by
  intro X hP hw hK hc i pins s σ H E I hf st hg
  subst hP hw hK
  obtain ⟨⟨old,he⟩,hit,hne⟩:=st
  obtain ⟨xs,x,hq,hx⟩:=hg
  obtain ⟨its,rv,p,hz⟩:=I.list hq
  obtain ⟨u,hu,ru⟩:=rv.get hx
  have hel:e < s.heap.objs.size:=Heap.lt_size he
  have hil:it < s.heap.objs.size:=by obtain ⟨_,q,_⟩:=hit;exact Heap.lt_size q
  refine wpAny_pyNext_enum_item he hit p.isList (x:=u) (by simpa using hu) hne fun h' ho hit' hT hsz hk=>?_
  refine ⟨_,rfl,wpAny_letOwnedTupleGo_enum (s:={ s with heap:=h',toks:=s.toks + 1 }) ho fun h'' he' sb=>?_⟩
  have hT2:h''.get? s.heap.objs.size=some { cls:=.type "tuple",data:=.seq #[.int i s.toks,u] }:=(sb.2 _ (Nat.ne_of_gt hel)).trans hT
  have new:cB X.prog X.w (upd H s.heap.objs.size (.tup [.int (i:Nat),x])) h'' s.heap.objs.size (.tup [.int (i:Nat),x]) :=
   ⟨by show 2 <= sizeLine;decide,[.int i s.toks,u],.cons ⟨_,rfl⟩ (.cons ru .nil),⟨_,hT2,rfl,_,rfl⟩⟩
  have I1:Inv X pins σ (upd H s.heap.objs.size (.tup [.int (i:Nat),x])) { s with heap:=h'',toks:=s.toks + 1 } :=
   I.CJ (ch:=[e,it]) (fun b ob hb q=>(sb.2 b (fun z=>hb (by simp [z]))).trans (hk b ob (fun z=>hb (by simp [z])) (fun z=>hb (by simp [z])) q)) hf (Nat.le_refl _) new
  refine ⟨.ref s.heap.objs.size,_,I1,rfl,⟨_,x,rfl,I.hok.fresh (Nat.le_refl _),rfl,fun ys hy=>by rw [I.FN hy hq];exact hx⟩,⟨⟨u,?_⟩,hit'.at fun o q=>(sb.2 it (Ne.symm hne)).trans q,hne⟩,fun b hb=>?_⟩
  . have e1:((i + 1:Nat):Int)=(i:Int) + 1:=by omega
    rw [e1];exact he'
  . have hb':b < s.heap.objs.size:=by
     have e':b=e \/ b=it:=by simpa using hb
     rcases e' with z | z
     . rw [z];exact hel
     . rw [z];exact hil
    rw [aL (Nat.ne_of_lt hb')]
    exact (hf b hb).1
 done:=by
  intro X hP hw hK hc i pins s σ H E I hf st hg
  subst hP hw hK
  obtain ⟨⟨old,he⟩,hit,hne⟩:=st
  obtain ⟨xs,hq,hx⟩:=hg
  obtain ⟨its,rv,p,hz⟩:=I.list hq
  obtain ⟨f0,f1,f2,f3,f4,f5⟩:=hf it (by simp)
  have hl:=rv.length
  exact wpAny_pyNext_enum_end (I.ok.hd hc) he hit p.isList (by simp;omega) fun h' eb=>⟨rfl,I.turned (t':=s.toks) (fun b o hb q=>eb b o hb q) f0 f1 f3 f4 f5⟩
 self:=fun A i s Q E st h=>let ⟨⟨_,he⟩,_⟩:=st;wpAny_pyIter_enum he h
end L2
section
namespace TR
open PySem PyProof.Rows
end TR
end
section
namespace TL
open PySem PySem.Builtin PySem.Builtin.Str PySem.StrLaws
abbrev tl(x:Str):List Nat:=x.cps.toList
end TL
end
namespace L2
open PySem PySem.Spec PyProof.Rows
theorem NX{n:Nat}(h:n <= 16777216):Builtin.Str.tooLong n=false:=by
 have e:(2:Nat) ^ 24=16777216:=by decide
 unfold Builtin.Str.tooLong sizeLine
 exact decide_eq_false (by omega)
theorem pS:∀ {ys:List Str} {us:List Value},Vals (ys.map V.str) us->StrsAre us ys
 | [],_,.nil=>.nil
 | y :: ys,_,.cons r t=>by
  obtain ⟨k,rfl⟩:=r
  exact .cons y k (pS t)
section
variable {X:Cx} {pins:List (Addr × Obj)} {σ:St} {H:Hp} {s:Shared} {Q:VK}
end
section
variable {X:Cx}
theorem NY : MtR X "str.join" (fun x xs H Q => ∃ a p, ∃ ys : List Str, x = .str a /\ xs = [.ref p] /\ (SqL X.K H p (ys.map V.str) \/ SqT X.K H p (ys.map V.str)) /\
    (ys.map (·.length)).sum + ys.length * a.length <= 16777216 /\ Q (.str (Txt.join a ys)) H):=by
 intro pins s σ H x xs v us Q I rx rs h
 obtain ⟨a,p,ys,rfl,rfl,hp,hz,h⟩:=h
 obtain ⟨t,rfl⟩:=rx
 cases rs with
 | cons r1 rs =>
  cases rs
  cases r1
  rcases hp with hp | hp
  . obtain ⟨its,r,⟨o,n,ho,hc,_,hd⟩,_⟩:=I.list hp
    exact PyProof.Rows.join_list (items:=its.toArray) ⟨o,ho,hc,n,hd⟩ (by rw [List.toList_toArray];exact pS r) hz fun t' k=>⟨.str _,H,I.tok k,⟨t',rfl⟩,h⟩
  . obtain ⟨its,r,ht,_⟩:=I.tuple hp
    exact PyProof.Rows.join_tuple (items:=its.toArray) ht (by rw [List.toList_toArray];exact pS r) hz fun t' k=>⟨.str _,H,I.tok k,⟨t',rfl⟩,h⟩
theorem mt0 {id : String} {C : Str -> Prop} {g : Str -> V} (rule : ∀ (a : Str) (t : Tok) (s : Shared) (Q : Value -> Shared -> Prop), C a -> (∀ (u : Value) (k : Nat), RelV (g a) u -> Q u { s with toks := k }) ->
    wpAny (model X.prog X.w) X.A (call (.builtin id) [.str a t]) Q X.xe s):MtR X id (fun x xs H Q=>∃ a,x = .str a /\ xs = [] /\ C a /\ Q (g a) H):=by
 intro pins s σ H x xs v us Q I rx rs h
 obtain ⟨a,rfl,rfl,hc,h⟩:=h
 obtain ⟨t,rfl⟩:=rx
 cases rs
 exact rule a t s _ hc fun u k r=>⟨g a,H,I.tok k,r,h⟩
theorem LQ:MtR X "str.upper" (fun x xs H Q=>∃ a,x = .str a /\ xs = [] /\ a.length <= 5592405 /\ Q (.str (Txt.upper a)) H) :=
 mt0 (C:=fun a=>a.length <= 5592405) (g:=fun a=>.str (Txt.upper a)) fun a _ s _ hc h =>
  PySem.SC.upper (NX (by have h1:a.length <= 5592405:=hc;have:=PyProof.Rows.len_upper a;omega)) (h _ (s.toks + 1) ⟨_,rfl⟩)
end
section
variable {X:Cx} {o e:Expr} {to te:TE}
end
end L2
namespace L2
open PySem PySem.Spec PyProof.Rows
section
variable {X:Cx}
theorem J2:OpR X (compareOp .LtE) (fun x y H Q=>∃ i j,x = .str i /\ y = .str j /\ Q (.bl (!decide (j.cps.toList < i.cps.toList))) H):=by
 intro pins s σ H x y v u Q I rx ry h
 obtain ⟨i,j,rfl,rfl,q⟩:=h
 obtain ⟨t,rfl⟩:=rx
 obtain ⟨t',rfl⟩:=ry
 exact PySem.P.le_str (D2 I q rfl)
theorem J3:OpR X (compareOp .Gt) (fun x y H Q=>∃ i j,x = .str i /\ y = .str j /\ Q (.bl (decide (j.cps.toList < i.cps.toList))) H):=by
 intro pins s σ H x y v u Q I rx ry h
 obtain ⟨i,j,rfl,rfl,q⟩:=h
 obtain ⟨t,rfl⟩:=rx
 obtain ⟨t',rfl⟩:=ry
 exact PySem.P.gt_str (D2 I q rfl)
theorem J4:OpR X (compareOp .GtE) (fun x y H Q=>∃ i j,x = .str i /\ y = .str j /\ Q (.bl (!decide (i.cps.toList < j.cps.toList))) H):=by
 intro pins s σ H x y v u Q I rx ry h
 obtain ⟨i,j,rfl,rfl,q⟩:=h
 obtain ⟨t,rfl⟩:=rx
 obtain ⟨t',rfl⟩:=ry
 exact PySem.P.ge_str (D2 I q rfl)
end
theorem IsPart.raw{v:Value}{o:Option Int}(p:IsPart v o):∃ l:Option (Int × Tok),v=partValue l /\ l.map (·.1)=o:=by
 cases p with
 | none=>exact ⟨none,rfl,rfl⟩
 | int i t=>exact ⟨some (i,t),rfl,rfl⟩
def F0(n d:Nat):Option Int->Int
 | none=>(d:Int)
 | some i=>max 0 (min (if i < 0 then i + (n:Int) else i) (n:Int))
theorem F1(n d:Nat)(o:Option Int):F0 n d o=((HT.sIx n d o:Nat):Int):=by
 cases o with
 | none=>rfl
 | some v =>
  show max (0:Int) (min (if v < 0 then v + (n:Int) else v) (n:Int))=(((if v < 0 then (v + (n:Int)).toNat else min v.toNat n):Nat):Int)
  by_cases hv:v < 0
  . simp only [if_pos hv]
    omega
  . simp only [if_neg hv]
    omega
theorem J5(a b:Option Int)(n:Nat):Builtin.Str.strSliceIndices a b 1 n=sliceRange (F0 n 0 a) (F0 n n b) 1:=by
 have h1:((1:Int) > 0)=True:=by simp
 cases a <;> cases b <;> first
  | rfl
  | (simp only [Builtin.Str.strSliceIndices,F0,h1,if_true];rfl)
  | simp [Builtin.Str.strSliceIndices,F0]
theorem TU(a b:Option Int)(n:Nat):Builtin.Str.strSliceIndices a b 1 n=(List.range (HT.sIx n n b - HT.sIx n 0 a)).map (fun k=>HT.sIx n 0 a + k):=by
 rw [J5,F1,F1]
 generalize HT.sIx n 0 a=p
 generalize HT.sIx n n b=q
 simp only [sliceRange,show ((1:Int) > 0)=True from by simp,if_true]
 by_cases hlt:(p:Int) < q
 . have e3:(((q:Int) - p + 1 - 1) / 1).toNat=q - p:=by first | omega | (simp;done) | (simp;omega)
   simp only [hlt,if_true,e3]
   refine List.map_congr_left fun k _=>?_
   omega
 . have:q - p=0:=by omega
   simp [hlt,this]
def NZ(z:Str)(lo hi:Option Int):Str :=
 ⟨((z.cps.toList.drop (HT.sIx z.length 0 lo)).take (HT.sIx z.length z.length hi - HT.sIx z.length 0 lo)).toArray⟩
theorem tL(z:Str)(lo hi:Option Int):PySem.StrLaws.sliceText z lo hi=NZ z lo hi:=by
 have h1:HT.sIx z.length 0 lo <= z.length:=HT.Hk _ _ (Nat.zero_le _) _
 have h2:HT.sIx z.length z.length hi <= z.length:=HT.Hk _ _ (Nat.le_refl _) _
 have hp:HT.sIx z.length 0 lo <= max (HT.sIx z.length 0 lo) (HT.sIx z.length z.length hi):=Nat.le_max_left _ _
 have hq:max (HT.sIx z.length 0 lo) (HT.sIx z.length z.length hi) <= z.length:=Nat.max_le.mpr ⟨h1,h2⟩
 have hd:max (HT.sIx z.length 0 lo) (HT.sIx z.length z.length hi) - HT.sIx z.length 0 lo=HT.sIx z.length z.length hi - HT.sIx z.length 0 lo:=by omega
 have e : Builtin.Str.strSliceIndices lo hi 1 z.length =
     Builtin.Str.strSliceIndices (some ((HT.sIx z.length 0 lo:Nat):Int)) (some ((max (HT.sIx z.length 0 lo) (HT.sIx z.length z.length hi):Nat):Int)) 1 z.length:=by
  rw [PySem.StrLaws.strSliceIndices_plain hp hq,hd,TU]
 have e2 : PySem.StrLaws.sliceText z lo hi =
     PySem.StrLaws.sliceText z (some ((HT.sIx z.length 0 lo:Nat):Int)) (some ((max (HT.sIx z.length 0 lo) (HT.sIx z.length z.length hi):Nat):Int)):=by
  unfold PySem.StrLaws.sliceText
  rw [e]
 rw [e2,PySem.StrLaws.sliceText_nat z hp hq,hd]
 rfl
theorem F2(z:Str)(lo hi:Option Int):(NZ z lo hi).length <= z.length:=by
 show (((z.cps.toList.drop (HT.sIx z.length 0 lo)).take (HT.sIx z.length z.length hi - HT.sIx z.length 0 lo)).toArray).size <= z.cps.size
 rw [List.size_toArray,List.length_take,List.length_drop,Array.length_toList]
 omega
def Sq:V->Option Int->Option Int->Hp->VK->Prop:=fun x lo hi H Q=>∃ z,x = .str z /\ z.length <= sizeLine /\ Q (.str (NZ z lo hi)) H
theorem QC{X:Cx}:SlR X Sq:=by
 intro pins s σ H x v vl vu lo hi sl Q I rx hs pl pu h
 obtain ⟨z,rfl,hz,q⟩:=h
 obtain ⟨t,rfl⟩:=rx
 obtain ⟨os,hos,hcs,hds⟩:=hs
 obtain ⟨l,rfl,rfl⟩:=IsPart.raw pl
 obtain ⟨u,rfl,rfl⟩:=IsPart.raw pu
 refine ⟨"str",_,F.slot_str_getitem.lookup,typeIs_str _ _ _,?_⟩
 refine wpAny_getItem_str_slice (l:=l) (u:=u) (st:=none) ⟨os,hos,hcs,hds⟩ rfl ?_
 have hl:(PySem.StrLaws.sliceText z (l.map (·.1)) (u.map (·.1))).length <= sizeLine:=by
  rw [tL]
  exact Nat.le_trans (F2 z _ _) hz
 rw [<- tL] at q
 unfold PySem.StrLaws.sliceText at q hl
 show Made.post (if ((1:Int) == 1 && (Builtin.Str.strSliceIndices (l.map (·.1)) (u.map (·.1)) 1 z.length).length == z.length)=true then Made.val (.str z t)
  else Made.str ⟨((Builtin.Str.strSliceIndices (l.map (·.1)) (u.map (·.1)) 1 z.length).filterMap (z.cps[·]?)).toArray⟩) (EP X pins σ Q) s
 by_cases c:((1:Int) == 1 && (Builtin.Str.strSliceIndices (l.map (·.1)) (u.map (·.1)) 1 z.length).length == z.length)=true
 . rw [if_pos c] at q ⊢
   exact ⟨.str z,H,I,⟨t,rfl⟩,q⟩
 . rw [if_neg c] at q hl ⊢
   exact ⟨hl,.str _,H,I.tok _,⟨_,rfl⟩,q⟩
end L2
namespace Att
open PySem PySem.W PySem.Calls PyProof.Rows
theorem yw{P:Params}{h:Heap}:∀ (ns:List Int) (vs:List Value),WellAll P h vs (ns.map WData.int)->IntsAre vs ns:=by
 intro ns
 induction ns with
 | nil =>
  intro vs w
  rw [List.map_nil] at w
  cases w
  exact .nil
 | cons n ns ih =>
  intro vs w
  rw [List.map_cons] at w
  cases w with
  | cons a b =>
   cases a
   exact .cons _ _ (ih _ b)
theorem J6 {l : OpenLaw} {n : Nat} (hn : l.most = some n) {P : Params} {h : Heap} {args : List WData} {vals : List Value}
    (hpre:l.row.toRowW.claim.pre args=true) (hwl:WellAll P h vals args) :
    ∃ a vs ns,vals = [Value.ref a] /\ args = [WData.list (ns.map WData.int)] /\ h.get? a=some { cls:=.type "list",data:=.seq vs.toArray } /\ IntsAre vs ns /\ ns.length <= n:=by
 have hsh:WShape.hasAll [] args [.list .int] = true:=(pre_splitW hpre).1
 have hc:l.pre.holds [] { args:=args }=true:=(pre_splitW hpre).2
 obtain ⟨d,r,rfl,h1,h2⟩:=hasAllW_cons hsh
 obtain rfl:=hasAllW_nil h2
 obtain ⟨xs,rfl,h3⟩:=hasW_list h1
 obtain ⟨ns,rfl⟩:=items_int h3
 have hlen:ns.length <= n:=by
  unfold OpenLaw.pre at hc
  have h4:(WTm.not (.lt (.lit (.int (n:Int))) (.len (.arg 0)))).holds [] { args:=[.list (ns.map .int)] }=true:=by
   have h4:=(holds_andW hc).1
   rw [hn] at h4
   exact h4
  have h5:=condW_of h4 (w_not (w_lt w_lit (w_len_list (w_arg rfl))))
  rw [List.length_map] at h5
  refine Nat.le_of_not_lt fun q=>?_
  have q':(n:Int) < ((ns.length:Nat):Int):=by omega
  first
   | (rw [decide_eq_true q'] at h5;exact absurd h5 (by decide))
   | (simp at h5;omega)
 cases hwl with
 | cons w1 w2 =>
  cases w2
  cases w1 with
  | list ho hall=>exact ⟨_,_,ns,rfl,rfl,ho,yw ns _ hall,hlen⟩
theorem J7(l:OpenLaw)(args:List WData):l.row.toRowW.claim.post args (.bool true) args=true :=
 postW_of (r:=l.row.toRowW) (X:=(true == true))
  (show WShape.has [] (.bool true) .bool=true by first | rfl | decide | simp [WShape.has,WShape.arms,WShape.armsAll])
  (show (WTm.eq .res (.lit (.bool true))).value [] { args:=args,res:=some (.bool true),after:=args }=some (.bool (true == true)) from w_eq_bool (w_res rfl) w_lit) rfl
theorem F3 {l : OpenLaw} {n : Nat} {q : Program} {loose : List Str} {XP : (Str -> Option Value) -> Heap -> Prop} {YP : World -> Heap -> Prop} {d : DefRec}
    (hn:l.most=some n) (hdf:d.params.defaults = [])
    (call:∀ (w:World) (s₀ s₁:Shared) (mg mb:Str->Option Value) (fa:Addr) (o:Obj) (pm cd doc:Value) (a:Addr) (vs:List Value) (ns:List Int),
     Ground q loose [] XP w s₀ mg mb s₁.heap->YP w s₁.heap ->
     s₁.heap.get? fa=some o->o.data = .func (docDef d.name d.params d.body d.scope pm cd doc)->s₁.heap.CodeRec cd d.name->mg d.name=some (.ref fa) ->
     s₁.heap.get? a=some { cls:=.type "list",data:=.seq vs.toArray }->IntsAre vs ns->ns.length <= n->s₁.gens = #[] ->
     codeAny (model l.prog w) callerA (.call (.ref fa) ⟨[.ref a],[]⟩) (fun r s'=>r = .ok (.ret (.bool true)) /\ OldK s₁.heap s'.heap /\ s'.os=s₁.os /\ AllBare s'.gens) s₁) :
    WalkO q loose XP YP l.row.toRowW d [] (fun f vs=>PySem.call f vs):=by
 intro w s₀ s₁ mg mb G Y fa o pm cd doc dV kV ho hd hcd hD hmg hg args vals as hpre hlay hrd hwl hlo
 obtain rfl:dV = .none:=Dflts.none hD hdf
 obtain rfl:kV = .none:=Dflts.noKw hD
 obtain ⟨a,vs,ns,rfl,rfl,hobj,hints,hlen⟩:=J6 hn hpre hwl
 refine enter_call (codeAny_mono (call w s₀ s₁ mg mb fa o pm cd doc a vs ns G Y ho (fd_plain hd) hcd hmg hobj hints hlen hg) fun r s' hq=>?_)
 obtain ⟨rfl,h2,h3,h4⟩:=hq
 exact ⟨.inl ⟨.bool true,.bool true,[],rfl,fun _=>rfl,.bool true,J7 l _,fun _=>⟨List.Pairwise.nil,fun _ hm=>(nomatch hm)⟩⟩,h2,h3,h4⟩
section
variable {prog:Program} {w:World} {A:Around} {E:Value->Shared->Prop} {s:Shared} {K:Frag}
end
end Att
namespace L2
open PySem PySem.Spec PyProof.Rows
theorem CK:∀ {vs:List Value} {ns:List Int},IntsAre vs ns->Vals (ns.map V.int) vs
 | _,_,.nil=>.nil
 | _,_,.cons n t h=>.cons ⟨t,rfl⟩ (CK h)
def LR(H:Hp):Prop:=∀ b,H b=none \/ (∃ o xs,H b=some (.frz o (.lst xs))) \/ ∃ fl:Bool,H b=some (.tbl #[.bool fl])
open Classical in
theorem LS {P : Program} {w : World} {K : PySem.W.Frag} {mg mb : Str -> Option Value} {CX : CXT} {k : Nat} {fa a : Addr} {fd : FuncData} {x : Str} {sp : Sp} {s₁ : Shared} {vs : List Value} {ns : List Int}
    (KX:K.In s₁.heap) (hns:s₁.heap.Ns mainGlobals mg) (hb:s₁.heap.Ns builtinsNs mb) (hbb:∀ x:Str,x ≠ "__name__" -> mb x=bootBuiltins x) (hlim:s₁.heap.NoLimit) (hg:s₁.gens = #[])
    (hbm:∃ bm ob,mg "__builtins__" = some (.ref bm) /\ bm ≠ builtinsNs /\ s₁.heap.get? bm=some ob /\ ob.cls = .type "module" /\ ob.dict=some builtinsNs /\ ob.data = .plain)
    (htb:∀ b,Tb K mg b->(∃ c,s₁.heap.TableAt c b #[]) /\ K.lookup b=none)
    (ha:s₁.heap.get? a=some { cls:=.type "list",data:=.seq vs.toArray }) (hi:IntsAre vs ns) (hl:ns.length <= sizeLine) (hr:bZ k callerA)
    (F:∀ base:Heap,K.In base->base.Ns mainGlobals mg->jd P w K mg base CX k fa fd [x] sp) (hbind:∀ (s:Shared) (u:Value),BindsTo s fd ⟨[u],[]⟩ [(x,u)])
    (hsp:∀ H:Hp,LR H->SqL K H a (ns.map V.int)->sp [.ref a] H (fun v _=>v = .bl true) fun _ _ _=>False)
    (hCX:∀ H e s',CX [] H s₁ (fun _ _ _=>False) e s'->False) :
    codeAny (model P w) callerA (.call (.ref fa) ⟨[.ref a],[]⟩) (fun r s'=>r = .ok (.ret (.bool true)) /\ OldK s₁.heap s'.heap /\ s'.os=s₁.os /\ AllBare s'.gens) s₁:=by
 have rv:=CK hi
 have lenV:=hi.length
 have core : ∀ H : Hp, LR H -> SqL K H a (ns.map V.int) -> HOk P w H s₁.heap -> (∀ b, H b ≠ none -> (b = a \/ Tb K mg b) /\ K.lookup b = none) -> (∀ b fl, Tab K mg fl b -> H b = some (.tbl #[.bool fl])) ->
     codeAny (model P w) callerA (.call (.ref fa) ⟨[.ref a],[]⟩) (fun r s'=>r = .ok (.ret (.bool true)) /\ OldK s₁.heap s'.heap /\ s'.os=s₁.os /\ AllBare s'.gens) s₁:=by
  intro H hO hS hok hA hT
  have base_of:∀ {b:Addr} {o:Obj},s₁.heap.get? b=some o->H b=none->(D1 s₁.heap H).get? b=some o:=fun e n=>Lk e n
  have objs:∀ {b:Addr} {o:Obj},s₁.heap.get? b=some o->H b ≠ none->o={ cls:=.type "list",data:=.seq vs.toArray } \/ o={ cls:=.none,data:=.fields #[] }:=fun {b o} e n=>by
   rcases (hA b n).1 with rfl | z
   . rw [ha] at e;cases e;exact .inl rfl
   . obtain ⟨⟨c,z⟩,_⟩:=htb b z
     rw [z.2] at e;cases e;exact .inr rfl
  have noA:∀ {b:Addr} {o:Obj} {es:Array DictEntry} {ep:Nat},s₁.heap.get? b=some o->o.data = .dict es ep->H b=none:=fun {b o es ep} e d=>by
   cases q:H b with
   | none=>rfl
   | some u =>
    rcases objs e (by rw [q];exact fun z=>nomatch z) with rfl | rfl <;> cases d
  have nsK:∀ {b:Addr} {m:Str->Option Value},s₁.heap.Ns b m->(D1 s₁.heap H).Ns b m:=fun {b m} ⟨o,es,ep,e,d,r⟩=>⟨o,es,ep,base_of e (noA e d),d,r⟩
  have hKb:K.In (D1 s₁.heap H):=fun b o e=>base_of (KX b o e) (by
   cases q:H b with
   | none=>rfl
   | some u =>
    rw [(hA b (by rw [q];exact fun z=>nomatch z)).2] at e;cases e)
  have hM:Mod K mg (D1 s₁.heap H):=⟨hKb,nsK hns,⟨mb,nsK hb,hbb⟩,let ⟨mc,h1,h2⟩:=hlim;⟨mc,nsK h1,h2⟩,by
   obtain ⟨bm,ob,h1,h2,h3,h4,h5,h6⟩:=hbm
   refine ⟨bm,ob,h1,h2,base_of h3 ?_,h4,h5,h6⟩
   cases q:H bm with
   | none=>rfl
   | some u =>
    rcases objs h3 (by rw [q];exact fun z=>nomatch z) with rfl | rfl <;> exact absurd h4 (by simp)⟩
  have e0:ND P w K mg (D1 s₁.heap H) callerA [] s₁ H:=⟨rfl,hM,fun b o e=>Nl e,Nat.le_of_eq (JO _ _),trivial,fun b hb=>absurd (show b ∈ ([]:List Addr) from hb) (by simp),hok,.of_eq hg,fun b fl z=>⟨_,hT b fl z,rfl⟩⟩
  refine codeAny_mono ((F _ hKb (nsK hns)).run callerA [] s₁ H ⟨[.ref a],[]⟩ [.ref a] [.ref a] _ _ hr e0 (hbind s₁ (.ref a)) (.cons rfl .nil) (hsp H hO hS)) fun r s' h=>?_
  cases r with
  | error e=>exact (hCX H e s' h).elim
  | ok fl =>
   cases fl with
   | next=>exact False.elim h
   | brk=>exact False.elim h
   | cont=>exact False.elim h
   | ret u =>
    obtain ⟨v,H',os,bare,un,hok',r',q⟩:=h
    have q':v = .bl true:=q
    subst q'
    obtain rfl:u=Value.bool true:=r'
    refine ⟨rfl,⟨fun b o e=>?_,fun b o e=>un.there b o e (by simp)⟩,os,bare.1⟩
    cases q:H b with
    | none=>exact .inl (un.keep b o e q (by intro z;exact absurd (show b ∈ ([]:List Addr) from z) (by simp)) (by simp))
    | some u =>
     rcases hO b with z | ⟨ob,xs,z⟩ | ⟨fl,z⟩
     . rw [q] at z;cases z
     . have z2:=un.vt b ob _ z
       obtain ⟨e1,_⟩:=hok b _ z
       obtain ⟨e2,_⟩:=hok' b _ z2
       rw [e] at e1;cases e1
       exact .inl e2
     . obtain ⟨m,z2⟩:=un.uH b _ z
       obtain ⟨qs,e2,_⟩:=hok' b _ z2
       have nb:H b ≠ none:=by rw [q];exact fun y=>nomatch y
       rcases (hA b nb).1 with rfl | y
       . obtain ⟨_,e1,_⟩:=hok b _ z
         rw [ha] at e1;cases e1
       . obtain ⟨⟨c,y⟩,_⟩:=htb b y
         have y2:=y.2
         rw [e] at y2
         cases y2
         exact .inr (.inl ⟨y.isCodeTable,rfl,#[],qs,rfl,by rw [e2];simp⟩)
 have tbOk:∀ b,Tb K mg b->s₁.heap.get? b=some { cls:=.none,data:=.fields #[] }:=fun b z=>by
  obtain ⟨⟨c,z⟩,_⟩:=htb b z
  exact z.2
 have nta:∀ b,Tb K mg b->b ≠ a:=fun b z y=>by
  have:=tbOk b z
  rw [y,ha] at this;cases this
 cases hk:K.lookup a with
 | some o =>
  have e:=KX a o hk
  rw [ha] at e
  cases e
  refine core (fun b=>if h:Tb K mg b then some (.tbl #[.bool h.choose]) else none) (fun b=>?_) (.inr ⟨_,vs.toArray,_,hk,rfl,rfl,rfl,by rw [List.size_toArray,lenV];exact hl,by simpa using rv⟩) (fun b u z=>?_) (fun b z=>?_) fun b fl z=>by
   have hb:Tb K mg b:=⟨fl,z⟩
   rw [dif_pos hb,hb.choose_spec.one z]
  . by_cases hb:Tb K mg b
    . exact .inr (.inr ⟨_,dif_pos hb⟩)
    . exact .inl (dif_neg hb)
  . by_cases hb:Tb K mg b
    . have z':=(dif_pos hb).symm.trans z
      cases z'
      exact ⟨#[],tbOk b hb,trivial,fun _=>trivial⟩
    . have z':=(dif_neg hb).symm.trans z
      cases z'
  . by_cases hb:Tb K mg b
    . exact ⟨.inr hb,(htb b hb).2⟩
    . exact absurd (dif_neg hb) z
 | none =>
  refine core (fun b=>if b=a then some (.frz { cls:=.type "list",data:=.seq vs.toArray } (.lst (ns.map V.int))) else if h:Tb K mg b then some (.tbl #[.bool h.choose]) else none) (fun b=>?_) (.inl (.inr ⟨{ cls:=.type "list",data:=.seq vs.toArray },if_pos rfl⟩)) (fun b u z=>?_) (fun b z=>?_) fun b fl z=>by
   have hb:Tb K mg b:=⟨fl,z⟩
   rw [if_neg (nta b hb),dif_pos hb,hb.choose_spec.one z]
  . by_cases hb:b=a
    . exact .inr (.inl ⟨_,_,if_pos hb⟩)
    . by_cases ht:Tb K mg b
      . exact .inr (.inr ⟨_,(if_neg hb).trans (dif_pos ht)⟩)
      . exact .inl ((if_neg hb).trans (dif_neg ht))
  . by_cases hb:b=a
    . have z':=(if_pos hb).symm.trans z
      cases z'
      subst hb
      exact ⟨ha,by rw [List.length_map];exact hl,vs,_,rv,ha⟩
    . by_cases ht:Tb K mg b
      . have z':=((if_neg hb).trans (dif_pos ht)).symm.trans z
        cases z'
        exact ⟨#[],tbOk b ht,trivial,fun _=>trivial⟩
      . have z':=((if_neg hb).trans (dif_neg ht)).symm.trans z
        cases z'
  . by_cases hb:b=a
    . exact ⟨.inl hb,by rw [hb];exact hk⟩
    . by_cases ht:Tb K mg b
      . exact ⟨.inr ht,(htb b ht).2⟩
      . exact absurd ((if_neg hb).trans (dif_neg ht)) z
end L2
namespace L2
open PySem PySem.Spec PyProof.Rows
theorem N1 {l : PySem.W.OpenLaw} {n k : Nat} {q : Program} {loose : List Str} {XP : (Str -> Option Value) -> Heap -> Prop} {YP : World -> Heap -> Prop} {d : DefRec} {K : Params -> PySem.W.Frag} {CX : World -> CXT} {sp : World -> Sp} {x : Str}
    (hn:l.most=some n) (hn2:n <= sizeLine) (hdf:d.params.defaults = []) (hr:bZ k callerA)
    (hY:∀ (w:World) (h:Heap),YP w h->(K w.params).In h)
    (hR:∀ (w:World) (mg:Str->Option Value) (h:Heap),(K w.params).In h->h.Ns mainGlobals mg->∀ nm ∈ fD ++ cb,(∃ r ∈ recsOf q,r.name=nm) \/ ∀ f:Addr,mg nm ≠ some (.ref f))
    (hT:∀ (w:World) (mg:Str->Option Value) (h:Heap),(K w.params).In h->h.Ns mainGlobals mg->∀ b,Tb (K w.params) mg b->(K w.params).lookup b=none)
    (F:∀ (w:World) (mg:Str->Option Value) (fa:Addr) (h:Heap),(K w.params).In h->h.Ns mainGlobals mg->mg d.name=some (.ref fa) ->
     ∃ fd:FuncData,(∀ (s:Shared) (u:Value),BindsTo s fd ⟨[u],[]⟩ [(x,u)]) /\
      ∀ base:Heap,(K w.params).In base->base.Ns mainGlobals mg->jd l.prog w (K w.params) mg base (CX w) k fa fd [x] (sp w))
    (hsp:∀ (w:World) (H:Hp) (a:Addr) (ns:List Int),ns.length <= n->LR H->SqL (K w.params) H a (ns.map V.int)->sp w [.ref a] H (fun v _=>v = .bl true) fun _ _ _=>False)
    (hCX:∀ (w:World) (H:Hp) (s:Shared) (e:Value) (s':Shared),CX w [] H s (fun _ _ _=>False) e s'->False) :
    PySem.W.WalkO q loose XP YP l.row.toRowW d [] (fun f vs=>PySem.call f vs):=by
 refine Att.F3 hn hdf fun w s₀ s₁ mg mb fa o pm cd doc a vs ns G Y ho hd hcd hmg hobj hints hlen hg=>?_
 have KX:=hY w _ Y
 obtain ⟨fd,hb,hF⟩:=F w mg fa _ KX G.T.g hmg
 have htb:∀ b,Tb (K w.params) mg b->(∃ c,s₁.heap.TableAt c b #[]) /\ (K w.params).lookup b=none:=fun b hb=>by
  refine ⟨?_,hT w mg _ KX G.T.g b hb⟩
  obtain ⟨nm,hn',f,oc,od,fd',sl,h1,h2,c,oc',od',vs',sl',h3,h4,h5,_⟩:=hb.n
  rcases hR w mg _ KX G.T.g nm hn' with ⟨r,hr',rfl⟩ | no
  case inr=>exact absurd h1 (no f)
  obtain ⟨a',o',fd2,c2,P2,g1,g2,g3,g4,g5,g6⟩:=G.T.tab r hr'
  rw [h1] at g1
  cases g1
  rw [KX _ _ h2] at g2
  cases g2
  cases g3
  rw [h3] at g4
  cases g4
  obtain ⟨o5,vs5,file,tf,flags,tg,inF,text,tt,op,k1,k2,k3,_⟩:=g5
  rw [KX _ _ h4] at k1
  cases k1
  cases k2
  rw [h5] at k3
  cases k3
  exact ⟨_,g6⟩
 exact LS KX G.T.g G.T.b G.T.builtins G.T.nolimit hg G.T.bmain htb hobj hints (Nat.le_trans hlen hn2) hr hF hb (fun H hO hS=>hsp w H a ns hlen hO hS) fun H e s'=>hCX w H s₁ e s'
theorem KR {l : PySem.W.OpenLaw} {n k : Nat} {q : Program} {loose : List Str} {XP : (Str -> Option Value) -> Heap -> Prop} {YP : World -> Heap -> Prop} {d : DefRec} {K : Params -> PySem.W.Frag} {CX : CXT} {sp : PySem.W.Frag -> Sp} {x : Str}
    (hn:l.most=some n) (hn2:n <= sizeLine) (hdf:d.params.defaults = []) (hr:bZ k callerA)
    (hY:∀ (w:World) (h:Heap),YP w h->(K w.params).In h)
    (hR:∀ (w:World) (mg:Str->Option Value) (h:Heap),(K w.params).In h->h.Ns mainGlobals mg->∀ nm ∈ fD ++ cb,(∃ r ∈ recsOf q,r.name=nm) \/ ∀ f:Addr,mg nm ≠ some (.ref f))
    (hT:∀ (w:World) (mg:Str->Option Value) (h:Heap),(K w.params).In h->h.Ns mainGlobals mg->∀ b,Tb (K w.params) mg b->(K w.params).lookup b=none)
    (F:∀ (w:World) (mg:Str->Option Value) (fa:Addr) (h:Heap),(K w.params).In h->h.Ns mainGlobals mg->mg d.name=some (.ref fa) ->
     ∃ fd:FuncData,(∀ (s:Shared) (u:Value),BindsTo s fd ⟨[u],[]⟩ [(x,u)]) /\
      ∀ base:Heap,(K w.params).In base->base.Ns mainGlobals mg->jd l.prog w (K w.params) mg base CX k fa fd [x] (sp (K w.params)))
    (hsp:∀ (K:PySem.W.Frag) (H:Hp) (a:Addr) (ns:List Int),ns.length <= n->LR H->SqL K H a (ns.map V.int)->sp K [.ref a] H (fun v _=>v = .bl true) fun _ _ _=>False)
    (hCX:∀ (H:Hp) (s:Shared) (e:Value) (s':Shared),CX [] H s (fun _ _ _=>False) e s'->False) :
    PySem.W.WalkO q loose XP YP l.row.toRowW d [] (fun f vs=>PySem.call f vs) :=
 N1 (K:=K) (CX:=fun _=>CX) (sp:=fun w=>sp (K w.params)) hn hn2 hdf hr hY hR hT F (fun w H a ns h1 h2 h3=>hsp (K w.params) H a ns h1 h2 h3) fun _ H s e s'=>hCX H s e s'
end L2
namespace L2
open PySem PySem.Spec PyProof.Rows
def aM(s:Stmt):Arguments:=match s with
 | .FunctionDef _ a _ _ _ _ _ _ _ _=>a
 | _=>{ posonlyargs:=[],args:=[],vararg:=none,kwonlyargs:=[],kw_defaults:=[],kwarg:=none,defaults:=[] }
def aG(s:Stmt):List Stmt:=match s with
 | .FunctionDef _ _ b _ _ _ _ _ _ _=>b
 | _=>[]
def ah(s:Stmt):Scope:=match s with
 | .FunctionDef _ _ _ _ _ _ sc _ _ _=>sc
 | _=>{ kind:=.function,names:=[],isGenerator:=false,isCoroutine:=false }
abbrev CX0:CXT:=fun _ _ _ _ _ _=>False
abbrev E0:XK:=fun _ _ _=>False
theorem Sr{X:Cx}:Passes CX0 X E0:=fun _ _ _ _ _ _ _ h=>h.elim
structure Fun (K:PySem.W.Frag) (x qual:Str) (st:Stmt) (f:Addr) (fd:FuncData):Prop where
 ex:∃ (oc:Value) (od:Option Addr) (kV doc pm:Value) (an:Option Addr) (cdv ct:Value) (osl:Array (Option Value)),
  fd=PySem.W.fnOf x qual (aM st) (aG st) (ah st) .none kV doc pm an cdv ct /\ K.lookup f=some ⟨oc,od,.func fd,osl⟩ /\ PySem.W.codeIn K cdv qual=true
 kp:PySem.W.keepIn K (.ref f)=true
section
variable {P:Program} {w:World} {K:PySem.W.Frag} {mg:Str->Option Value} {base:Heap}
theorem Fun.ok {x qual : Str} {st : Stmt} {f : Addr} {fd : FuncData} {N ps : List Str} {k : Nat} {sp : Sp} (F : Fun K x qual st f fd) (S : aN N ps (ah st)) (len : ∀ vs H Q E, sp vs H Q E -> vs.length = ps.length)
    (hbody:∀ (cdv:Value) (A:Around) (outer:List Env) (s:Shared) (H:Hp) (vs:List V) (Q:VK) (E:XK),bZ k (A.deeper (envOfC qual (ah st) s.heap.objs.size f cdv))->sp vs H Q E ->
     ∃ t,PSs (ja CX0 P w K mg base N qual (ah st) f cdv A outer s H E).nox (aG st) t /\ t { nx:=fun _ H'=>Q .non H',rt:=Q } (start N vs) H):jd P w K mg base CX0 (k + 1) f fd ps sp:=by
 obtain ⟨oc,od,kV,doc,pm,an,cdv,ct,osl,rfl,lk,hcd⟩:=F.ex
 refine Lz lk hcd S len fun A outer s H vs Q E hr hsp=>?_
 obtain ⟨t,h,q⟩:=hbody cdv A outer s H vs Q E hr hsp
 exact ⟨t,h.nox,q⟩
theorem Fun.binds {x qual : Str} {st : Stmt} {f : Addr} {fd : FuncData} {ps : List Str} (F : Fun K x qual st f fd)
    (h:∀ (kV doc pm:Value) (an:Option Addr) (cdv ct:Value) (us:List Value),us.length=ps.length->bindArgs (PySem.W.fnOf x qual (aM st) (aG st) (ah st) .none kV doc pm an cdv ct) ⟨us,[]⟩=pure (ps.zip us)):Binds K fd ps []:=by
 obtain ⟨oc,od,kV,doc,pm,an,cdv,ct,osl,rfl,lk,hcd⟩:=F.ex
 exact .all (h kV doc pm an cdv ct)
theorem bI {x qual : Str} {st : Stmt} {f : Addr} {oc : Value} {od an : Option Addr} {osl : Array (Option Value)} {kV doc pm cdv ct : Value} (l : K.lookup f = some ⟨oc, od, .func (PySem.W.fnOf x qual (aM st) (aG st) (ah st) .none kV doc pm an cdv ct), osl⟩)
    (c:PySem.W.codeIn K cdv qual=true) (k:PySem.W.keepIn K (.ref f)=true):Fun K x qual st f (PySem.W.fnOf x qual (aM st) (aG st) (ah st) .none kV doc pm an cdv ct):=⟨⟨oc,od,kV,doc,pm,an,cdv,ct,osl,rfl,l,c⟩,k⟩
end
section
variable {X:Cx}
end
def B4(H H':Hp):Prop:=∀ b o,H b=some o->H' b=some o
theorem B4.refl(H:Hp):B4 H H:=fun _ _ h=>h
theorem B4.trans{H H1 H2:Hp}(a:B4 H H1)(b:B4 H1 H2):B4 H H2:=fun c o h=>b c o (a c o h)
theorem B4.seq{K:PySem.W.Frag}{H H':Hp}{a:Addr}{xs:List V}(e:B4 H H')(h:SqL K H a xs):SqL K H' a xs:=by
 rcases h with (h | ⟨o,h⟩) | h
 . exact .inl (.inl (e _ _ h))
 . exact .inl (.inr ⟨o,e _ _ h⟩)
 . exact .inr h
section
variable {κ:Type} [DecidableEq κ]
end
theorem B4.made{H H1:Hp}{x dx C:Addr}(nx:H x=Option.none)(nd:H dx=Option.none)(k:∀ b o,(upd (upd H dx (.own x)) x (.ins C dx [])) b=some o->b ≠ x->H1 b=some o):B4 H H1:=fun b o e =>
 k b o (by rw [aL (aQ e nx),aL (aQ e nd)];exact e) (aQ e nx)
end L2
end
section
namespace PySem
open Sem (wp)
open SetTable (Probe bits runEnd leap turns)
section
def Ris(xs:Array Nat):Prop:=xs.toList.Pairwise (· < ·)
def Cln(t:SetTable):Prop:=Ris t.place /\ t.dummies = #[]
def adv(mask:Nat)(p:Probe):Probe:=if p.more > 0 then { p with j:=p.j + 1,more:=p.more - 1 } else
 { p with j:=(leap mask p.i p.perturb).1,more:=runEnd mask (leap mask p.i p.perturb).1 - (leap mask p.i p.perturb).1,i:=(leap mask p.i p.perturb).1,perturb:=(leap mask p.i p.perturb).2 }
def Ra(mask:Nat)(q:Nat × Nat):Probe:={ j:=q.1,more:=runEnd mask q.1 - q.1,i:=q.1,perturb:=q.2,dummy:=none }
def lp(mask:Nat)(h:Int):Nat->Nat × Nat
 | 0=>(bits h % (mask + 1),bits h)
 | m + 1=>leap mask (lp mask h m).1 (lp mask h m).2
def pth(mask:Nat)(h:Int):Nat->Probe
 | 0=>Ra mask (lp mask h 0)
 | n + 1=>adv mask (pth mask h n)
def Msk(mask:Nat):Prop:=mask=7 \/ mask=31 \/ mask=127 \/ mask=511
def Rch(mask:Nat)(occ:Nat->Prop)(h:Int)(j:Nat):Prop:=∃ n,(pth mask h n).j=j /\ ∀ m,m < n->occ (pth mask h m).j
structure Rb (es:Array (Int × Value)) (t:SetTable):Prop where
 cln:Cln t
 size:t.place.size=es.size
 le:∀ j ∈ t.place.toList,j <= t.mask
 full:t.place.size * 5 < t.mask * 3
 msk:Msk t.mask
 rch:∀ (i j:Nat) (e:Int × Value),t.place[i]? = some j->es[i]? = some e->Rch t.mask (· ∈ t.place.toList) e.1 j
def QE(a:Addr)(xs:List (PyData × Addr)):World->Heap->Prop:=fun w h=>∃ o es ep t,h.get? a=some o /\ o.ExactSet /\ o.data = .set es ep t /\ Rb es t /\ es.toList=xs.map fun p=>(xu w p.1,Value.ref p.2)
end
end PySem
end
section
namespace L2.Q3
open PySem PySem.Spec PyProof.Rows
section
abbrev D:=PyData
inductive OX where
 | l (xs:List D)
 | k (ks:List Str) (xs:List D)
inductive W where
 | d (x:D)
 | own (x:OX)
 | sl (i:Nat)
 | ob (c:Str) (g:Nat) (ns:List Str)
abbrev W.fr (xs:List D):W:=.own (.l xs)
abbrev Rho:=List (Option W)
def kz(ks:List Str)(us:List V):List (Key × V):=(ks.zip us).map fun p=>(.inr p.1,p.2)
abbrev hoX:OX->List V->HO
 | .l _,us=>.lst us
 | .k ks _,us=>.dK (kz ks us)
abbrev dX:OX->List D
 | .l xs=>xs
 | .k _ xs=>xs
theorem IC{x:OX}{us:List V}{C dx:Addr}{fs:List (Str × V)}:hoX x us ≠ .ins C dx fs:=by cases x <;> exact fun z=>nomatch z
theorem QD {K : PySem.W.Frag} {a : Addr} {xs : List V} (h : ∃ (o : Obj) (its : Array Value) (n : Nat), K.lookup a = some o /\ (o.cls, o.dict) = (Value.type "tuple", none) /\ o.data = .seq its n /\ its.size <= sizeLine /\ Vals xs its.toList) :
    ∃ (o:Obj) (its:Array Value) (n:Nat),K.lookup a=some o /\ o.cls = .type "tuple" /\ o.data = .seq its n /\ its.size <= sizeLine /\ Vals xs its.toList:=by
 obtain ⟨o,its,n,h1,h2,h3⟩:=h
 exact ⟨o,its,n,h1,(Prod.mk.inj h2).1,h3⟩
mutual
inductive Dr (K:PySem.W.Frag) (Fz:Addr->Prop) (H:Hp):V->D->Prop
 | non:Dr K Fz H .non .none
 | bl (b:Bool):Dr K Fz H (.bl b) (.bool b)
 | int (i:Int):Dr K Fz H (.int i) (.int i)
 | str (x:Str):Dr K Fz H (.str x) (.str x)
 | lst {a:Addr} {xs:List V} {ds:List D}:Fz a->H a=some (.lst xs)->aD K Fz H xs ds->Dr K Fz H (.ref a) (.list ds)
 | tup {a:Addr} {xs:List V} {ds:List D}:Fz a->H a=some (.tup xs)->aD K Fz H xs ds->Dr K Fz H (.ref a) (.tuple ds)
 | tuk {a:Addr} {xs:List V} {ds:List D}:(∃ (o:Obj) (its:Array Value) (n:Nat),K.lookup a=some o /\ (o.cls,o.dict)=(Value.type "tuple",none) /\ o.data = .seq its n /\ its.size <= sizeLine /\ Vals xs its.toList)->aD K Fz H xs ds->Dr K Fz H (.ref a) (.tuple ds)
 | dct {a:Addr} {x:Str} {v:V} {dv:D}:Fz a->H a=some (.dK [(.inr x,v)])->Dr K Fz H v dv->Dr K Fz H (.ref a) (.dict [(.str x,dv)])
 | dki {a:Addr} {ks:List (Int × Int)} {kvs:List (D × D)}:Fz a->H a=some (.dK (ks.map fun p=>(.inl p.1,.int p.2)))->kvs=ks.map (fun p=>(PyData.int p.1,PyData.int p.2))->Dr K Fz H (.ref a) (.dict ((.none,.none) :: kvs))
 | dkb {a:Addr} {ks:List Int} {kvs:List (D × D)}:Fz a->H a=some (.dK (ks.map fun k=>(.inl k,.bl true)))->kvs=ks.map (fun k=>(PyData.int k,PyData.bool true))->Dr K Fz H (.ref a) (.dict ((.none,.bool true) :: kvs))
 | dkn {a:Addr} {xs:List (PyData × Addr × Value)} {vs:List V} {ks ds:List D}:Fz a->H a=some (.dN xs)->ks=xs.map (·.1)->aD K Fz H (xs.map fun x=>V.ref x.2.1) ks->Vals vs (xs.map (·.2.2))->aD K Fz H vs ds->Dr K Fz H (.ref a) (.dict [(.list ks,.list ds)])
 | sts {a:Addr} {xs ys:List (PyData × Addr)} {ks:List D}:Fz a->H a=some (.exw (QE a xs))->ys.Perm xs->ks=ys.map (·.1)->(∀ p ∈ xs,xp p.1)->(xs.map (·.1)).Nodup->aD K Fz H (ys.map fun x=>V.ref x.2) ks->Dr K Fz H (.ref a) (.dict [(.tuple [.none],.list ks)])
 | obj {a C dx:Addr} {fs:List (Str × V)} {c:Str} {ns:List Str} {ks ds:List D}:Fz a->PySem.W.nsIn K mainGlobals c=some (some (.ref C))->H a=some (.ins C dx fs)->fs.map (·.1)=ns->ks = .str c :: ns.map .str->aD K Fz H (fs.map (·.2)) ds->Dr K Fz H (.ref a) (.dict [(.tuple ks,.list ds)])
 | scr {a : Addr} {xs : List V} {ds : List D} : ((Fz a /\ ∃ o, H a = some (.frz o (.lst xs))) \/ ∃ (o : Obj) (its : Array Value) (n : Nat), K.lookup a = some o /\ o.cls = .type "list" /\ o.dict = none /\ o.data = .seq its n /\ its.size <= sizeLine /\ Vals xs its.toList) ->
     aD K Fz H xs ds->Dr K Fz H (.ref a) (.dict [(.none,.list ds)])
inductive aD (K:PySem.W.Frag) (Fz:Addr->Prop) (H:Hp):List V->List D->Prop
 | nil:aD K Fz H [] []
 | cons {v:V} {vs:List V} {d:D} {ds:List D}:Dr K Fz H v d->aD K Fz H vs ds->aD K Fz H (v :: vs) (d :: ds)
end
section
variable {K:PySem.W.Frag} {Fz Fz':Addr->Prop} {H H':Hp}
mutual
theorem Dr.keep(g:∀ q,Fz q->Fz' q)(k:∀ q o,Fz q->H q=some o->H' q=some o):∀ (d:D) (v:V),Dr K Fz H v d->Dr K Fz' H' v d
 | .none,_,h=>by cases h;exact .non
 | .bool b,_,h=>by cases h;exact .bl b
 | .int i,_,h=>by cases h;exact .int i
 | .str x,_,h=>by cases h;exact .str x
 | .list ds,_,h=>by
  cases h with
  | lst hf hs ha=>exact .lst (g _ hf) (k _ _ hf hs) (aD.keep g k ds _ ha)
 | .tuple ds,_,h=>by
  cases h with
  | tup hf hs ha=>exact .tup (g _ hf) (k _ _ hf hs) (aD.keep g k ds _ ha)
  | tuk hs ha=>exact .tuk hs (aD.keep g k ds _ ha)
 | .dict kvs,v,h=>Dr.Ss g k kvs v h
theorem Dr.Ss(g:∀ q,Fz q->Fz' q)(k:∀ q o,Fz q->H q=some o->H' q=some o):∀ (kvs:List (D × D)) (v:V),Dr K Fz H v (.dict kvs)->Dr K Fz' H' v (.dict kvs)
 | [],_,h=>nomatch h
 | [(.none,.list ds)],_,h=>by
  cases h with
  | scr hs hd=>exact .scr (hs.imp (fun ⟨hf,o,ho⟩=>⟨g _ hf,o,k _ _ hf ho⟩) id) (aD.keep g k ds _ hd)
 | [(.str x,b)],_,h=>by
  cases h with
  | dct hf hs hd=>exact .dct (g _ hf) (k _ _ hf hs) (Dr.keep g k b _ hd)
 | [(.none,.none)],_,h=>by
  cases h with
  | dki hf hs e=>exact .dki (g _ hf) (k _ _ hf hs) e
 | [(.list ks,.list ds)],_,h=>by
  cases h with
  | dkn hf hs e hk hv hd=>exact .dkn (g _ hf) (k _ _ hf hs) e (aD.keep g k ks _ hk) hv (aD.keep g k ds _ hd)
 | [(.tuple ks,.list ds)],_,h=>by
  cases h with
  | obj hf hK hs hn hk hd=>exact .obj (g _ hf) hK (k _ _ hf hs) hn hk (aD.keep g k ds _ hd)
  | sts hf hs hp e hk hn hd=>exact .sts (g _ hf) (k _ _ hf hs) hp e hk hn (aD.keep g k ds _ hd)
 | [(.none,.bool _)],_,h=>by
  cases h with
  | dkb hf hs e=>exact .dkb (g _ hf) (k _ _ hf hs) e
 | _ :: _ :: _,_,h=>by
  cases h with
  | dki hf hs e=>exact .dki (g _ hf) (k _ _ hf hs) e
  | dkb hf hs e=>exact .dkb (g _ hf) (k _ _ hf hs) e
theorem aD.keep(g:∀ q,Fz q->Fz' q)(k:∀ q o,Fz q->H q=some o->H' q=some o):∀ (ds:List D) (vs:List V),aD K Fz H vs ds->aD K Fz' H' vs ds
 | [],_,h=>by cases h;exact .nil
 | d :: ds,_,h=>by
  cases h with
  | cons h1 h2=>exact .cons (Dr.keep g k d _ h1) (aD.keep g k ds _ h2)
end
theorem Dr.fz{p:Addr}{ds:List D}(h:Dr K Fz H (.ref p) (.list ds)):Fz p:=by
 cases h;assumption
theorem aD.length:∀ {vs:List V} {ds:List D},aD K Fz H vs ds->vs.length=ds.length
 | _,_,.nil=>rfl
 | _,_,.cons _ t=>by simp [aD.length t]
theorem aD.get:∀ {vs:List V} {ds:List D} {i:Nat} {d:D},aD K Fz H vs ds->ds[i]? = some d->∃ v,vs[i]? = some v /\ Dr K Fz H v d
 | _,_,_,_,.nil,e=>by simp at e
 | _,_,0,_,.cons r _,e=>by simp at e;subst e;exact ⟨_,rfl,r⟩
 | _,_,i + 1,d,.cons _ t,e=>by
  obtain ⟨u,h1,h2⟩:=aD.get (i:=i) (d:=d) t (by simpa using e)
  exact ⟨u,by simpa using h1,h2⟩
theorem aD.append:∀ {vs us:List V} {ds es:List D},aD K Fz H vs ds->aD K Fz H us es->aD K Fz H (vs ++ us) (ds ++ es)
 | _,_,_,_,.nil,s=>s
 | _,_,_,_,.cons r t,s=>.cons r (aD.append t s)
theorem aD.take:∀ {vs:List V} {ds:List D} (n:Nat),aD K Fz H vs ds->aD K Fz H (vs.take n) (ds.take n)
 | _,_,0,_=>.nil
 | _,_,_ + 1,.nil=>.nil
 | _,_,n + 1,.cons r t=>.cons r (aD.take n t)
theorem aD.drop:∀ {vs:List V} {ds:List D} (n:Nat),aD K Fz H vs ds->aD K Fz H (vs.drop n) (ds.drop n)
 | _,_,0,r=>r
 | _,_,_ + 1,.nil=>.nil
 | _,_,n + 1,.cons _ t=>aD.drop n t
theorem aD.set{x:V}{u:D}(r:Dr K Fz H x u):∀ {xs:List V} {us:List D} (i:Nat),aD K Fz H xs us->aD K Fz H (xs.set i x) (us.set i u)
 | _,_,_,.nil=>.nil
 | _,_,0,.cons _ t=>.cons r t
 | _,_,i + 1,.cons q t=>.cons q (aD.set r i t)
theorem aD.reverse{vs:List V}{ds:List D}(h:aD K Fz H vs ds):aD K Fz H vs.reverse ds.reverse:=by
 induction vs generalizing ds with
 | nil=>cases h;exact .nil
 | cons v vs ih =>
  cases h with
  | cons h1 h2 =>
   rw [List.reverse_cons,List.reverse_cons]
   exact (ih h2).append (.cons h1 .nil)
mutual
theorem Dr.dp:∀ (d:D) (v:V),d.canLay0=true->Dr K Fz H v d->Dp K H v d
 | .none,_,_,h=>by cases h;exact .non
 | .bool b,_,_,h=>by cases h;exact .bl b
 | .int i,_,_,h=>by cases h;exact .int i
 | .str x,_,_,h=>by cases h;exact .str x
 | .list ds,_,c,h=>by
  cases h with
  | lst hf hs ha=>exact .lst (SqL.of hs) (aD.dp ds _ c ha)
 | .tuple ds,_,c,h=>by
  cases h with
  | tup hf hs ha=>exact .tup (SqT.of hs) (aD.dp ds _ c ha)
  | tuk hs ha=>exact .tup (.inr (QD hs)) (aD.dp ds _ c ha)
 | .dict _,_,c,_=>nomatch c
theorem aD.dp:∀ (ds:List D) (vs:List V),PyData.canLayAll0 ds=true->aD K Fz H vs ds->z6 K H vs ds
 | [],_,_,h=>by cases h;exact .nil
 | d :: ds,_,c,h=>by
  cases h with
  | cons h1 h2 =>
   have c':d.canLay0=true /\ PyData.canLayAll0 ds=true:=by simpa [PyData.canLayAll0] using c
   exact .cons (Dr.dp d _ c'.1 h1) (aD.dp ds _ c'.2 h2)
end
end
def wU(K:PySem.W.Frag)(Fz:Addr->Prop)(σ:St)(H:Hp):W->V->Prop
 | .d x,v=>Dr K Fz H v x
 | .own x,v=>∃ p vs,v = .ref p /\ H p=some (hoX x vs) /\ aD K Fz H vs (dX x)
 | .sl i,v=>σ[i]? = some (some v)
 | .ob _ _ _,_=>False
def vA(K:PySem.W.Frag)(Fz:Addr->Prop)(H:Hp):W->V->Prop
 | .d x,v=>Dr K Fz H v x
 | .own x,v=>∃ p vs,v = .ref p /\ H p=some (hoX x vs) /\ aD K Fz H vs (dX x)
 | .sl _,_=>False
 | .ob _ _ _,_=>False
def Su(K:PySem.W.Frag)(Fz:Addr->Prop)(H:Hp):W->V->Prop
 | .d x,v=>Dr K Fz H v x
 | .own x,v=>∃ p vs,v = .ref p /\ H p=some (hoX x vs) /\ aD K Fz H vs (dX x)
 | .sl _,_=>False
 | .ob _ _ _,v=>∃ p,v = .ref p
theorem vA.t{K:PySem.W.Frag}{Fz:Addr->Prop}{H:Hp}{w:W}{v:V}(h:vA K Fz H w v):Su K Fz H w v:=by
 cases w with
 | d x=>exact h
 | own _=>exact h
 | sl _=>exact h.elim
 | ob _ _ _=>exact h.elim
structure ObT (K:PySem.W.Frag) (Fz:Addr->Prop) (ρ:Rho) (σ:St) (H:Hp) (i:Nat) (c:Str) (g:Nat) (ns:List Str):Prop where
 far:40 <= g
 nd:ns.Nodup
 at_:∃ p C dx fs,σ[i]? = some (some (V.ref p)) /\ PySem.W.nsIn K mainGlobals c=some (some (.ref C)) /\ H p=some (.ins C dx fs) /\ ¬ Fz p /\ fs.map (·.1)=ns /\
  ∀ (k:Nat) (f:Str) (v:V),fs[k]? = some (f,v)->∀ w,ρ[g + k]? = some (some w)->σ[g + k]? = some (some v)
def Own(ρ:Rho)(σ:St)(p:Addr):Prop:=∃ (i:Nat) (xs:OX),ρ[i]? = some (some (W.own xs)) /\ σ[i]? = some (some (V.ref p))
def ObA(ρ:Rho)(σ:St)(p:Addr):Prop:=∃ (i:Nat) (c:Str) (g:Nat) (ns:List Str),ρ[i]? = some (some (W.ob c g ns)) /\ σ[i]? = some (some (V.ref p))
def OwO(ρ:Rho)(σ:St)(p:Addr):Prop:=Own ρ σ p \/ ObA ρ σ p
structure Rel (K:PySem.W.Frag) (Fz:Addr->Prop) (ρ:Rho) (σ:St) (H:Hp):Prop where
 len:ρ.length=σ.length
 val:∀ (i:Nat) (w:W),ρ[i]? = some (some w)->∃ v,σ[i]? = some (some v) /\ Su K Fz H w v
 apart:∀ (i j:Nat) (xs ys:OX) (p:Addr),ρ[i]? = some (some (W.own xs))->ρ[j]? = some (some (W.own ys))->σ[i]? = some (some (V.ref p))->σ[j]? = some (some (V.ref p))->i=j
 gD:∀ p,Own ρ σ p->¬ Fz p
 fzl:∀ q,Fz q->H q ≠ none
 obj:∀ (i:Nat) (c:Str) (g:Nat) (ns:List Str),ρ[i]? = some (some (W.ob c g ns))->ObT K Fz ρ σ H i c g ns
 oba:∀ (i j:Nat) (c c':Str) (g g':Nat) (ns ns':List Str) (p:Addr),ρ[i]? = some (some (W.ob c g ns))->ρ[j]? = some (some (W.ob c' g' ns'))->σ[i]? = some (some (V.ref p))->σ[j]? = some (some (V.ref p))->i=j
structure Step (Ow:Addr->Prop) (Fz Fz':Addr->Prop) (H H':Hp):Prop where
 fzl:∀ q,Fz' q->H' q ≠ none
 keep:∀ q o,H q=some o->¬ Ow q->H' q=some o
 live:∀ q,H' q=none->H q=none
 grow:∀ q,Fz q->Fz' q
 new:∀ q,Fz' q->Fz q \/ H q=none \/ Ow q
theorem Step.refl{Ow Fz:Addr->Prop}{H:Hp}(l:∀ q,Fz q->H q ≠ none):Step Ow Fz Fz H H:=⟨l,fun _ _ e _=>e,fun _ e=>e,fun _ e=>e,fun _ e=>.inl e⟩
theorem Step.trans{Ow Ow1 Fz Fz1 Fz2:Addr->Prop}{H H1 H2:Hp}(a:Step Ow Fz Fz1 H H1)(b:Step Ow1 Fz1 Fz2 H1 H2)(o:∀ q,Ow1 q->Ow q \/ H q=none):Step Ow Fz Fz2 H H2 where
 fzl:=b.fzl
 keep:=fun q u e n=>b.keep q u (a.keep q u e n) fun z=>(o q z).elim n fun z=>by rw [z] at e;cases e
 live:=fun q e=>a.live q (b.live q e)
 grow:=fun q e=>b.grow q (a.grow q e)
 new:=fun q e=>by
  rcases b.new q e with e | e | e
  . exact a.new q e
  . exact .inr (.inl (a.live q e))
  . exact (o q e).elim (fun z=>.inr (.inr z)) fun z=>.inr (.inl z)
theorem Step.weak{Ow Ow' Fz Fz':Addr->Prop}{H H':Hp}(a:Step Ow Fz Fz' H H')(o:∀ q,Ow q->Ow' q):Step Ow' Fz Fz' H H' :=
 ⟨a.fzl,fun q u e n=>a.keep q u e fun z=>n (o q z),a.live,a.grow,fun q e=>(a.new q e).imp id fun z=>z.imp id (o q)⟩
def frs:List W->List V->List Addr
 | .own _ :: ws,.ref p :: vs=>p :: frs ws vs
 | _ :: ws,_ :: vs=>frs ws vs
 | _,_=>[]
def isL:W->Bool
 | .own _=>true
 | .d (.list _)=>true
 | _=>false
structure Kp (ρ ρ':Rho):Prop where
 ke:∀ (k:Nat) (w:W),ρ[k]? = some (some w)->∃ w',ρ'[k]? = some (some w') /\ (isL w=true->isL w'=true)
 ob:∀ (k:Nat) (c:Str) (g:Nat) (ns:List Str),ρ'[k]? = some (some (W.ob c g ns)) ↔ ρ[k]? = some (some (W.ob c g ns))
 un:∀ (k:Nat) (w:W),ρ'[k]? = some (some w)->∃ w',ρ[k]? = some (some w')
theorem Kp.refl{ρ:Rho}:Kp ρ ρ:=⟨fun k w e=>⟨w,e,id⟩,fun _ _ _ _=>.rfl,fun k w e=>⟨w,e⟩⟩
theorem Kp.trans{ρ ρ1 ρ2:Rho}(a:Kp ρ ρ1)(b:Kp ρ1 ρ2):Kp ρ ρ2:=⟨fun k w e=>by
 obtain ⟨w1,e1,i1⟩:=a.ke k w e
 obtain ⟨w2,e2,i2⟩:=b.ke k w1 e1
 exact ⟨w2,e2,fun z=>i2 (i1 z)⟩,fun k c g ns=>(b.ob k c g ns).trans (a.ob k c g ns),fun k w e=>by
 obtain ⟨w1,e1⟩:=b.un k w e
 exact a.un k w1 e1⟩
structure aP (K:PySem.W.Frag) (Fz Fz':Addr->Prop) (ρ ρ':Rho) (σ:St) (H H':Hp) (ws:List W) (vs:List V):Prop where
 rel:Rel K Fz' ρ' σ H'
 rep:Paired (wU K Fz' σ H') ws vs
 fresh:∀ p ∈ frs ws vs,H p=none /\ ¬ Fz' p /\ ¬ Own ρ' σ p
 nd:(frs ws vs).Nodup
 step:Step (Own ρ σ) Fz Fz' H H'
 own:∀ p,Own ρ' σ p->Own ρ σ p
 kept:Kp ρ ρ'
end
section
section
variable {K:PySem.W.Frag} {Fz Fz' Fz1 Fz2:Addr->Prop} {ρ ρ' ρ1 ρ2:Rho} {σ:St} {H H' H1 H2:Hp} {w:W} {v:V} {ws:List W} {vs:List V}
theorem Rel.dr(r:Rel K Fz ρ σ H)(s:Step (Own ρ σ) Fz Fz' H H'){v:V}{x:D}(h:Dr K Fz H v x):Dr K Fz' H' v x :=
 h.keep s.grow (fun q o hf e=>s.keep q o e fun ow=>r.gD q ow hf) _ _
theorem Rel.Aa(r:Rel K Fz ρ σ H)(s:Step (Own ρ σ) Fz Fz' H H'){vs:List V}{xs:List D}(h:aD K Fz H vs xs):aD K Fz' H' vs xs :=
 h.keep s.grow (fun q o hf e=>s.keep q o e fun ow=>r.gD q ow hf) _ _
theorem Rel.QF(r:Rel K Fz ρ σ H){p:Addr}(o:Own ρ σ p):∃ x us,H p=some (hoX x us):=by
 obtain ⟨i,xs,e1,e2⟩:=o
 obtain ⟨v,hv,hr⟩:=r.val i _ e1
 rw [e2] at hv
 cases hv
 obtain ⟨q,us,e3,e4,_⟩:=hr
 cases e3
 exact ⟨xs,us,e4⟩
theorem Rel.obs (r : Rel K Fz ρ σ H) {Ow : Addr -> Prop} (s : Step Ow Fz Fz' H H') (ow : ∀ p C dx fs, Ow p -> H p = some (.ins C dx fs) -> False)
    (un:∀ (k:Nat) (w:W),ρ'[k]? = some (some w)->∃ w',ρ[k]? = some (some w')) (ob:∀ (k:Nat) (c:Str) (g:Nat) (ns:List Str),ρ'[k]? = some (some (W.ob c g ns))->ρ[k]? = some (some (W.ob c g ns))) :
    ∀ (i:Nat) (c:Str) (g:Nat) (ns:List Str),ρ'[i]? = some (some (W.ob c g ns))->ObT K Fz' ρ' σ H' i c g ns:=fun i c g ns e=>by
 obtain ⟨h1,h2,p,C,dx,fs,h3,h4,h5,h6,h7,h8⟩:=r.obj i c g ns (ob i c g ns e)
 refine ⟨h1,h2,p,C,dx,fs,h3,h4,s.keep p _ h5 fun z=>ow p C dx fs z h5,fun z=>?_,h7,fun k f v e1 w e2=>?_⟩
 . rcases s.new p z with z | z | z
   . exact h6 z
   . rw [h5] at z;cases z
   . exact ow p C dx fs z h5
 . obtain ⟨w',e3⟩:=un _ _ e2
   exact h8 k f v e1 w' e3
theorem Rel.QG(r:Rel K Fz ρ σ H):∀ p C dx fs,Own ρ σ p->H p=some (.ins C dx fs)->False:=fun p C dx fs o e=>by
 obtain ⟨x,us,z⟩:=r.QF o
 rw [e] at z;exact IC (Option.some.inj z).symm
theorem Rel.Sv(r:Rel K Fz ρ σ H)(s:Step (Own ρ σ) Fz Fz' H H')(k:Kp ρ ρ'):∀ (i:Nat) (c:Str) (g:Nat) (ns:List Str),ρ'[i]? = some (some (W.ob c g ns))->ObT K Fz' ρ' σ H' i c g ns :=
 r.obs s r.QG k.un fun i c g ns e=>(k.ob i c g ns).mp e
theorem Rel.LU(r:Rel K Fz ρ σ H)(k:Kp ρ ρ'):∀ (i j:Nat) (c c':Str) (g g':Nat) (ns ns':List Str) (p:Addr),ρ'[i]? = some (some (W.ob c g ns))->ρ'[j]? = some (some (W.ob c' g' ns'))->σ[i]? = some (some (V.ref p))->σ[j]? = some (some (V.ref p))->i=j :=
 fun i j c c' g g' ns ns' p e1 e2=>r.oba i j c c' g g' ns ns' p ((k.ob i c g ns).mp e1) ((k.ob j c' g' ns').mp e2)
theorem Rel.Sw(r:Rel K Fz ρ σ H):∀ p,OwO ρ σ p->¬ Fz p:=fun p z hf=>by
 rcases z with z | ⟨i,c,g,ns,e1,e2⟩
 . exact r.gD p z hf
 . obtain ⟨_,_,q,C,dx,fs,h3,h4,h5,h6,_⟩:=r.obj i c g ns e1
   rw [e2] at h3
   cases h3
   exact h6 hf
theorem pT{c:Str}{g:Nat}{ns:List Str}:frs (.ob c g ns :: ws) (v :: vs)=frs ws vs:=by cases v <;> rfl
theorem Rel.rep(r:Rel K Fz ρ σ H)(s:Step (Own ρ σ) Fz Fz' H H')(h:wU K Fz σ H w v)(f:∀ xs p,w = .own xs->v = .ref p->¬ Own ρ σ p):wU K Fz' σ H' w v:=by
 cases w with
 | d x=>exact r.dr s h
 | own xs =>
  obtain ⟨p,us,rfl,e,a⟩:=h
  exact ⟨p,us,rfl,s.keep p _ e (f xs p rfl rfl),r.Aa s a⟩
 | sl i=>exact h
 | ob _ _ _=>exact h
theorem cT{xs:OX}{p:Addr}:frs (.own xs :: ws) (.ref p :: vs)=p :: frs ws vs:=rfl
theorem jn{x:D}:frs (.d x :: ws) (v :: vs)=frs ws vs:=by cases v <;> rfl
theorem jj{i:Nat}:frs (.sl i :: ws) (v :: vs)=frs ws vs:=by cases v <;> rfl
theorem dQ:(frs [w] [v]).Nodup:=by
 cases w with
 | d x=>rw [jn];exact List.nodup_nil
 | sl i=>rw [jj];exact List.nodup_nil
 | ob _ _ _=>rw [pT];exact List.nodup_nil
 | own xs=>cases v <;> first | exact List.nodup_nil | (rw [cT];exact List.nodup_cons.mpr ⟨by simp [frs],List.nodup_nil⟩)
theorem aP.cons(a:aP K Fz Fz1 ρ ρ1 σ H H1 [w] [v])(b:aP K Fz1 Fz2 ρ1 ρ2 σ H1 H2 ws vs):aP K Fz Fz2 ρ ρ2 σ H H2 (w :: ws) (v :: vs):=by
 obtain ⟨ra,rb⟩:wU K Fz1 σ H1 w v /\ True:=by
  cases a.rep with
  | cons r _=>exact ⟨r,trivial⟩
 have fa:∀ xs p,w = .own xs->v = .ref p->H p=none /\ ¬ Fz1 p /\ ¬ Own ρ1 σ p:=fun xs p e1 e2=>by
  subst e1;subst e2
  exact a.fresh p (by rw [cT];exact List.mem_cons_self)
 have live1:∀ p xs,w = .own xs->v = .ref p->H1 p ≠ none:=fun p xs e1 e2=>by
  subst e1;subst e2
  obtain ⟨q,us,e,h,_⟩:=ra
  cases e
  rw [h];exact fun z=>nomatch z
 have tail:∀ p ∈ frs ws vs,H p=none /\ ¬ Fz2 p /\ ¬ Own ρ2 σ p:=fun p hp=>by
  obtain ⟨h1,h2,h3⟩:=b.fresh p hp
  exact ⟨a.step.live p h1,h2,h3⟩
 have head:∀ xs p,w = .own xs->v = .ref p->H p=none /\ ¬ Fz2 p /\ ¬ Own ρ2 σ p /\ p ∉ frs ws vs:=fun xs p e1 e2=>by
  obtain ⟨h1,h2,h3⟩:=fa xs p e1 e2
  have hl:=live1 p xs e1 e2
  refine ⟨h1,fun z=>?_,fun z=>h3 (b.own p z),fun z=>hl (b.fresh p z).1⟩
  rcases b.step.new p z with z | z | z
  . exact h2 z
  . exact hl z
  . exact h3 z
 refine ⟨b.rel,.cons (a.rel.rep b.step ra fun xs p e1 e2=>(fa xs p e1 e2).2.2) b.rep,?_,?_,a.step.trans b.step fun q z=>.inl (a.own q z),fun p z=>a.own p (b.own p z),a.kept.trans b.kept⟩
 . intro p hp
   cases w with
   | d x=>rw [jn] at hp;exact tail p hp
   | sl i=>rw [jj] at hp;exact tail p hp
   | ob _ _ _=>rw [pT] at hp;exact tail p hp
   | own xs =>
    cases v with
    | ref q =>
     rw [cT] at hp
     rcases List.mem_cons.mp hp with rfl | hp
     . obtain ⟨x1,x2,x3,_⟩:=head xs p rfl rfl;exact ⟨x1,x2,x3⟩
     . exact tail p hp
    | _=>exact tail p hp
 . cases w with
   | d x=>rw [jn];exact b.nd
   | sl i=>rw [jj];exact b.nd
   | ob _ _ _=>rw [pT];exact b.nd
   | own xs =>
    cases v with
    | ref q=>rw [cT];exact List.nodup_cons.mpr ⟨(head xs q rfl rfl).2.2.2,b.nd⟩
    | _=>exact b.nd
theorem aP.nil(r:Rel K Fz ρ σ H):aP K Fz Fz ρ ρ σ H H [] [] :=
 ⟨r,.nil,fun p hp=>absurd (show p ∈ ([]:List Addr) from hp) (by simp),List.nodup_nil,.refl r.fzl,fun _ z=>z,Kp.refl⟩
theorem aP.rep1(a:aP K Fz Fz' ρ ρ' σ H H' [w] [v]):wU K Fz' σ H' w v:=by
 cases a.rep with
 | cons r _=>exact r
theorem aP.plain(r:Rel K Fz ρ σ H){x:D}(h:Dr K Fz H v x):aP K Fz Fz ρ ρ σ H H [.d x] [v] :=
 ⟨r,.cons h .nil,fun p hp=>by rw [jn] at hp;exact absurd hp (by simp [frs]),dQ,.refl r.fzl,fun _ z=>z,Kp.refl⟩
def rE:Option (Option W)->Option D
 | some (some (.d x))=>some x
 | some (some (.own (.l xs)))=>some (.list xs)
 | _=>none
theorem F4{o:Option (Option W)}{x:D}(h:rE o=some x):o=some (some (.d x)) \/ ∃ xs,o=some (some (.fr xs)) /\ x = .list xs:=by
 rcases o with _ | _ | w
 . cases h
 . cases h
 . cases w with
   | d y=>cases h;exact .inl rfl
   | own xs =>
    cases xs with
    | l xs=>cases h;exact .inr ⟨xs,rfl,rfl⟩
    | k _ _=>cases h
   | sl _=>cases h
   | ob _ _ _=>cases h
def rdW(ρ:Rho):W->Option D
 | .d x=>some x
 | .own (.l xs)=>some (.list xs)
 | .sl i=>rE ρ[i]?
 | .own (.k _ _)=>none
 | .ob _ _ _=>none
def cu(ρ:Rho):List W->Option (List D)
 | []=>some []
 | w :: ws=>(rdW ρ w).bind fun x=>(cu ρ ws).bind fun xs=>some (x :: xs)
def Rdg(K:PySem.W.Frag)(Fz:Addr->Prop)(H:Hp)(v:V)(x:D):Prop :=
 Dr K Fz H v x \/ ∃ p vs xs,v = .ref p /\ x = .list xs /\ H p=some (.lst vs) /\ aD K Fz H vs xs
theorem Rel.rdg(r:Rel K Fz ρ σ H)(h:wU K Fz σ H w v){x:D}(e:rdW ρ w=some x):Rdg K Fz H v x:=by
 cases w with
 | d y=>cases e;exact .inl h
 | own xs =>
  obtain ⟨p,us,rfl,q,a⟩:=h
  cases xs with
  | k _ _=>cases e
  | l xs =>
  cases e
  exact .inr ⟨p,us,xs,rfl,rfl,q,a⟩
 | ob _ _ _=>exact h.elim
 | sl i =>
  have h':σ[i]? = some (some v):=h
  rcases F4 e with q | ⟨xs,q,rfl⟩
  . obtain ⟨u,hu,hr⟩:=r.val i _ q
    rw [h'] at hu
    cases hu
    exact .inl hr
  . obtain ⟨u,hu,hr⟩:=r.val i _ q
    rw [h'] at hu
    cases hu
    obtain ⟨p,us,e1,e2,e3⟩:=hr
    exact .inr ⟨p,us,xs,e1,rfl,e2,e3⟩
theorem Rel.kO(r:Rel K Fz ρ σ H):∀ {ws:List W} {vs:List V} {xs:List D},Paired (wU K Fz σ H) ws vs->cu ρ ws=some xs->Paired (Rdg K Fz H) vs xs
 | [],_,_,.nil,e=>by cases e;exact .nil
 | w :: ws,_,_,.cons h t,e=>by
  unfold cu at e
  cases e1:rdW ρ w with
  | none=>rw [e1] at e;cases e
  | some x =>
   rw [e1] at e
   cases e2:cu ρ ws with
   | none=>rw [e2] at e;cases e
   | some xs =>
    rw [e2] at e
    cases e
    exact .cons (r.rdg h e1) (r.kO t e2)
end
structure Made (K:PySem.W.Frag) (Fz Fz':Addr->Prop) (H H':Hp) (w:W) (v:V):Prop where
 fzl:∀ q,Fz' q->H' q ≠ none
 keep:∀ q o,H q=some o->H' q=some o
 live:∀ q,H' q=none->H q=none
 grow:∀ q,Fz q->Fz' q
 new:∀ q,Fz' q->Fz q \/ H q=none
 rep:vA K Fz' H' w v
 fresh:∀ xs p,w = .own xs->v = .ref p->H p=none /\ ¬ Fz' p
theorem Made.val{K:PySem.W.Frag}{Fz:Addr->Prop}{H:Hp}{x:D}{v:V}(l:∀ q,Fz q->H q ≠ none)(h:Dr K Fz H v x):Made K Fz Fz H H (.d x) v :=
 ⟨l,fun _ _ e=>e,fun _ e=>e,fun _ e=>e,fun _ e=>.inl e,h,fun _ _ e=>nomatch e⟩
def Atom(K:PySem.W.Frag)(r:List V->Hp->VK->Prop)(g:List D->Option W):Prop :=
 ∀ (Fz:Addr->Prop) (H:Hp) (vs:List V) (xs:List D) (w:W) (Q:VK),(∀ q,Fz q->H q ≠ none)->Paired (Rdg K Fz H) vs xs->g xs=some w->(∀ v H' Fz',Made K Fz Fz' H H' w v->Q v H')->r vs H Q
section
variable {K:PySem.W.Frag} {Fz Fz' Fz1 Fz2:Addr->Prop} {ρ ρ' ρ1 ρ2:Rho} {σ:St} {H H' H1 H2:Hp} {w:W} {v:V} {ws:List W} {vs:List V}
theorem Made.step{Ow:Addr->Prop}(m:Made K Fz Fz' H H' w v):Step Ow Fz Fz' H H':=⟨m.fzl,fun q o e _=>m.keep q o e,m.live,m.grow,fun q e=>(m.new q e).imp id .inl⟩
theorem vA.rep(h:vA K Fz H w v):wU K Fz σ H w v:=by
 cases w with
 | d _=>exact h
 | own _=>exact h
 | sl _=>exact h.elim
 | ob _ _ _=>exact h.elim
theorem Rel.rP(r:Rel K Fz ρ σ H)(s:Step (fun _=>False) Fz Fz' H H')(hn:∀ q,Fz' q->Fz q \/ H q=none):Rel K Fz' ρ σ H':=by
 have s':Step (Own ρ σ) Fz Fz' H H':=s.weak fun _ z=>z.elim
 refine ⟨r.len,fun i w e=>?_,r.apart,fun p o z=>?_,s.fzl,r.obs s (fun _ _ _ _ z _=>z) (fun k w e=>⟨w,e⟩) (fun _ _ _ _ e=>e),r.oba⟩
 . obtain ⟨v,hv,hr⟩:=r.val i w e
   refine ⟨v,hv,?_⟩
   cases w with
   | d x=>exact r.dr s' hr
   | own xs =>
    obtain ⟨p,us,e1,e2,e3⟩:=hr
    exact ⟨p,us,e1,s.keep p _ e2 id,r.Aa s' e3⟩
   | sl _=>exact hr
   | ob _ _ _=>exact hr
 . rcases hn p z with z | z
   . exact r.gD p o z
   . obtain ⟨i,xs,e1,e2⟩:=o
     obtain ⟨v,hv,q,us,e3,e4,_⟩:=r.val i _ e1
     rw [e2] at hv
     cases hv
     cases e3
     rw [z] at e4
     cases e4
theorem aP.made(a:aP K Fz Fz1 ρ ρ1 σ H H1 ws vs)(m:Made K Fz1 Fz2 H1 H2 w v):aP K Fz Fz2 ρ ρ1 σ H H2 [w] [v]:=by
 have r2:Rel K Fz2 ρ1 σ H2:=a.rel.rP m.step m.new
 refine ⟨r2,.cons m.rep.rep .nil,?_,dQ,a.step.trans (m.step (Ow:=Own ρ1 σ)) fun q z=>.inl (a.own q z),a.own,a.kept⟩
 intro p hp
 cases w with
 | d x=>rw [jn] at hp;exact absurd hp (by simp [frs])
 | sl i=>exact m.rep.elim
 | ob _ _ _=>exact m.rep.elim
 | own xs =>
  obtain ⟨q,us,e1,e2,e3⟩:=m.rep
  subst e1
  rw [cT] at hp
  have hp:p=q:=by simpa [frs] using hp
  subst hp
  obtain ⟨h1,h2⟩:=m.fresh xs p rfl rfl
  refine ⟨a.step.live p h1,h2,fun z=>?_⟩
  obtain ⟨i,ys,f1,f2⟩:=z
  obtain ⟨u,hu,q,us',f3,f4,_⟩:=a.rel.val i _ f1
  rw [f2] at hu
  cases hu
  cases f3
  rw [h1] at f4
  cases f4
end
abbrev Fe:=Rho->Option (W × Rho)
abbrev Ft:=Rho->Option (Bool × Rho)
abbrev Fa:=Rho->Option (List W × Rho)
def tE(K:PySem.W.Frag)(f:Fe):TE:=fun σ H Q=>∃ Fz ρ w ρ',Rel K Fz ρ σ H /\ f ρ=some (w,ρ') /\ ∀ v H' Fz',aP K Fz Fz' ρ ρ' σ H H' [w] [v]->Q v H'
def tT(K:PySem.W.Frag)(f:Ft):TT:=fun σ H Q=>∃ Fz ρ b ρ',Rel K Fz ρ σ H /\ f ρ=some (b,ρ') /\ ∀ H' Fz',aP K Fz Fz' ρ ρ' σ H H' [] []->Q b H'
def tA(K:PySem.W.Frag)(f:Fa):TA:=fun σ H Q=>∃ Fz ρ ws ρ',Rel K Fz ρ σ H /\ f ρ=some (ws,ρ') /\ ∀ vs H' Fz',aP K Fz Fz' ρ ρ' σ H H' ws vs->Q vs H'
structure DE (X:Cx) (e:Expr) (f:Fe):Prop where
 ok:PE X e (tE X.K f)
structure DT (X:Cx) (e:Expr) (f:Ft):Prop where
 ok:PT X e (tT X.K f)
structure DA (X:Cx) (es:List Expr) (f:Fa):Prop where
 ok:PA X es (tA X.K f)
theorem PE.imp{X:Cx}{e:Expr}{t t':TE}(h:PE X e t)(i:∀ σ H Q,t' σ H Q->t σ H Q):PE X e t':=fun pins s σ H Q I q=>h pins s σ H Q I (i σ H Q q)
theorem PT.imp{X:Cx}{e:Expr}{t t':TT}(h:PT X e t)(i:∀ σ H Q,t' σ H Q->t σ H Q):PT X e t':=fun pins s σ H Q I q=>h pins s σ H Q I (i σ H Q q)
theorem PA.imp{X:Cx}{e:List Expr}{t t':TA}(h:PA X e t)(i:∀ σ H Q,t' σ H Q->t σ H Q):PA X e t':=fun pos pins s σ H Q I q=>h pos pins s σ H Q I (i σ H Q q)
def aj:Fa:=fun ρ=>some ([],ρ)
def aa(f:Fe)(g:Fa):Fa:=fun ρ=>(f ρ).bind fun p=>(g p.2).bind fun q=>some (p.1 :: q.1,q.2)
theorem bP{f:Fe}{g:Fa}{ρ ρ':Rho}{ws:List W}(h:aa f g ρ=some (ws,ρ')):∃ w ρ1 us,f ρ=some (w,ρ1) /\ g ρ1=some (us,ρ') /\ ws=w :: us:=by
 unfold aa at h
 cases e1:f ρ with
 | none=>rw [e1] at h;cases h
 | some p =>
  rw [e1] at h
  obtain ⟨w,ρ1⟩:=p
  cases e2:g ρ1 with
  | none=>simp only [Option.bind_some,e2] at h;cases h
  | some q =>
   obtain ⟨us,ρ2⟩:=q
   simp only [Option.bind_some,e2] at h
   cases h
   exact ⟨w,ρ1,us,rfl,e2,rfl⟩
theorem az{X:Cx}:DA X [] aj:=⟨PA.imp Hj fun σ H Q h=>by
 obtain ⟨Fz,ρ,ws,ρ',r,e,q⟩:=h
 cases e
 exact q _ _ _ (.nil r)⟩
theorem ak{X:Cx}{e:Expr}{es:List Expr}{f:Fe}{g:Fa}(ha:DE X e f)(hr:DA X es g)(hs:starEach (e :: es) X.env=(false,eval e X.env) :: starEach es X.env:=by rfl):DA X (e :: es) (aa f g):=⟨PA.imp (yD ha.ok hr.ok hs) fun σ H Q h=>by
 obtain ⟨Fz,ρ,ws,ρ',r,e,q⟩:=h
 obtain ⟨w,ρ1,us,e1,e2,rfl⟩:=bP e
 refine ⟨Fz,ρ,w,ρ1,r,e1,fun v H1 Fz1 p1=>?_⟩
 exact ⟨Fz1,ρ1,us,ρ',p1.rel,e2,fun vs H2 Fz2 p2=>q _ _ _ (p1.cons p2)⟩⟩
def aI(g:List D->Option W)(f:Fa):Fe:=fun ρ=>(f ρ).bind fun p=>(cu p.2 p.1).bind fun xs=>(g xs).bind fun w=>some (w,p.2)
theorem jZ{g:List D->Option W}{f:Fa}{ρ ρ':Rho}{w:W}(h:aI g f ρ=some (w,ρ')):∃ ws xs,f ρ=some (ws,ρ') /\ cu ρ' ws=some xs /\ g xs=some w:=by
 unfold aI at h
 cases e1:f ρ with
 | none=>rw [e1] at h;cases h
 | some p =>
  obtain ⟨ws,ρ1⟩:=p
  simp only [e1,Option.bind_some] at h
  cases e2:cu ρ1 ws with
  | none=>rw [e2] at h;cases h
  | some xs =>
   simp only [e2,Option.bind_some] at h
   cases e3:g xs with
   | none=>rw [e3] at h;cases h
   | some w' =>
    simp only [e3,Option.bind_some] at h
    cases h
    exact ⟨ws,xs,rfl,e2,e3⟩
theorem ID{K:PySem.W.Frag}{r:List V->Hp->VK->Prop}{g:List D->Option W}{f:Fa}(ha:Atom K r g){σ:St}{H:Hp}{Q:VK}(h:tE K (aI g f) σ H Q):tA K f σ H fun vs H1=>r vs H1 Q:=by
 obtain ⟨Fz,ρ,w,ρ',rl,e,q⟩:=h
 obtain ⟨ws,xs,e1,e2,e3⟩:=jZ e
 refine ⟨Fz,ρ,ws,ρ',rl,e1,fun vs H1 Fz1 p1=>?_⟩
 exact ha Fz1 H1 vs xs w Q p1.rel.fzl (p1.rel.kO p1.rep e2) e3 fun v H2 Fz2 m=>q v H2 Fz2 (p1.made m)
theorem vB {K : PySem.W.Frag} {r : R2} {g : List D -> Option W} {fa fb : Fe} (ha : Atom K (fun vs H Q => match vs with | [x, y] => r x y H Q | _ => False) g) {σ : St} {H : Hp} {Q : VK} (h : tE K (aI g (aa fa (aa fb aj))) σ H Q) :
    tE K fa σ H fun x H1=>tE K fb σ H1 fun y H2=>r x y H2 Q:=by
 obtain ⟨Fz,ρ,w,ρ',rl,e,q⟩:=h
 obtain ⟨ws,xs,e1,e2,e3⟩:=jZ e
 obtain ⟨w1,ρ1,us,g1,g2,rfl⟩:=bP e1
 obtain ⟨w2,ρ2,us2,g3,g4,rfl⟩:=bP g2
 cases g4
 refine ⟨Fz,ρ,w1,ρ1,rl,g1,fun v1 H1 Fz1 p1=>⟨Fz1,ρ1,w2,ρ',p1.rel,g3,fun v2 H2 Fz2 p2=>?_⟩⟩
 have p12:=p1.cons p2
 exact ha Fz2 H2 [v1,v2] xs w Q p12.rel.fzl (p12.rel.kO p12.rep e2) e3 fun v H3 Fz3 m=>q v H3 Fz3 (p12.made m)
theorem F5 {K : PySem.W.Frag} {r : V -> Hp -> VK -> Prop} {g : List D -> Option W} {fa : Fe} (ha : Atom K (fun vs H Q => match vs with | [x] => r x H Q | _ => False) g) {σ : St} {H : Hp} {Q : VK} (h : tE K (aI g (aa fa aj)) σ H Q) :
    tE K fa σ H fun x H1=>r x H1 Q:=by
 obtain ⟨Fz,ρ,w,ρ',rl,e,q⟩:=h
 obtain ⟨ws,xs,e1,e2,e3⟩:=jZ e
 obtain ⟨w1,ρ1,us,g1,g2,rfl⟩:=bP e1
 cases g2
 refine ⟨Fz,ρ,w1,ρ',rl,g1,fun v1 H1 Fz1 p1=>?_⟩
 exact ha Fz1 H1 [v1] xs w Q p1.rel.fzl (p1.rel.kO p1.rep e2) e3 fun v H3 Fz3 m=>q v H3 Fz3 (p1.made m)
end
section
section
variable {K:PySem.W.Frag} {Fz Fz':Addr->Prop} {H H':Hp} {v:V} {x:D}
theorem dh{α β:Type}{R:α->β->Prop}{vs:List α}{x:β}(h:Paired R vs [x]):∃ v,vs = [v] /\ R v x:=by
 cases h with
 | cons a t=>cases t;exact ⟨_,rfl,a⟩
theorem cH{α β:Type}{R:α->β->Prop}{vs:List α}{x y:β}(h:Paired R vs [x,y]):∃ v u,vs = [v,u] /\ R v x /\ R u y:=by
 cases h with
 | cons a t =>
  obtain ⟨u,rfl,b⟩:=dh t
  exact ⟨_,u,rfl,a,b⟩
theorem Rdg.non(h:Rdg K Fz H v .none):v = .non:=by
 rcases h with h | ⟨_,_,_,_,e,_⟩
 . cases h;rfl
 . cases e
theorem Rdg.bool{b:Bool}(h:Rdg K Fz H v (.bool b)):v = .bl b:=by
 rcases h with h | ⟨_,_,_,_,e,_⟩
 . cases h;rfl
 . cases e
theorem Rdg.int{i:Int}(h:Rdg K Fz H v (.int i)):v = .int i:=by
 rcases h with h | ⟨_,_,_,_,e,_⟩
 . cases h;rfl
 . cases e
theorem Rdg.str{y:Str}(h:Rdg K Fz H v (.str y)):v = .str y:=by
 rcases h with h | ⟨_,_,_,_,e,_⟩
 . cases h;rfl
 . cases e
theorem Rdg.tup{ds:List D}(h:Rdg K Fz H v (.tuple ds)):∃ a xs,v = .ref a /\ SqT K H a xs /\ aD K Fz H xs ds:=by
 rcases h with h | ⟨_,_,_,_,e,_⟩
 . cases h with
   | tup a b c=>exact ⟨_,_,rfl,SqT.of b,c⟩
   | tuk b c=>exact ⟨_,_,rfl,.inr (QD b),c⟩
 . cases e
theorem Rdg.lst{ds:List D}(h:Rdg K Fz H v (.list ds)):∃ a xs,v = .ref a /\ H a=some (.lst xs) /\ aD K Fz H xs ds:=by
 rcases h with h | ⟨p,vs,xs,e1,e,e2,e3⟩
 . cases h with
   | lst a b c=>exact ⟨_,_,rfl,b,c⟩
 . cases e;exact ⟨p,vs,e1,e2,e3⟩
theorem Rdg.scr{ds:List D}(h:Rdg K Fz H v (.dict [(.none,.list ds)])):∃ a xs,v = .ref a /\ SqL K H a xs /\ aD K Fz H xs ds:=by
 rcases h with h | ⟨p,vs,xs,e1,e,e2,e3⟩
 . cases h with
   | scr a c=>exact ⟨_,_,rfl,a.imp (fun z=>.inr z.2) id,c⟩
 . cases e
theorem Rdg.dp(h:Rdg K Fz H v x)(c:x.canLay0=true):Dp K H v x:=by
 rcases h with h | ⟨p,vs,xs,rfl,rfl,e2,e3⟩
 . exact h.dp _ _ c
 . exact .lst (SqL.of e2) (e3.dp _ _ c)
theorem vC{p:Addr}{o:HO}(hp:H p=none):∀ q u,H q=some u->upd H p o q=some u:=fun q u e=>by rw [aL (aQ e hp)];exact e
theorem ba{p:Addr}{o:HO}:∀ q,upd H p o q=none->H q=none:=fun q e=>by
 by_cases z:q=p
 . subst z;rw [bt] at e;cases e
 . rw [aL z] at e;exact e
theorem Made.Eb{p:Addr}{vs:List V}{ds:List D}(l:∀ q,Fz q->H q ≠ none)(hp:H p=none)(a:aD K Fz H vs ds):Made K Fz (fun q=>Fz q \/ q=p) H (upd H p (.tup vs)) (.d (.tuple ds)) (.ref p):=by
 have k:=vC (o:=.tup vs) hp
 refine ⟨fun q z=>?_,k,ba,fun q=>.inl,fun q e=>e.imp id fun z=>by rw [z];exact hp,.tup (.inr rfl) bt (a.keep (fun q=>.inl) (fun q o _ e=>k q o e) _ _),fun _ _ e=>nomatch e⟩
 rcases z with z | rfl
 . exact fun e=>l q z (ba q e)
 . rw [bt];exact fun e=>nomatch e
theorem Made.Hr{p:Addr}{vs:List V}{ds:List D}(l:∀ q,Fz q->H q ≠ none)(hp:H p=none)(a:aD K Fz H vs ds):Made K Fz Fz H (upd H p (.lst vs)) (.fr ds) (.ref p):=by
 have k:=vC (o:=.lst vs) hp
 refine ⟨fun q z e=>l q z (ba q e),k,ba,fun q=>id,fun q e=>.inl e,⟨p,vs,rfl,bt,a.keep (fun q=>id) (fun q o _ e=>k q o e) _ _⟩,fun xs q e1 e2=>?_⟩
 cases e2;exact ⟨hp,fun z=>l _ z hp⟩
end
end
section
abbrev r2(r:R2):List V->Hp->VK->Prop:=fun vs H Q=>match vs with | [x,y]=>r x y H Q | _=>False
abbrev r1(r:V->Hp->VK->Prop):List V->Hp->VK->Prop:=fun vs H Q=>match vs with | [x]=>r x H Q | _=>False
section
variable {X:Cx} {K:PySem.W.Frag}
theorem LV:OpR X (binaryOp .Add) (fun x y H Q=>∃ a b ys,x = .ref a /\ y = .ref b /\ SqT X.K H a [] /\ SqT X.K H b ys /\ Q (.ref b) H):=by
 intro pins s σ H x y v u Q I rx ry h
 obtain ⟨a,b,ys,rfl,rfl,ha,hb,q⟩:=h
 cases rx
 cases ry
 obtain ⟨its,r1,p1,_⟩:=I.tuple ha
 obtain ⟨its2,r2,p2,_⟩:=I.tuple hb
 cases r1
 obtain ⟨⟨cls,dd,data,sl⟩,ho,hc,n,hd⟩:=id p1
 obtain ⟨⟨cls2,dd2,data2,sl2⟩,ho2,hc2,n2,hd2⟩:=id p2
 simp only at hc hd hc2 hd2
 subst hc hd hc2 hd2
 exact concat_meets ⟨_,ho,rfl⟩ ⟨_,ho2,rfl⟩ noFill_tuple_add seq_tuple_add PySem.F.slot_tuple_add PySem.F.entry_tuple_add (PySem.F.args_tuple_add_2 _ _)
  (tuple_addW0 a b _ its2.toArray n n2 dd dd2 sl sl2 (by simp)) ⟨ho,ho2,⟨.ref b,H,I,rfl,q⟩⟩
def O8(K:PySem.W.Frag):R2:=fun x y H Q =>
 rI0 (fun i j=>.int (i + j)) x y H Q \/ (∃ i j,x = .str i /\ y = .str j /\ i.length + j.length <= sizeLine /\ Q (.str (i ++ j)) H) \/ O5 K x y H Q \/
  (∃ a b ys,x = .ref a /\ y = .ref b /\ SqT K H a [] /\ SqT K H b ys /\ Q (.ref b) H) \/ Se x y H Q
theorem cI:OpR X (binaryOp .Add) (O8 X.K):=Qc.or (Hh.or (NK.or (LV.or Qw)))
def j4:List D->Option W
 | [.int i,.int j]=>some (.d (.int (i + j)))
 | [.str a,.str b]=>if a.length + b.length <= 16777216 then some (.d (.str (a ++ b))) else none
 | [.tuple a,.tuple b]=>if a.length + b.length <= 16777216 then some (.d (.tuple (a ++ b))) else none
 | [.list a,.list b]=>if a.length + b.length <= 16777216 then some (.fr (a ++ b)) else none
 | _=>none
theorem bc{α:Type}{c:Prop}[Decidable c]{a b:α}(h:(if c then some a else none)=some b):c /\ a=b:=by
 by_cases hc:c
 . rw [if_pos hc] at h;exact ⟨hc,Option.some.inj h⟩
 . rw [if_neg hc] at h;cases h
theorem bQ:Atom K (r2 (O8 K)) j4:=by
 intro Fz H vs xs w Q l h e k
 unfold j4 at e
 split at e
 . cases e
   obtain ⟨v,u,rfl,h1,h2⟩:=cH h
   rw [h1.int,h2.int]
   exact .inl ⟨_,_,rfl,rfl,k _ _ _ (.val l (.int _))⟩
 . obtain ⟨hc,rfl⟩:=bc e
   obtain ⟨v,u,rfl,h1,h2⟩:=cH h
   rw [h1.str,h2.str]
   exact .inr (.inl ⟨_,_,rfl,rfl,by rw [sizeLine_eq];exact hc,k _ _ _ (.val l (.str _))⟩)
 . rename_i as bs
   obtain ⟨hc,rfl⟩:=bc e
   obtain ⟨v,u,rfl,h1,h2⟩:=cH h
   obtain ⟨a,us,rfl,s1,d1⟩:=h1.tup
   obtain ⟨b,zs,rfl,s2,d2⟩:=h2.tup
   have l1:=d1.length
   have l2:=d2.length
   by_cases hn:us = []
   . subst hn
     cases d1
     refine .inr (.inr (.inr (.inl ⟨a,b,zs,rfl,rfl,s1,s2,k _ _ _ (.val l ?_)⟩)))
     rw [List.nil_append]
     rcases h2 with h2 | ⟨_,_,_,_,e,_⟩
     . exact h2
     . cases e
   . refine .inr (.inr (.inl ⟨a,b,us,zs,rfl,rfl,s1,s2,hn,by rw [sizeLine_eq];omega,fun z=>?_,fun z p hp=>?_⟩))
     . subst z
       cases d2
       refine k _ _ _ (.val l ?_)
       rw [List.append_nil]
       rcases h1 with h1 | ⟨_,_,_,_,e,_⟩
       . exact h1
       . cases e
     . exact k _ _ _ (.Eb l hp (d1.append d2))
 . obtain ⟨hc,rfl⟩:=bc e
   obtain ⟨v,u,rfl,h1,h2⟩:=cH h
   obtain ⟨a,us,rfl,s1,d1⟩:=h1.lst
   obtain ⟨b,zs,rfl,s2,d2⟩:=h2.lst
   have l1:=d1.length
   have l2:=d2.length
   exact .inr (.inr (.inr (.inr ⟨a,b,us,zs,rfl,rfl,s1,s2,by rw [sizeLine_eq];omega,fun p hp=>k _ _ _ (.Hr l hp (d1.append d2))⟩)))
 . cases e
def gI(c:Int->Int->Bool)(g:Int->Int->D):List D->Option W
 | [.int i,.int j]=>if c i j=true then some (.d (g i j)) else none
 | _=>none
theorem vD{C:Int->Int->Prop}{gv:Int->Int->V}{c:Int->Int->Bool}{g:Int->Int->D}(hc:∀ i j,c i j=true->C i j)(hg:∀ (Fz:Addr->Prop) (H:Hp) i j,Dr K Fz H (gv i j) (g i j)):Atom K (r2 (rI C gv)) (gI c g):=by
 intro Fz H vs xs w Q l h e k
 unfold gI at e
 split at e
 . obtain ⟨hcc,rfl⟩:=bc e
   obtain ⟨v,u,rfl,h1,h2⟩:=cH h
   rw [h1.int,h2.int]
   exact ⟨_,_,rfl,rfl,hc _ _ hcc,k _ _ _ (.val l (hg _ _ _ _))⟩
 . cases e
def gI0(g:Int->Int->D):List D->Option W
 | [.int i,.int j]=>some (.d (g i j))
 | _=>none
theorem J8{gv:Int->Int->V}{g:Int->Int->D}(hg:∀ (Fz:Addr->Prop) (H:Hp) i j,Dr K Fz H (gv i j) (g i j)):Atom K (r2 (rI0 gv)) (gI0 g):=by
 intro Fz H vs xs w Q l h e k
 unfold gI0 at e
 split at e
 . cases e
   obtain ⟨v,u,rfl,h1,h2⟩:=cH h
   rw [h1.int,h2.int]
   exact ⟨_,_,rfl,rfl,k _ _ _ (.val l (hg _ _ _ _))⟩
 . cases e
abbrev uG:=gI0 fun i j=>.int (i - j)
abbrev Hs:=gI (fun i j=>(decide (-(2 ^ 64) < i) && decide (i < 2 ^ 64)) || (decide (-(2 ^ 64) < j) && decide (j < 2 ^ 64))) fun i j=>.int (i * j)
abbrev F6:=gI (fun _ j=>decide (0 < j)) fun i j=>.int (i % j)
abbrev N3:=gI (fun _ j=>decide (0 < j) && decide (j < 1073741824)) fun i j=>.int (i / j)
abbrev KZ:=gI (fun i j=>decide (0 <= j) && (decide (j <= 1000000) && decide (i.natAbs < 2 ^ 64))) fun i j=>.int (i ^ j.toNat)
theorem j6:Atom K (r2 (rI0 fun i j=>.int (i - j))) uG:=J8 fun _ _ _ _=>.int _
theorem rQ:Atom K (r2 (rI Nz fun i j=>.int (i * j))) Hs:=vD (fun i j h=>by
 simp only [Bool.or_eq_true,Bool.and_eq_true,decide_eq_true_eq] at h
 exact h) fun _ _ _ _=>.int _
theorem nU:Atom K (r2 (rI (fun _ j=>0 < j) fun i j=>.int (i % j))) F6:=vD (fun i j h=>by simpa using h) fun _ _ _ _=>.int _
theorem F7:Atom K (r2 (rI RW fun i j=>.int (i / j))) N3:=vD (fun i j h=>by
 simp only [Bool.and_eq_true,decide_eq_true_eq] at h
 exact h) fun _ _ _ _=>.int _
theorem F8:Atom K (r2 (rI RX fun i j=>.int (i ^ j.toNat))) KZ:=vD (fun i j h=>by
 simp only [Bool.and_eq_true,decide_eq_true_eq] at h
 exact h) fun _ _ _ _=>.int _
def F9(p:Int->Int->Bool)(q:List Nat->List Nat->Bool):R2:=fun x y H Q=>rI0 (fun i j=>.bl (p i j)) x y H Q \/ ∃ i j,x = .str i /\ y = .str j /\ Q (.bl (q i.cps.toList j.cps.toList)) H
def nV(p:Int->Int->Bool)(q:List Nat->List Nat->Bool):List D->Option W
 | [.int i,.int j]=>some (.d (.bool (p i j)))
 | [.str a,.str b]=>some (.d (.bool (q a.cps.toList b.cps.toList)))
 | _=>none
theorem cF{p:Int->Int->Bool}{q:List Nat->List Nat->Bool}:Atom K (r2 (F9 p q)) (nV p q):=by
 intro Fz H vs xs w Q l h e k
 unfold nV at e
 split at e
 . cases e
   obtain ⟨v,u,rfl,h1,h2⟩:=cH h
   rw [h1.int,h2.int]
   exact .inl ⟨_,_,rfl,rfl,k _ _ _ (.val l (.bl _))⟩
 . cases e
   obtain ⟨v,u,rfl,h1,h2⟩:=cH h
   rw [h1.str,h2.str]
   exact .inr ⟨_,_,rfl,rfl,k _ _ _ (.val l (.bl _))⟩
 . cases e
abbrev pLt:Int->Int->Bool:=fun i j=>decide (i < j)
abbrev pLe:Int->Int->Bool:=fun i j=>decide (i <= j)
abbrev pGt:Int->Int->Bool:=fun i j=>decide (j < i)
abbrev pGe:Int->Int->Bool:=fun i j=>decide (j <= i)
abbrev qLt:List Nat->List Nat->Bool:=fun i j=>decide (i < j)
abbrev qLe:List Nat->List Nat->Bool:=fun i j=>!decide (j < i)
abbrev qGt:List Nat->List Nat->Bool:=fun i j=>decide (j < i)
abbrev qGe:List Nat->List Nat->Bool:=fun i j=>!decide (i < j)
theorem wV:OpR X (compareOp .Lt) (F9 pLt qLt):=RY.or JT
theorem Ab:OpR X (compareOp .LtE) (F9 pLe qLe):=RZ.or J2
theorem Ac:OpR X (compareOp .Gt) (F9 pGt qGt):=R0.or J3
theorem QH:OpR X (compareOp .GtE) (F9 pGe qGe):=R1.or J4
def gEq(n:Bool):List D->Option W
 | [x,y]=>if SeqAt.shaped x=true /\ SeqAt.shaped y=true then some (.d (.bool (PyData.eqv x y != n))) else none
 | _=>none
theorem N4:Atom K (r2 (LJ K)) (gEq false):=by
 intro Fz H vs xs w Q l h e k
 unfold gEq at e
 split at e
 . obtain ⟨⟨c1,c2⟩,rfl⟩:=bc e
   obtain ⟨v,u,rfl,h1,h2⟩:=cH h
   refine ⟨_,_,h1.dp (SeqAt.canLay_of_shaped c1),h2.dp (SeqAt.canLay_of_shaped c2),c1,c2,?_⟩
   have:=k _ _ _ (.val l (.bl (PyData.eqv _ _ != false)))
   simpa using this
 . cases e
theorem IE:Atom K (r2 (Sg K)) (gEq true):=by
 intro Fz H vs xs w Q l h e k
 unfold gEq at e
 split at e
 . obtain ⟨⟨c1,c2⟩,rfl⟩:=bc e
   obtain ⟨v,u,rfl,h1,h2⟩:=cH h
   refine ⟨_,_,h1.dp (SeqAt.canLay_of_shaped c1),h2.dp (SeqAt.canLay_of_shaped c2),c1,c2,?_⟩
   have:=k _ _ _ (.val l (.bl (PyData.eqv _ _ != true)))
   simpa using this
 . cases e
def Sx(n:Bool):List D->Option W
 | [.none,.none]=>some (.d (.bool (!n)))
 | [_,.none]=>some (.d (.bool n))
 | _=>none
def QI(K:PySem.W.Frag)(n:Bool):R2:=fun x y H Q=>∃ d xs,Dp K H x d /\ (Dp K H y (.list xs) \/ Dp K H y (.tuple xs)) /\ SeqAt.shaped d=true /\ PyData.canLayAll0 xs=true /\ Q (.bl ((xs.any fun z=>PyData.eqv z d) != n)) H
theorem QJ(hu:X.A.units + 65 < cLine):OpR X (compareOp .In) (QI X.K false):=by
 intro pins s σ H x y v u Q I rx ry h
 obtain ⟨d,xs,hd,he,sd,se,q⟩:=h
 obtain ⟨as,r1⟩:=Dp.reads I d x v hd rx
 have q':EP X pins σ Q (.bool (xs.any fun z=>PyData.eqv z d)) s:=⟨.bl _,H,I,rfl,by simpa using q⟩
 rcases he with he | he
 . obtain ⟨bs,r2⟩:=Dp.reads I _ y u he ry
   exact SeqAt.in_list_reads r2 r1 se (SeqAt.canLay_of_shaped sd) (room_in_shaped sd hu) q'
 . obtain ⟨bs,r2⟩:=Dp.reads I _ y u he ry
   exact SeqAt.in_tuple_reads r2 r1 se (SeqAt.canLay_of_shaped sd) (room_in_shaped sd hu) q'
theorem J9(hu:X.A.units + 65 < cLine):OpR X (compareOp .NotIn) (QI X.K true):=by
 intro pins s σ H x y v u Q I rx ry h
 obtain ⟨d,xs,hd,he,sd,se,q⟩:=h
 obtain ⟨as,r1⟩:=Dp.reads I d x v hd rx
 have q':EP X pins σ Q (.bool (!(xs.any fun z=>PyData.eqv z d))) s:=⟨.bl _,H,I,rfl,by simpa using q⟩
 rcases he with he | he
 . obtain ⟨bs,r2⟩:=Dp.reads I _ y u he ry
   exact SeqAt.notIn_list_reads r2 r1 se (SeqAt.canLay_of_shaped sd) (room_in_shaped sd hu) q'
 . obtain ⟨bs,r2⟩:=Dp.reads I _ y u he ry
   exact SeqAt.notIn_tuple_reads r2 r1 se (SeqAt.canLay_of_shaped sd) (room_in_shaped sd hu) q'
def gIn(n:Bool):List D->Option W
 | [x,.list ys]=>if SeqAt.shaped x=true /\ PyData.canLayAll0 ys=true then some (.d (.bool ((ys.any fun z=>PyData.eqv z x) != n))) else none
 | [x,.tuple ys]=>if SeqAt.shaped x=true /\ PyData.canLayAll0 ys=true then some (.d (.bool ((ys.any fun z=>PyData.eqv z x) != n))) else none
 | _=>none
theorem IF{n:Bool}:Atom K (r2 (QI K n)) (gIn n):=by
 intro Fz H vs xs w Q l h e k
 unfold gIn at e
 split at e
 . obtain ⟨⟨c1,c2⟩,rfl⟩:=bc e
   obtain ⟨v,u,rfl,h1,h2⟩:=cH h
   exact ⟨_,_,h1.dp (SeqAt.canLay_of_shaped c1),.inl (h2.dp c2),c1,c2,k _ _ _ (.val l (.bl _))⟩
 . obtain ⟨⟨c1,c2⟩,rfl⟩:=bc e
   obtain ⟨v,u,rfl,h1,h2⟩:=cH h
   exact ⟨_,_,h1.dp (SeqAt.canLay_of_shaped c1),.inr (h2.dp c2),c1,c2,k _ _ _ (.val l (.bl _))⟩
 . cases e
end
end
section
section
variable {K:PySem.W.Frag} {Fz Fz' Fz1 Fz2:Addr->Prop} {ρ ρ' ρ1 ρ2:Rho} {σ:St} {H H' H1 H2:Hp} {w:W} {v:V} {ws ws1:List W} {vs vs1:List V}
theorem aP.seq(a:aP K Fz Fz1 ρ ρ1 σ H H1 ws1 vs1)(b:aP K Fz1 Fz2 ρ1 ρ2 σ H1 H2 ws vs):aP K Fz Fz2 ρ ρ2 σ H H2 ws vs :=
 ⟨b.rel,b.rep,fun p hp=>⟨a.step.live p (b.fresh p hp).1,(b.fresh p hp).2⟩,b.nd,a.step.trans b.step fun q z=>.inl (a.own q z),fun p z=>a.own p (b.own p z),a.kept.trans b.kept⟩
theorem aP.drop(a:aP K Fz Fz1 ρ ρ1 σ H H1 ws vs):aP K Fz Fz1 ρ ρ1 σ H H1 [] []:=a.seq (.nil a.rel)
end
def ag(i:Nat):Fe:=fun ρ=>match ρ[i]? with
 | some (some (.d x))=>some (.d x,ρ)
 | some (some (.own _))=>some (.sl i,ρ)
 | _=>none
theorem Ka{i:Nat}{ρ ρ':Rho}{w:W}(h:ag i ρ=some (w,ρ')):ρ'=ρ /\ ((∃ x,ρ[i]? = some (some (.d x)) /\ w = .d x) \/ ∃ xs,ρ[i]? = some (some (.own xs)) /\ w = .sl i):=by
 unfold ag at h
 split at h
 . rename_i x e
   cases h;exact ⟨rfl,.inl ⟨x,e,rfl⟩⟩
 . rename_i x e
   cases h;exact ⟨rfl,.inr ⟨x,e,rfl⟩⟩
 . cases h
section
variable {X:Cx}
theorem QK{i:Nat}{x:Str}{pos:Pos}(hN:X.N[i]? = some x)(hv:Vis X.env.scope x) (hd:(x == ("__debug__" : Str))=false:=by decide) (hcd:(x == ("__classdict__" : Str))=false:=by decide):DE X (.Name x pos) (ag i) :=
 ⟨PE.imp (PR hN hv hd hcd) fun σ H Q h=>by
  obtain ⟨Fz,ρ,w,ρ',r,e,q⟩:=h
  obtain ⟨rfl,⟨x,e1,rfl⟩ | ⟨xs,e1,rfl⟩⟩:=Ka e
  . obtain ⟨v,hv,hr⟩:=r.val i _ e1
    exact ⟨v,hv,q v H Fz (.plain r hr)⟩
  . obtain ⟨v,hv,hr⟩:=r.val i _ e1
    exact ⟨v,hv,q v H Fz ⟨r,.cons hv .nil,fun p hp=>by rw [jj] at hp;exact absurd hp (by simp [frs]),dQ,.refl r.fzl,fun _ z=>z,Kp.refl⟩⟩⟩
def fC(x:D):Fe:=fun ρ=>some (.d x,ρ)
theorem Ad{e:Expr}{v:V}{x:D}(h:PE X e (tC v))(hd:∀ (Fz:Addr->Prop) (H:Hp),Dr X.K Fz H v x):DE X e (fC x) :=
 ⟨PE.imp h fun σ H Q h=>by
  obtain ⟨Fz,ρ,w,ρ',r,e,q⟩:=h
  cases e
  exact q v H Fz (.plain r (hd _ _))⟩
theorem aq{i:Int}{j:Nat}{pos:Pos}:DE X (.Constant (.int i) j pos) (fC (.int i)):=Ad PU fun _ _=>.int i
theorem lj{b:Bool}{j:Nat}{pos:Pos}:DE X (.Constant (.bool b) j pos) (fC (.bool b)):=Ad RG fun _ _=>.bl b
theorem Ec{j:Nat}{pos:Pos}:DE X (.Constant .none j pos) (fC .none):=Ad PV fun _ _=>.non
theorem gB{x:Str}{j:Nat}{pos:Pos}:DE X (.Constant (.str x) j pos) (fC (.str x)):=Ad Ll fun _ _=>.str x
theorem IG{x:Str}{i:Int}{t:Tok}{pos:Pos}(hg:Gl X x)(hm:X.mg x=some (.int i t)) (hd:(x == ("__debug__" : Str))=false:=by decide):DE X (.Name x pos) (fC (.int i)):=Ad (Nn (v:=.int i) hg hm ⟨t,rfl⟩ hd) fun _ _=>.int i
abbrev fe2(g:List D->Option W)(fa fb:Fe):Fe:=aI g (aa fa (aa fb aj))
abbrev fe1(g:List D->Option W)(fa:Fe):Fe:=aI g (aa fa aj)
variable {a b c:Expr} {fa fb fc:Fe} {pos:Pos} {g g':List D->Option W} {r r':R2}
theorem bL{op:Operator}(ho:OpR X (binaryOp op) r)(at_:Atom X.K (r2 r) g)(ha:DE X a fa)(hb:DE X b fb):DE X (.BinOp a op b pos) (fe2 g fa fb) :=
 ⟨PE.imp (RU ho ha.ok hb.ok) fun _ _ _ h=>vB at_ h⟩
theorem TX(ha:DE X a fa):DE X (.UnaryOp .USub a pos) (fe1 (fun | [.int i]=>some (.d (.int (-i))) | _=>none) fa) :=
 ⟨PE.imp (O3 Lu ha.ok) fun σ H Q h=>F5 (r:=rU fun i=>.int (-i)) (fun Fz H vs xs w Q l h e k=>by
  split at e
  . cases e
    obtain ⟨v,rfl,h1⟩:=dh h
    rw [h1.int]
    exact ⟨_,rfl,k _ _ _ (.val l (.int _))⟩
  . cases e) h⟩
theorem wW{op:CmpOp}(ho:OpR X (compareOp op) r)(at_:Atom X.K (r2 r) g)(ha:DE X a fa)(hb:DE X b fb)(hm:behindInMarks op b=false):DE X (.Compare a [op] [b] pos) (fe2 g fa fb) :=
 ⟨PE.imp (NA ho ha.ok hb.ok hm) fun _ _ _ h=>vB at_ h⟩
def ftB(f:Fe):Ft:=fun ρ=>(f ρ).bind fun p=>match p.1 with | .d (.bool b)=>some (b,p.2) | _=>none
theorem Ga{f:Fe}{ρ ρ':Rho}{b:Bool}(h:ftB f ρ=some (b,ρ')):f ρ=some (.d (.bool b),ρ'):=by
 unfold ftB at h
 cases e:f ρ with
 | none=>rw [e] at h;cases h
 | some p =>
  obtain ⟨w,ρ1⟩:=p
  simp only [e,Option.bind_some] at h
  split at h
  . cases h;rfl
  . cases h
theorem N5{K:PySem.W.Frag}{f:Fe}{σ:St}{H:Hp}{Q:Bool->Hp->Prop}(h:tT K (ftB f) σ H Q):tE K f σ H fun x H'=>∃ k,x = .bl k /\ Q k H':=by
 obtain ⟨Fz,ρ,b,ρ',r,e,q⟩:=h
 refine ⟨Fz,ρ,_,ρ',r,Ga e,fun v H' Fz' p=>?_⟩
 have hr:Dr K Fz' H' v (.bool b):=p.rep1
 cases hr
 exact ⟨b,rfl,q H' Fz' p.drop⟩
theorem eG{op:CmpOp}(ho:OpR X (compareOp op) r)(at_:Atom X.K (r2 r) g)(ha:DE X a fa)(hb:DE X b fb)(hm:behindInMarks op b=false):DT X (.Compare a [op] [b] pos) (ftB (fe2 g fa fb)) :=
 ⟨PT.imp (NB ho ha.ok hb.ok hm) fun _ _ _ h=>vB at_ (N5 h)⟩
def my(g g':List D->Option W)(fa fb fc:Fe):Fe:=fun ρ=>(aa fa (aa fb aj) ρ).bind fun p=>(cu p.2 p.1).bind fun xs=>(g xs).bind fun
 | .d (.bool true)=>(fc p.2).bind fun q=>match p.1 with
  | [_,y]=>(cu q.2 [y,q.1]).bind fun ys=>(g' ys).bind fun w=>some (w,q.2)
  | _=>none
 | .d (.bool false)=>some (.d (.bool false),p.2)
 | _=>none
theorem LW{K:PySem.W.Frag}(at_:Atom K (r2 r) g)(at':Atom K (r2 r') g'){σ:St}{H:Hp}{Q:VK}(h:tE K (my g g' fa fb fc) σ H Q):Lv r r' (tE K fa) (tE K fb) (tE K fc) σ H Q:=by
 obtain ⟨Fz,ρ,w,ρ',rl,e,q⟩:=h
 unfold my at e
 cases e1:aa fa (aa fb aj) ρ with
 | none=>rw [e1] at e;cases e
 | some p =>
  obtain ⟨ws,ρ2⟩:=p
  simp only [e1,Option.bind_some] at e
  obtain ⟨w1,ρ1,us,g1,g2,rfl⟩:=bP e1
  obtain ⟨w2,ρ2',us2,g3,g4,rfl⟩:=bP g2
  cases g4
  cases e2:cu ρ2 [w1,w2] with
  | none=>rw [e2] at e;cases e
  | some xs =>
   simp only [e2,Option.bind_some] at e
   refine ⟨Fz,ρ,w1,ρ1,rl,g1,fun v1 H1 Fz1 p1=>⟨Fz1,ρ1,w2,ρ2,p1.rel,g3,fun v2 H2 Fz2 p2=>?_⟩⟩
   have p12:=p1.cons p2
   cases e3:g xs with
   | none=>rw [e3] at e;cases e
   | some w3 =>
    simp only [e3,Option.bind_some] at e
    refine at_ Fz2 H2 [v1,v2] xs w3 _ p12.rel.fzl (p12.rel.kO p12.rep e2) e3 fun v3 H3 Fz3 m=>?_
    have p3:=p12.made m
    cases w3 with
    | own _=>cases e
    | sl _=>cases e
    | ob _ _ _=>cases e
    | d x =>
     cases x with
     | bool k =>
      have hk:Dr K Fz3 H3 v3 (.bool k):=p3.rep1
      cases hk
      refine ⟨k,rfl,?_⟩
      cases k with
      | false =>
       simp only at e
       cases e
       rw [if_neg (by decide)]
       exact q _ H3 Fz3 p3
      | true =>
       simp only at e
       rw [if_pos rfl]
       cases e4:fc ρ2 with
       | none=>rw [e4] at e;cases e
       | some z =>
        obtain ⟨w4,ρ4⟩:=z
        simp only [e4,Option.bind_some] at e
        cases e5:cu ρ4 [w2,w4] with
        | none=>rw [e5] at e;cases e
        | some ys =>
         simp only [e5,Option.bind_some] at e
         cases e6:g' ys with
         | none=>rw [e6] at e;cases e
         | some w5 =>
          simp only [e6,Option.bind_some] at e
          cases e
          refine ⟨Fz3,ρ2,w4,ρ',p3.rel,e4,fun v4 H4 Fz4 p4=>?_⟩
          have p2':aP K Fz1 Fz3 ρ1 ρ2 σ H1 H3 [w2] [v2]:=by
           refine ⟨p3.rel,.cons (p2.rel.rep (m.step (Ow:=Own ρ2 σ)) p2.rep1 fun xs p z1 z2=>?_) .nil,fun p hp=>?_,dQ,p2.step.trans (m.step (Ow:=Own ρ2 σ)) fun q z=>.inl (p2.own q z),p2.own,p2.kept⟩
           . subst z1;subst z2
             exact (p2.fresh p (by rw [cT];exact List.mem_cons_self)).2.2
           . obtain ⟨y1,y2,y3⟩:=p2.fresh p hp
             refine ⟨y1,fun z=>?_,y3⟩
             rcases m.new p z with z | z
             . exact y2 z
             . cases w2 with
               | d _=>rw [jn] at hp;exact absurd hp (by simp [frs])
               | sl _=>rw [jj] at hp;exact absurd hp (by simp [frs])
               | ob _ _ _=>rw [pT] at hp;exact absurd hp (by simp [frs])
               | own ys =>
                obtain ⟨p',us,e1,e2,_⟩:=p2.rep1
                subst e1
                rw [cT] at hp
                have:p=p':=by simpa [frs] using hp
                subst this
                rw [z] at e2;cases e2
          have p24:=p2'.cons p4
          have tot:=(p1.seq p24)
          exact at' Fz4 H4 [v2,v4] ys w Q tot.rel.fzl (tot.rel.kO tot.rep e5) e6 fun v H5 Fz5 m5=>q v H5 Fz5 (tot.made m5)
     | _=>cases e
theorem Ae {op op' : CmpOp} (ho : OpR X (compareOp op) r) (at_ : Atom X.K (r2 r) g) (ho' : OpR X (compareOp op') r') (at' : Atom X.K (r2 r') g') (ha : DE X a fa) (hb : DE X b fb) (hc : DE X c fc)
    (hm:lastMarks [op,op'] [b,c] = false:=by with_unfolding_all rfl):DE X (.Compare a [op,op'] [b,c] pos) (my g g' fa fb fc) :=
 ⟨PE.imp (Lw ho ho' ha.ok hb.ok hc.ok hm) fun _ _ _ h=>LW at_ at' h⟩
def tru:D->Option Bool
 | .none=>some false
 | .bool b=>some b
 | .int i=>some (i != 0)
 | .str y=>if y.length <= 16777216 then some ((y.length:Int) != 0) else none
 | .list xs=>some (!xs.isEmpty)
 | .tuple xs=>some (!xs.isEmpty)
 | .dict _=>none
def ftV(f:Fe):Ft:=fun ρ=>(f ρ).bind fun p=>(rdW p.2 p.1).bind fun x=>(tru x).bind fun b=>some (b,p.2)
theorem Af{K:PySem.W.Frag}{Fz:Addr->Prop}{H:Hp}{vs:List V}{xs:List D}(h:aD K Fz H vs xs):xs.isEmpty=vs.isEmpty:=by
 cases h <;> rfl
theorem QL{K:PySem.W.Frag}{Fz:Addr->Prop}{H:Hp}{v:V}{x:D}{b:Bool}(h:Rdg K Fz H v x)(e:tru x=some b):Qd K v H b:=by
 cases x with
 | none=>cases e;rw [h.non];exact rfl
 | bool _=>cases e;rw [h.bool];exact rfl
 | int _=>cases e;rw [h.int];exact rfl
 | str y =>
  obtain ⟨hc,rfl⟩:=bc e
  rw [h.str]
  exact ⟨by rw [sizeLine_eq];exact hc,rfl⟩
 | list xs =>
  cases e
  obtain ⟨a,us,rfl,hs,hd⟩:=h.lst
  exact .inl ⟨us,SqL.of hs,by rw [Af hd]⟩
 | tuple xs =>
  cases e
  obtain ⟨a,us,rfl,hs,hd⟩:=h.tup
  exact .inr (.inl ⟨us,hs,by rw [Af hd]⟩)
 | dict _=>cases e
theorem fT(ha:DE X a fa)(he:∀ whole,isTrue a X.env whole=(do let v <- whole;standAt a.pos;holding [v] (truthy v)):=by intro _;rfl):DT X a (ftV fa) :=
 ⟨PT.imp (Lx ha.ok he) fun σ H Q h=>by
  obtain ⟨Fz,ρ,b,ρ',r,e,q⟩:=h
  unfold ftV at e
  cases e1:fa ρ with
  | none=>rw [e1] at e;cases e
  | some p =>
   obtain ⟨w,ρ1⟩:=p
   simp only [e1,Option.bind_some] at e
   cases e2:rdW ρ1 w with
   | none=>rw [e2] at e;cases e
   | some x =>
    simp only [e2,Option.bind_some] at e
    cases e3:tru x with
    | none=>rw [e3] at e;cases e
    | some b' =>
     simp only [e3,Option.bind_some] at e
     cases e
     exact ⟨Fz,ρ,w,ρ',r,e1,fun v H' Fz' p=>⟨b,QL (p.rel.rdg p.rep1 e2) e3,q H' Fz' p.drop⟩⟩⟩
def rR(f g:Ft):Ft:=fun ρ=>(f ρ).bind fun p=>if p.1=true then g p.2 else some (false,p.2)
def Ht(f g:Ft):Ft:=fun ρ=>(f ρ).bind fun p=>if p.1=true then some (true,p.2) else g p.2
def ig(f:Ft):Ft:=fun ρ=>(f ρ).bind fun p=>some (!p.1,p.2)
variable {ft gt:Ft} {rest:List Expr}
structure DW (X:Cx) (e:Expr) (f:Ft):Prop where
 ok:PW X e (tT X.K f)
theorem PW.imp{e:Expr}{t t':TT}(h:PW X e t)(i:∀ σ H Q,t' σ H Q->t σ H Q):PW X e t':=fun wh pins s σ H Q I q=>h wh pins s σ H Q I (i σ H Q q)
theorem QM{K:PySem.W.Frag}{σ:St}{H:Hp}{Q:Bool->Hp->Prop}(h:tT K (rR ft gt) σ H Q):RH (tT K ft) (tT K gt) σ H Q:=by
 obtain ⟨Fz,ρ,b,ρ',r,e,q⟩:=h
 unfold rR at e
 cases e1:ft ρ with
 | none=>rw [e1] at e;cases e
 | some p =>
  obtain ⟨k,ρ1⟩:=p
  simp only [e1,Option.bind_some] at e
  refine ⟨Fz,ρ,k,ρ1,r,e1,fun H1 Fz1 p1=>?_⟩
  cases k with
  | true =>
   rw [if_pos rfl] at e ⊢
   exact ⟨Fz1,ρ1,b,ρ',p1.rel,e,fun H2 Fz2 p2=>q H2 Fz2 (p1.seq p2)⟩
  | false =>
   rw [if_neg (by decide)] at e ⊢
   cases e
   exact q H1 Fz1 p1
theorem Sy{K:PySem.W.Frag}{σ:St}{H:Hp}{Q:Bool->Hp->Prop}(h:tT K (Ht ft gt) σ H Q):tOr (tT K ft) (tT K gt) σ H Q:=by
 obtain ⟨Fz,ρ,b,ρ',r,e,q⟩:=h
 unfold Ht at e
 cases e1:ft ρ with
 | none=>rw [e1] at e;cases e
 | some p =>
  obtain ⟨k,ρ1⟩:=p
  simp only [e1,Option.bind_some] at e
  refine ⟨Fz,ρ,k,ρ1,r,e1,fun H1 Fz1 p1=>?_⟩
  cases k with
  | false =>
   rw [if_neg (by decide)] at e ⊢
   exact ⟨Fz1,ρ1,b,ρ',p1.rel,e,fun H2 Fz2 p2=>q H2 Fz2 (p1.seq p2)⟩
  | true =>
   rw [if_pos rfl] at e ⊢
   cases e
   exact q H1 Fz1 p1
theorem sk(ha:DT X a ft):DW X (.BoolOp .And [a] pos) ft:=⟨pw_and1 ha.ok⟩
theorem LX(ha:DT X a ft):DW X (.BoolOp .Or [a] pos) ft:=⟨pw_or1 ha.ok⟩
theorem uI(ha:DT X a ft)(hb:DW X (.BoolOp .And (b :: rest) pos) gt):DW X (.BoolOp .And (a :: b :: rest) pos) (rR ft gt):=⟨PW.imp (pw_and ha.ok hb.ok) fun _ _ _ h=>QM h⟩
theorem LY(ha:DT X a ft)(hb:DW X (.BoolOp .Or (b :: rest) pos) gt):DW X (.BoolOp .Or (a :: b :: rest) pos) (Ht ft gt):=⟨PW.imp (pw_or ha.ok hb.ok) fun _ _ _ h=>Sy h⟩
theorem Gb{e:Expr}(h:DW X e ft):DT X e ft:=⟨PW.pt h.ok⟩
theorem jD(ha:DT X a ft):DT X (.UnaryOp .Not a pos) (ig ft) :=
 ⟨PT.imp (PX ha.ok) fun σ H Q h=>by
  obtain ⟨Fz,ρ,b,ρ',r,e,q⟩:=h
  unfold ig at e
  cases e1:ft ρ with
  | none=>rw [e1] at e;cases e
  | some p =>
   obtain ⟨k,ρ1⟩:=p
   simp only [e1,Option.bind_some] at e
   cases e
   exact ⟨Fz,ρ,k,ρ',r,e1,fun H1 Fz1 p1=>q H1 Fz1 p1⟩⟩
def vE(fa fb:Fe):Fe:=fun ρ=>(ftB fa ρ).bind fun p=>if p.1=true then fb p.2 else some (.d (.bool false),p.2)
def LZ(fa fb:Fe):Fe:=fun ρ=>(ftB fa ρ).bind fun p=>if p.1=true then some (.d (.bool true),p.2) else fb p.2
def Gd(fa:Fe):Fe:=fun ρ=>(ftB fa ρ).bind fun p=>some (.d (.bool (!p.1)),p.2)
def N6(ft:Ft)(fa fb:Fe):Fe:=fun ρ=>(ft ρ).bind fun p=>if p.1=true then fa p.2 else fb p.2
theorem Hu{K:PySem.W.Frag}{σ:St}{H:Hp}{Q:VK}{k:Bool->Fe}(h:tE K (fun ρ=>(ftB fa ρ).bind fun p=>k p.1 p.2) σ H Q):tE K fa σ H fun x H1=>∃ c,x = .bl c /\ tE K (k c) σ H1 Q:=by
 obtain ⟨Fz,ρ,w,ρ',r,e,q⟩:=h
 dsimp only at e
 cases e1:ftB fa ρ with
 | none=>rw [e1] at e;cases e
 | some p =>
  obtain ⟨c,ρ1⟩:=p
  simp only [e1,Option.bind_some] at e
  refine ⟨Fz,ρ,_,ρ1,r,Ga e1,fun v H1 Fz1 p1=>?_⟩
  have hr:Dr K Fz1 H1 v (.bool c):=p1.rep1
  cases hr
  exact ⟨c,rfl,Fz1,ρ1,w,ρ',p1.rel,e,fun v2 H2 Fz2 p2=>q v2 H2 Fz2 (p1.seq p2)⟩
theorem Hv{K:PySem.W.Frag}{σ:St}{H:Hp}{Q:VK}{v:V}{x:D}(h:tE K (fC x) σ H Q)(hd:∀ (Fz:Addr->Prop) (H:Hp),Dr K Fz H v x):Q v H:=by
 obtain ⟨Fz,ρ,w,ρ',r,e,q⟩:=h
 cases e
 exact q v H Fz (.plain r (hd _ _))
theorem so{K:PySem.W.Frag}{σ:St}{H:Hp}{Q Q':VK}{f:Fe}(h:tE K f σ H Q)(i:∀ v H,Q v H->Q' v H):tE K f σ H Q':=by
 obtain ⟨Fz,ρ,w,ρ',r,e,q⟩:=h
 exact ⟨Fz,ρ,w,ρ',r,e,fun v H' Fz' p=>i _ _ (q v H' Fz' p)⟩
theorem Ag{op:BoolOp}(h:DE X a fa):DE X (.BoolOp op [a] pos) fa:=⟨PY h.ok⟩
theorem Ah(ha:DE X a fa)(hb:DE X (.BoolOp .And (b :: rest) pos) fb):DE X (.BoolOp .And (a :: b :: rest) pos) (vE fa fb) :=
 ⟨PE.imp (PZ ha.ok hb.ok) fun σ H Q h=>by
  have e:vE fa fb=fun ρ=>(ftB fa ρ).bind fun p=>(if p.1=true then fb else fC (.bool false)) p.2:=by
   funext ρ;unfold vE;congr;funext p;split <;> rfl
  rw [e] at h
  refine so (Hu (k:=fun c=>if c=true then fb else fC (.bool false)) h) fun v H1 z=>?_
  obtain ⟨c,e,z⟩:=z
  refine ⟨c,e,?_⟩
  cases c with
  | true=>rw [if_pos rfl] at z ⊢;exact z
  | false=>rw [if_neg (by decide)] at z ⊢;exact Hv z fun _ _=>.bl false⟩
theorem Sz(ha:DE X a fa)(hb:DE X (.BoolOp .Or (b :: rest) pos) fb):DE X (.BoolOp .Or (a :: b :: rest) pos) (LZ fa fb) :=
 ⟨PE.imp (RK ha.ok hb.ok) fun σ H Q h=>by
  have e:LZ fa fb=fun ρ=>(ftB fa ρ).bind fun p=>(if p.1=true then fC (.bool true) else fb) p.2:=by
   funext ρ;unfold LZ;congr;funext p;split <;> rfl
  rw [e] at h
  refine so (Hu (k:=fun c=>if c=true then fC (.bool true) else fb) h) fun v H1 z=>?_
  obtain ⟨c,e,z⟩:=z
  refine ⟨c,e,?_⟩
  cases c with
  | true=>rw [if_pos rfl] at z ⊢;exact Hv z fun _ _=>.bl true
  | false=>rw [if_neg (by decide)] at z ⊢;exact z⟩
theorem L0(ha:DE X a fa):DE X (.UnaryOp .Not a pos) (Gd fa) :=
 ⟨PE.imp (P0 ha.ok) fun σ H Q h=>so (Hu (k:=fun c=>fC (.bool (!c))) h) fun v H1 ⟨c,e,z⟩=>⟨c,e,Hv z fun _ _=>.bl (!c)⟩⟩
theorem SA(hc:DT X c ft)(ha:DE X a fa)(hb:DE X b fb):DE X (.IfExp c a b pos) (N6 ft fa fb) :=
 ⟨PE.imp (Lm hc.ok ha.ok hb.ok) fun σ H Q h=>by
  obtain ⟨Fz,ρ,w,ρ',r,e,q⟩:=h
  unfold N6 at e
  cases e1:ft ρ with
  | none=>rw [e1] at e;cases e
  | some p =>
   obtain ⟨k,ρ1⟩:=p
   simp only [e1,Option.bind_some] at e
   refine ⟨Fz,ρ,k,ρ1,r,e1,fun H1 Fz1 p1=>?_⟩
   cases k with
   | true =>
    rw [if_pos rfl] at e ⊢
    exact ⟨Fz1,ρ1,w,ρ',p1.rel,e,fun v H2 Fz2 p2=>q v H2 Fz2 (p1.seq p2)⟩
   | false =>
    rw [if_neg (by decide)] at e ⊢
    exact ⟨Fz1,ρ1,w,ρ',p1.rel,e,fun v H2 Fz2 p2=>q v H2 Fz2 (p1.seq p2)⟩⟩
end
end
section
def f7(ρ:Rho):W->Option (D × Rho)
 | .d x=>some (x,ρ)
 | .own (.l xs)=>some (.list xs,ρ)
 | .sl i=>match ρ[i]? with
  | some (some (.d x))=>some (x,ρ)
  | some (some (.own (.l xs)))=>some (.list xs,ρ.set i (some (.d (.list xs))))
  | _=>none
 | .own (.k _ _)=>none
 | .ob _ _ _=>none
def bw(ρ:Rho):List W->Option (List D × Rho)
 | []=>some ([],ρ)
 | w :: ws=>(f7 ρ w).bind fun p=>(bw p.2 ws).bind fun q=>some (p.1 :: q.1,q.2)
section
variable {K:PySem.W.Frag} {Fz Fz' Fz1 Fz2:Addr->Prop} {ρ ρ' ρ1 ρ2:Rho} {σ:St} {H H' H1 H2:Hp} {w:W} {v:V} {ws ws1:List W} {vs vs1:List V}
theorem N9{i:Nat}{x:D}(h:f7 ρ (.sl i)=some (x,ρ')):(ρ[i]? = some (some (.d x)) /\ ρ'=ρ) \/ ∃ xs,ρ[i]? = some (some (.fr xs)) /\ x = .list xs /\ ρ'=ρ.set i (some (.d (.list xs))):=by
 unfold f7 at h
 simp only at h
 split at h
 . rename_i y e
   cases h;exact .inl ⟨e,rfl⟩
 . rename_i y e
   cases h;exact .inr ⟨y,e,rfl,rfl⟩
 . cases h
theorem Rel.frz(r:Rel K Fz ρ σ H){p:Addr}(ni:∀ C dx fs,H p ≠ some (.ins C dx fs)):∀ (i:Nat) (c:Str) (g:Nat) (ns:List Str),ρ[i]? = some (some (W.ob c g ns))->ObT K (fun q=>Fz q \/ q=p) ρ σ H i c g ns:=fun i c g ns e=>by
 obtain ⟨h1,h2,q,C,dx,fs,h3,h4,h5,h6,h7,h8⟩:=r.obj i c g ns e
 exact ⟨h1,h2,q,C,dx,fs,h3,h4,h5,fun z=>z.elim h6 fun z=>ni C dx fs (z ▸ h5),h7,h8⟩
theorem ObT.upd{i:Nat}{c:Str}{g:Nat}{ns:List Str}(o:ObT K Fz ρ σ H i c g ns){p:Addr}{u:HO}(ni:∀ C dx fs,H p ≠ some (.ins C dx fs)):ObT K Fz ρ σ (upd H p u) i c g ns:=by
 obtain ⟨h1,h2,q,C,dx,fs,h3,h4,h5,h6,h7,h8⟩:=o
 exact ⟨h1,h2,q,C,dx,fs,h3,h4,by rw [aL (show q ≠ p from fun z=>ni C dx fs (by rw [<- z];exact h5))];exact h5,h6,h7,h8⟩
theorem ObT.un{i:Nat}{c:Str}{g:Nat}{ns:List Str}(o:ObT K Fz ρ σ H i c g ns)(un:∀ (k:Nat) (w:W),ρ'[k]? = some (some w)->∃ w',ρ[k]? = some (some w')):ObT K Fz ρ' σ H i c g ns:=by
 obtain ⟨h1,h2,q,C,dx,fs,h3,h4,h5,h6,h7,h8⟩:=o
 refine ⟨h1,h2,q,C,dx,fs,h3,h4,h5,h6,h7,fun k f v e1 w e2=>?_⟩
 obtain ⟨w',e3⟩:=un _ _ e2
 exact h8 k f v e1 w' e3
theorem Rel.more(r:Rel K Fz ρ σ H){p:Addr}(hp:H p ≠ none)(no:¬ Own ρ σ p)(ni:∀ C dx fs,H p ≠ some (.ins C dx fs)):Rel K (fun q=>Fz q \/ q=p) ρ σ H:=by
 refine ⟨r.len,fun i w e=>?_,r.apart,fun q o z=>?_,fun q z=>?_,r.frz ni,r.oba⟩
 . obtain ⟨v,hv,hr⟩:=r.val i w e
   refine ⟨v,hv,?_⟩
   cases w with
   | d x=>exact Dr.keep (fun q=>.inl) (fun _ _ _ e=>e) _ _ hr
   | own xs =>
    obtain ⟨a,us,e1,e2,e3⟩:=hr
    exact ⟨a,us,e1,e2,aD.keep (fun q=>.inl) (fun _ _ _ e=>e) _ _ e3⟩
   | sl _=>exact hr
   | ob _ _ _=>exact hr
 . rcases z with z | rfl
   . exact r.gD q o z
   . exact no o
 . rcases z with z | rfl
   . exact r.fzl q z
   . exact hp
theorem bN{α:Type}{l:List α}{i:Nat}{a b:α}(h:l[i]? = some b):(l.set i a)[i]? = some a:=by
 have:i < l.length:=(List.getElem?_eq_some_iff.mp h).1
 rw [List.getElem?_set_self this]
theorem IK{i:Nat}{x:Option W}(hx:∀ xs,x ≠ some (.own xs)){p:Addr}(h:Own (ρ.set i x) σ p):Own ρ σ p /\ ∃ j xs,j ≠ i /\ ρ[j]? = some (some (W.own xs)) /\ σ[j]? = some (some (V.ref p)):=by
 obtain ⟨j,xs,e1,e2⟩:=h
 by_cases z:i=j
 . subst z
   by_cases hl:i < ρ.length
   . rw [List.getElem?_set_self hl] at e1
     exact absurd (Option.some.inj e1) (hx xs)
   . rw [List.getElem?_eq_none (by simpa using hl)] at e1;cases e1
 . rw [List.getElem?_set_ne z] at e1
   exact ⟨⟨j,xs,e1,e2⟩,j,xs,fun e=>z e.symm,e1,e2⟩
theorem Rel.freeze (r : Rel K Fz ρ σ H) {i : Nat} {xs : List D} {p : Addr} (e1 : ρ[i]? = some (some (.fr xs))) (e2 : σ[i]? = some (some (V.ref p))) :
    Rel K (fun q=>Fz q \/ q=p) (ρ.set i (some (.d (.list xs)))) σ H /\ Dr K (fun q=>Fz q \/ q=p) H (.ref p) (.list xs):=by
 obtain ⟨v,hv,a,us,h1,h2,h3⟩:=r.val i _ e1
 rw [e2] at hv
 cases hv
 cases h1
 have d3:aD K (fun q=>Fz q \/ q=p) H us xs:=aD.keep (fun q=>.inl) (fun _ _ _ e=>e) _ _ h3
 have hd:Dr K (fun q=>Fz q \/ q=p) H (.ref p) (.list xs):=.lst (.inr rfl) h2 d3
 have obs:∀ {k:Nat} {c:Str} {g:Nat} {ns:List Str},(ρ.set i (some (.d (.list xs))))[k]? = some (some (W.ob c g ns))->ρ[k]? = some (some (W.ob c g ns)):=fun {k c g ns} e=>by
  by_cases z:i=k
  . subst z;rw [bN e1] at e;cases e
  . rw [List.getElem?_set_ne z] at e;exact e
 refine ⟨⟨by rw [List.length_set];exact r.len,fun j w e=>?_,fun j k as bs q f1 f2 f3 f4=>?_,fun q o z=>?_,fun q z=>?_,fun k c g ns e=>(r.frz (p:=p) (by rw [h2];exact fun _ _ _ z=>nomatch z) k c g ns (obs e)).un fun k w e=>?_,fun j k c c' g g' ns ns' q z1 z2=>r.oba j k c c' g g' ns ns' q (obs z1) (obs z2)⟩,hd⟩
 . by_cases z:i=j
   . subst z
     rw [bN e1] at e
     cases e
     exact ⟨_,e2,hd⟩
   . rw [List.getElem?_set_ne z] at e
     obtain ⟨v,hv,hr⟩:=r.val j w e
     refine ⟨v,hv,?_⟩
     cases w with
     | d x=>exact Dr.keep (fun q=>.inl) (fun _ _ _ e=>e) _ _ hr
     | own ys =>
      obtain ⟨b,us',g1,g2,g3⟩:=hr
      exact ⟨b,us',g1,g2,aD.keep (fun q=>.inl) (fun _ _ _ e=>e) _ _ g3⟩
     | sl _=>exact hr
     | ob _ _ _=>exact hr
 . have ne:∀ {j as},(ρ.set i (some (.d (.list xs))))[j]? = some (some (W.own as))->ρ[j]? = some (some (W.own as)):=fun {j as} f=>by
    by_cases z:i=j
    . subst z;rw [bN e1] at f;cases f
    . rw [List.getElem?_set_ne z] at f;exact f
   exact r.apart j k as bs q (ne f1) (ne f2) f3 f4
 . obtain ⟨o1,j,ys,nj,g1,g2⟩:=IK (fun xs e=>by cases e) o
   rcases z with z | rfl
   . exact r.gD q o1 z
   . exact nj (r.apart j i ys (.l xs) q g1 e1 g2 e2)
 . rcases z with z | rfl
   . exact r.fzl q z
   . rw [h2];exact fun e=>nomatch e
 . by_cases z:i=k
   . subst z;exact ⟨_,e1⟩
   . rw [List.getElem?_set_ne z] at e;exact ⟨w,e⟩
theorem L5 : ∀ {ws : List W} {vs : List V} {Fz : Addr -> Prop} {ρ ρ' : Rho} {xs : List D}, Rel K Fz ρ σ H -> Paired (wU K Fz σ H) ws vs -> (∀ p ∈ frs ws vs, ¬ Fz p /\ ¬ Own ρ σ p) -> (frs ws vs).Nodup -> bw ρ ws = some (xs, ρ') ->
    ∃ Fz':Addr->Prop,(∀ q,Fz q->Fz' q) /\ (∀ q,Fz' q->Fz q \/ q ∈ frs ws vs \/ Own ρ σ q) /\ Rel K Fz' ρ' σ H /\ aD K Fz' H vs xs /\ (∀ p,Own ρ' σ p->Own ρ σ p) /\ Kp ρ ρ'
 | [],_,Fz,ρ,_,_,r,.nil,_,_,e=>by
  cases e
  exact ⟨Fz,fun _ z=>z,fun _ z=>.inl z,r,.nil,fun _ z=>z,Kp.refl⟩
 | w :: ws,_,Fz,ρ,ρ',xs,r,.cons (b:=v) (l₂:=vs) h t,hf,nd,e=>by
  unfold bw at e
  cases e1:f7 ρ w with
  | none=>rw [e1] at e;cases e
  | some p =>
   obtain ⟨x,ρ1⟩:=p
   simp only [e1,Option.bind_some] at e
   cases e2:bw ρ1 ws with
   | none=>rw [e2] at e;cases e
   | some q =>
    obtain ⟨ys,ρ2⟩:=q
    simp only [e2,Option.bind_some] at e
    cases e
    have key : ∃ Fz1 : Addr -> Prop, (∀ q, Fz q -> Fz1 q) /\ (∀ q, Fz1 q -> Fz q \/ q ∈ frs (w :: ws) (v :: vs) \/ Own ρ σ q) /\ Rel K Fz1 ρ1 σ H /\ Dr K Fz1 H v x /\ (∀ p, Own ρ1 σ p -> Own ρ σ p) /\ Kp ρ ρ1 /\
        (∀ p ∈ frs ws vs,¬ Fz1 p):=by
     cases w with
     | d y =>
      cases e1
      exact ⟨Fz,fun _ z=>z,fun _ z=>.inl z,r,h,fun _ z=>z,Kp.refl,fun p hp=>(hf p (by rw [jn];exact hp)).1⟩
     | own zs =>
      obtain ⟨p,us,rfl,g1,g2⟩:=h
      cases zs with
      | k _ _=>cases e1
      | l zs =>
      cases e1
      rw [cT] at nd hf
      obtain ⟨n1,n2⟩:=hf p List.mem_cons_self
      refine ⟨fun q=>Fz q \/ q=p,fun _=>.inl,fun q z=>z.imp id fun z=>.inl (by rw [cT,z];exact List.mem_cons_self),r.more (by rw [g1];exact fun e=>nomatch e) n2 (by rw [g1];exact fun _ _ _ e=>nomatch e),.lst (.inr rfl) g1 (aD.keep (fun q=>.inl) (fun _ _ _ e=>e) _ _ g2),fun _ z=>z,Kp.refl,fun q hq z=>?_⟩
      rcases z with z | rfl
      . exact (hf q (List.mem_cons_of_mem _ hq)).1 z
      . exact (List.nodup_cons.mp nd).1 hq
     | ob _ _ _=>exact h.elim
     | sl i =>
      rw [jj] at nd hf
      have h':σ[i]? = some (some v):=h
      rcases N9 e1 with ⟨g,rfl⟩ | ⟨zs,g,rfl,rfl⟩
      . obtain ⟨u,hu,hr⟩:=r.val i _ g
        rw [h'] at hu
        cases hu
        exact ⟨Fz,fun _ z=>z,fun _ z=>.inl z,r,hr,fun _ z=>z,Kp.refl,fun p hp=>(hf p hp).1⟩
      . obtain ⟨u,hu,p,us,g1,g2,g3⟩:=r.val i _ g
        rw [h'] at hu
        cases hu
        subst g1
        obtain ⟨fr,fd⟩:=r.freeze g h'
        refine ⟨fun q=>Fz q \/ q=p,fun _=>.inl,fun q z=>z.imp id fun z=>.inr (by rw [z];exact ⟨i,.l zs,g,h'⟩),fr,fd,fun q o=>(IK (fun xs e=>by cases e) o).1,⟨fun k w e=>?_,fun k c gg ns=>?_,fun k w e=>?_⟩,fun q hq z=>?_⟩
        . by_cases z:i=k
          . subst z;exact ⟨_,bN g,fun _=>rfl⟩
          . exact ⟨w,by rw [List.getElem?_set_ne z];exact e,id⟩
        . by_cases z:i=k
          . subst z;rw [bN g,g];exact ⟨fun z=>(nomatch z),fun z=>(nomatch z)⟩
          . rw [List.getElem?_set_ne z]
        . by_cases z:i=k
          . subst z;exact ⟨_,g⟩
          . rw [List.getElem?_set_ne z] at e;exact ⟨w,e⟩
        . rcases z with z | rfl
          . exact (hf q hq).1 z
          . exact (hf q hq).2 ⟨i,.l zs,g,h'⟩
    obtain ⟨Fz1,k1,k2,k3,k4,k5,k6,k7⟩:=key
    have hf':∀ p ∈ frs ws vs,¬ Fz1 p /\ ¬ Own ρ1 σ p:=fun p hp=>⟨k7 p hp,fun o=>by
     have o':=k5 p o
     cases w with
     | d y=>rw [jn] at hf;exact (hf p hp).2 o'
     | sl i=>rw [jj] at hf;exact (hf p hp).2 o'
     | ob _ _ _=>exact h.elim
     | own zs =>
      obtain ⟨p',us,rfl,_⟩:=h
      rw [cT] at hf;exact (hf p (List.mem_cons_of_mem _ hp)).2 o'⟩
    have nd':(frs ws vs).Nodup:=by
     cases w with
     | d y=>rw [jn] at nd;exact nd
     | sl i=>rw [jj] at nd;exact nd
     | ob _ _ _=>exact h.elim
     | own zs =>
      obtain ⟨p',us,rfl,_⟩:=h
      rw [cT] at nd;exact (List.nodup_cons.mp nd).2
    have sub:∀ q,q ∈ frs ws vs->q ∈ frs (w :: ws) (v :: vs):=fun q hq=>by
     cases w with
     | d y=>rw [jn];exact hq
     | sl i=>rw [jj];exact hq
     | ob _ _ _=>exact h.elim
     | own zs =>
      obtain ⟨p',us,rfl,_⟩:=h
      rw [cT];exact List.mem_cons_of_mem _ hq
    have t':Paired (wU K Fz1 σ H) ws vs:=L2.Paired.Nk t fun a b z=>by
     cases a with
     | d y=>exact Dr.keep k1 (fun _ _ _ e=>e) _ _ z
     | own zs =>
      obtain ⟨p',us,g1,g2,g3⟩:=z
      exact ⟨p',us,g1,g2,aD.keep k1 (fun _ _ _ e=>e) _ _ g3⟩
     | sl i=>exact z
     | ob _ _ _=>exact z
    obtain ⟨Fz2,m1,m2,m3,m4,m5,m6⟩:=L5 k3 t' hf' nd' e2
    refine ⟨Fz2,fun q z=>m1 q (k1 q z),fun q z=>?_,m3,.cons (Dr.keep m1 (fun _ _ _ e=>e) _ _ k4) m4,fun p z=>k5 p (m5 p z),k6.trans m6⟩
    . rcases m2 q z with z | z | z
      . exact k2 q z
      . exact .inr (.inl (sub q z))
      . exact .inr (.inr (k5 q z))
theorem aP.esc(a:aP K Fz Fz1 ρ ρ1 σ H H1 ws vs){xs:List D}(e:bw ρ1 ws=some (xs,ρ2)):∃ Fz2,aP K Fz Fz2 ρ ρ2 σ H H1 [] [] /\ aD K Fz2 H1 vs xs:=by
 obtain ⟨Fz2,m1,m2,m3,m4,m5,m6⟩:=L5 a.rel a.rep (fun p hp=>(a.fresh p hp).2) a.nd e
 refine ⟨Fz2,⟨m3,.nil,fun p hp=>absurd (show p ∈ ([]:List Addr) from hp) (by simp),List.nodup_nil,⟨m3.fzl,a.step.keep,a.step.live,fun q z=>m1 q (a.step.grow q z),fun q z=>?_⟩,fun p z=>a.own p (m5 p z),a.kept.trans m6⟩,m4⟩
 . rcases m2 q z with z | z | z
   . exact a.step.new q z
   . exact .inr (.inl (a.fresh q z).1)
   . exact .inr (.inr (a.own q z))
end
def eM(f:Fa):Fe:=fun ρ=>(f ρ).bind fun p=>(bw p.2 p.1).bind fun q=>if q.1.length <= 16777216 then some (.d (.tuple q.1),q.2) else none
def eK(f:Fa):Fe:=fun ρ=>(f ρ).bind fun p=>(bw p.2 p.1).bind fun q=>if q.1.length <= 16777216 then some (.fr q.1,q.2) else none
theorem CM {f : Fa} {ρ ρ' : Rho} {mk : List D -> W} {w : W} (h : ((f ρ).bind fun p => (bw p.2 p.1).bind fun q => if q.1.length <= 16777216 then some (mk q.1, q.2) else none) = some (w, ρ')) :
    ∃ ws ρ1 xs,f ρ=some (ws,ρ1) /\ bw ρ1 ws=some (xs,ρ') /\ xs.length <= 16777216 /\ w=mk xs:=by
 cases e1:f ρ with
 | none=>rw [e1] at h;cases h
 | some p =>
  obtain ⟨ws,ρ1⟩:=p
  simp only [e1,Option.bind_some] at h
  cases e2:bw ρ1 ws with
  | none=>rw [e2] at h;cases h
  | some q =>
   obtain ⟨xs,ρ2⟩:=q
   simp only [e2,Option.bind_some] at h
   obtain ⟨h1,h2⟩:=bc h
   cases h2
   exact ⟨ws,ρ1,xs,rfl,e2,h1,rfl⟩
section
variable {X:Cx} {es:List Expr} {f:Fa} {pos:Pos}
theorem fU{x1}(h:DA X es f):DE X (.Tuple es x1 pos) (eM f) :=
 ⟨PE.imp (Qj h.ok) fun σ H Q h=>by
  obtain ⟨Fz,ρ,w,ρ',r,e,q⟩:=h
  obtain ⟨ws,ρ1,xs,e1,e2,hl,rfl⟩:=CM (mk:=fun xs=>W.d (.tuple xs)) e
  refine ⟨Fz,ρ,ws,ρ1,r,e1,fun vs H1 Fz1 p1=>?_⟩
  obtain ⟨Fz2,p2,d2⟩:=p1.esc e2
  exact ⟨by rw [d2.length,sizeLine_eq];exact hl,fun p hp=>q _ _ _ (p2.made (.Eb p2.rel.fzl hp d2))⟩⟩
theorem dR(h:DA X es f):DE X (.List es pos) (eK f) :=
 ⟨PE.imp (Qk h.ok) fun σ H Q h=>by
  obtain ⟨Fz,ρ,w,ρ',r,e,q⟩:=h
  obtain ⟨ws,ρ1,xs,e1,e2,hl,rfl⟩:=CM (mk:=fun xs=>W.fr xs) e
  refine ⟨Fz,ρ,ws,ρ1,r,e1,fun vs H1 Fz1 p1=>?_⟩
  obtain ⟨Fz2,p2,d2⟩:=p1.esc e2
  exact ⟨by rw [d2.length,sizeLine_eq];exact hl,fun p hp=>q _ _ _ (p2.made (.Hr p2.rel.fzl hp d2))⟩⟩
end
end
section
abbrev Fn:=List W->Option (W × List W)
structure uJ (K:PySem.W.Frag) (Fz:Addr->Prop) (H:Hp) (ws:List W) (vs:List V):Prop where
 len:ws.length=vs.length
 rep:∀ (k:Nat) (w:W),ws[k]? = some w->∃ v,vs[k]? = some v /\ vA K Fz H w v
 apart:∀ (i j:Nat) (xs ys:OX) (p:Addr),ws[i]? = some (W.own xs)->ws[j]? = some (W.own ys)->vs[i]? = some (V.ref p)->vs[j]? = some (V.ref p)->i=j
 gD:∀ (k:Nat) (xs:OX) (p:Addr),ws[k]? = some (W.own xs)->vs[k]? = some (V.ref p)->¬ Fz p
 fzl:∀ q,Fz q->H q ≠ none
def yx(ws:List W)(vs:List V)(p:Addr):Prop:=∃ (k:Nat) (xs:OX),ws[k]? = some (W.own xs) /\ vs[k]? = some (V.ref p)
structure L6 (K:PySem.W.Frag) (Fz Fz':Addr->Prop) (H H':Hp) (ws:List W) (vs:List V) (r:W) (v:V) (fin:List W):Prop where
 step:Step (yx ws vs) Fz Fz' H H'
 rep:vA K Fz' H' r v
 fresh:∀ xs p,r = .own xs->v = .ref p->H p=none /\ ¬ Fz' p
 fin:∀ (k:Nat) (p:Addr) (xs:OX),ws[k]? = some (W.own xs)->vs[k]? = some (V.ref p) ->
  (∃ ys us,fin[k]? = some (W.own ys) /\ H' p=some (hoX ys us) /\ aD K Fz' H' us (dX ys) /\ ¬ Fz' p) \/ (∃ ys,fin[k]? = some (W.d (.list ys)) /\ Dr K Fz' H' (.ref p) (.list ys))
def spF(K:PySem.W.Frag)(np:Nat)(F:Fn):Sp:=fun vs H Q _=>vs.length=np /\ ∃ Fz ws r fin,uJ K Fz H ws vs /\ F ws=some (r,fin) /\ ∀ v H' Fz',L6 K Fz Fz' H H' ws vs r v fin->Q v H'
def vd(ρ:Rho):W->Option W
 | .d x=>some (.d x)
 | .own xs=>some (.own xs)
 | .sl i=>match ρ[i]? with
  | some (some (.d x))=>some (.d x)
  | some (some (.own xs))=>some (.own xs)
  | _=>none
 | .ob _ _ _=>none
def gz(ρ:Rho):List W->Option (List W)
 | []=>some []
 | w :: ws=>(vd ρ w).bind fun x=>(gz ρ ws).bind fun xs=>some (x :: xs)
def slots:List W->List Nat
 | .sl i :: ws=>i :: slots ws
 | _ :: ws=>slots ws
 | []=>[]
def mq(ρ:Rho)(i:Nat)(w:W):Rho:=match ρ[i]? with
 | some (some (.own _))=>ρ.set i (some w)
 | _=>ρ
def putBack:Rho->List W->List W->Rho
 | ρ,.sl i :: ws,w :: fin=>putBack (mq ρ i w) ws fin
 | ρ,.d _ :: ws,_ :: fin=>putBack ρ ws fin
 | ρ,.own _ :: ws,_ :: fin=>putBack ρ ws fin
 | ρ,.ob _ _ _ :: ws,_ :: fin=>putBack ρ ws fin
 | ρ,_,_=>ρ
def aw(F:Fn)(f:Fa):Fe:=fun ρ=>(f ρ).bind fun p=>(gz p.2 p.1).bind fun ws=>if (slots p.1).Nodup then (F ws).bind fun r=>if r.2.length=p.1.length then some (r.1,putBack p.2 p.1 r.2) else none else none
theorem sr{i:Nat}:∀ {ws:List W},i ∈ slots ws ↔ ∃ k:Nat,ws[k]? = some (W.sl i)
 | []=>by simp [slots]
 | w :: ws=>by
  have ih:=sr (i:=i) (ws:=ws)
  have sh:(∃ k:Nat,(w :: ws)[k]? = some (W.sl i)) ↔ w = .sl i \/ ∃ k:Nat,ws[k]? = some (W.sl i):=by
   constructor
   . rintro ⟨k,e⟩
     cases k with
     | zero=>exact .inl (by simpa using e)
     | succ k=>exact .inr ⟨k,by simpa using e⟩
   . rintro (e | ⟨k,e⟩)
     . exact ⟨0,by simp [e]⟩
     . exact ⟨k + 1,by simpa using e⟩
  rw [sh]
  cases w with
  | d x=>simp [slots,ih]
  | own xs=>simp [slots,ih]
  | sl j=>simp [slots,ih,eq_comm]
  | ob _ _ _=>simp [slots,ih]
theorem Hy{ρ:Rho}{i j:Nat}{w:W}(h:i ≠ j):(mq ρ i w)[j]? = ρ[j]? := by
 unfold mq
 split
 . rw [List.getElem?_set_ne h]
 . rfl
theorem L7{ρ:Rho}{i:Nat}{w:W}:(mq ρ i w).length=ρ.length:=by
 unfold mq
 split
 . rw [List.length_set]
 . rfl
theorem Oa{ρ:Rho}{i:Nat}{w:W}{xs:OX}(h:ρ[i]? = some (some (.own xs))):(mq ρ i w)[i]? = some (some w):=by
 unfold mq
 rw [h]
 exact bN h
theorem Ob{ρ:Rho}{i:Nat}{w:W}(h:∀ xs,ρ[i]? ≠ some (some (.own xs))):mq ρ i w=ρ:=by
 unfold mq
 split
 . rename_i xs e;exact absurd e (h xs)
 . rfl
theorem j7:∀ {ws fin:List W} {ρ:Rho},(putBack ρ ws fin).length=ρ.length
 | [],_,_=>by unfold putBack;rfl
 | w :: ws,[],_=>by cases w <;> rfl
 | .d _ :: ws,_ :: fin,ρ=>j7 (ws:=ws)
 | .own _ :: ws,_ :: fin,ρ=>j7 (ws:=ws)
 | .ob _ _ _ :: ws,_ :: fin,ρ=>j7 (ws:=ws)
 | .sl i :: ws,w :: fin,ρ=>by
  show (putBack (mq ρ i w) ws fin).length=_
  rw [j7 (ws:=ws),L7]
theorem uK : ∀ {ws fin : List W} {ρ : Rho}, (slots ws).Nodup -> fin.length = ws.length -> ∀ (i : Nat),
    ((∀ k:Nat,ws[k]? ≠ some (W.sl i)) /\ (putBack ρ ws fin)[i]? = ρ[i]?) \/
    ∃ k:Nat,ws[k]? = some (W.sl i) /\ ((∃ xs w,ρ[i]? = some (some (W.own xs)) /\ fin[k]? = some w /\ (putBack ρ ws fin)[i]? = some (some w)) \/ ((∀ xs,ρ[i]? ≠ some (some (W.own xs))) /\ (putBack ρ ws fin)[i]? = ρ[i]?))
 | [],fin,ρ,_,_,i=>.inl ⟨by simp,by unfold putBack;rfl⟩
 | w :: ws,[],ρ,_,hl,i=>by simp at hl
 | w :: ws,z :: fin,ρ,nd,hl,i=>by
  have hl':fin.length=ws.length:=by simpa using hl
  have lift : ∀ {ρ1 : Rho}, putBack ρ (w :: ws) (z :: fin) = putBack ρ1 ws fin -> ρ1[i]? = ρ[i]? -> w ≠ .sl i -> (slots ws).Nodup ->
      ((∀ k:Nat,(w :: ws)[k]? ≠ some (W.sl i)) /\ (putBack ρ (w :: ws) (z :: fin))[i]? = ρ[i]?) \/
      ∃ k:Nat,(w :: ws)[k]? = some (W.sl i) /\ ((∃ xs w',ρ[i]? = some (some (W.own xs)) /\ (z :: fin)[k]? = some w' /\ (putBack ρ (w :: ws) (z :: fin))[i]? = some (some w')) \/ ((∀ xs,ρ[i]? ≠ some (some (W.own xs))) /\ (putBack ρ (w :: ws) (z :: fin))[i]? = ρ[i]?)):=by
   intro ρ1 e1 e2 e3 nd'
   rcases uK (ρ:=ρ1) nd' hl' i with ⟨h1,h2⟩ | ⟨k,h1,h2⟩
   . refine .inl ⟨fun k=>?_,by rw [e1,h2,e2]⟩
     cases k with
     | zero=>simpa using e3
     | succ k=>simpa using h1 k
   . refine .inr ⟨k + 1,by simpa using h1,?_⟩
     rw [e1,<- e2]
     rcases h2 with ⟨xs,w',g1,g2,g3⟩ | ⟨g1,g2⟩
     . exact .inl ⟨xs,w',g1,by simpa using g2,g3⟩
     . exact .inr ⟨g1,g2⟩
  cases w with
  | d x=>exact lift (ρ1:=ρ) rfl rfl (fun e=>nomatch e) nd
  | own xs=>exact lift (ρ1:=ρ) rfl rfl (fun e=>nomatch e) nd
  | ob _ _ _=>exact lift (ρ1:=ρ) rfl rfl (fun e=>nomatch e) nd
  | sl j =>
   have nd2:(slots ws).Nodup:=(List.nodup_cons.mp nd).2
   have nj:j ∉ slots ws:=(List.nodup_cons.mp nd).1
   by_cases hj:j=i
   . subst hj
     refine .inr ⟨0,rfl,?_⟩
     have none':∀ k:Nat,ws[k]? ≠ some (W.sl j):=fun k e=>nj (sr.mpr ⟨k,e⟩)
     have un:(putBack (mq ρ j z) ws fin)[j]? = (mq ρ j z)[j]? := by
      rcases uK (ρ:=mq ρ j z) nd2 hl' j with ⟨h1,h2⟩ | ⟨k,h1,h2⟩
      . exact h2
      . exact absurd h1 (none' k)
     by_cases hx:∃ xs,ρ[j]? = some (some (W.own xs))
     . obtain ⟨xs,e⟩:=hx
       exact .inl ⟨xs,z,e,rfl,by show (putBack (mq ρ j z) ws fin)[j]? = _;rw [un,Oa e]⟩
     . have hx':∀ xs,ρ[j]? ≠ some (some (W.own xs)):=fun xs e=>hx ⟨xs,e⟩
       exact .inr ⟨hx',by show (putBack (mq ρ j z) ws fin)[j]? = _;rw [un,Ob hx']⟩
   . exact lift (ρ1:=mq ρ j z) rfl (Hy hj) (fun e=>hj (by cases e;rfl)) nd2
section
variable {K:PySem.W.Frag} {Fz Fz' Fz1 Fz2:Addr->Prop} {ρ ρ' ρ1 ρ2:Rho} {σ:St} {H H' H1 H2:Hp} {w:W} {v:V} {ws ws1:List W} {vs vs1:List V}
theorem wZ:∀ {ws ws':List W},gz ρ ws=some ws'->ws'.length=ws.length /\ ∀ (k:Nat) (w':W),ws'[k]? = some w'->∃ w,ws[k]? = some w /\ vd ρ w=some w'
 | [],_,e=>by cases e;exact ⟨rfl,fun k w' e=>by simp at e⟩
 | w :: ws,ws',e=>by
  unfold gz at e
  cases e1:vd ρ w with
  | none=>rw [e1] at e;cases e
  | some x =>
   simp only [e1,Option.bind_some] at e
   cases e2:gz ρ ws with
   | none=>rw [e2] at e;cases e
   | some xs =>
    simp only [e2,Option.bind_some] at e
    cases e
    obtain ⟨h1,h2⟩:=wZ e2
    refine ⟨by simp [h1],fun k w' e=>?_⟩
    cases k with
    | zero=>simp at e;subst e;exact ⟨w,rfl,e1⟩
    | succ k=>simp at e;obtain ⟨u,g1,g2⟩:=h2 k w' e;exact ⟨u,by simpa using g1,g2⟩
theorem Ef{i:Nat}{w:W}(h:vd ρ (.sl i)=some w):ρ[i]? = some (some w) /\ ∀ j,w ≠ .sl j:=by
 unfold vd at h
 simp only at h
 split at h
 . rename_i x e;cases h;exact ⟨e,fun _ e=>nomatch e⟩
 . rename_i x e;cases h;exact ⟨e,fun _ e=>nomatch e⟩
 . cases h
theorem Oc{i:Nat}{c:Str}{g:Nat}{ns:List Str}:vd ρ (.sl i) ≠ some (.ob c g ns):=fun h=>by
 unfold vd at h
 simp only at h
 split at h
 . cases h
 . cases h
 . cases h
theorem nW{α β:Type}{R:α->β->Prop}:∀ {as:List α} {bs:List β},Paired R as bs->as.length=bs.length /\ ∀ (k:Nat) (a:α),as[k]? = some a->∃ b,bs[k]? = some b /\ R a b
 | _,_,.nil=>⟨rfl,fun k a e=>by simp at e⟩
 | _,_,.cons h t=>by
  obtain ⟨h1,h2⟩:=nW t
  refine ⟨by simp [h1],fun k a e=>?_⟩
  cases k with
  | zero=>simp at e;subst e;exact ⟨_,rfl,h⟩
  | succ k=>simp at e;obtain ⟨b,g1,g2⟩:=h2 k a e;exact ⟨b,by simpa using g1,g2⟩
theorem yG{p:Addr}:∀ {ws:List W} {vs:List V},(∃ (k:Nat) (xs:OX),ws[k]? = some (W.own xs) /\ vs[k]? = some (V.ref p))->p ∈ frs ws vs
 | [],vs,h=>by obtain ⟨k,xs,e,_⟩:=h;simp at e
 | w :: ws,[],h=>by obtain ⟨k,xs,_,e⟩:=h;simp at e
 | w :: ws,v :: vs,⟨0,xs,e1,e2⟩=>by
  simp at e1 e2;subst e1;subst e2
  rw [cT];exact List.mem_cons_self
 | w :: ws,v :: vs,⟨k + 1,xs,e1,e2⟩=>by
  have ih:=yG (p:=p) (ws:=ws) (vs:=vs) ⟨k,xs,by simpa using e1,by simpa using e2⟩
  cases w with
  | d x=>rw [jn];exact ih
  | sl i=>rw [jj];exact ih
  | ob _ _ _=>rw [pT];exact ih
  | own ys =>
   cases v with
   | ref q=>rw [cT];exact List.mem_cons_of_mem _ ih
   | _=>exact ih
theorem IM{p:Addr}:∀ {ws:List W} {vs:List V},(frs ws vs).Nodup->∀ {i j:Nat} {xs ys:OX},ws[i]? = some (W.own xs)->ws[j]? = some (W.own ys)->vs[i]? = some (V.ref p)->vs[j]? = some (V.ref p)->i=j
 | [],vs,_,i,j,xs,ys,e1,e2,e3,e4=>by simp at e1
 | w :: ws,[],_,i,j,xs,ys,e1,e2,e3,e4=>by simp at e3
 | w :: ws,v :: vs,nd,0,0,xs,ys,e1,e2,e3,e4=>rfl
 | w :: ws,v :: vs,nd,0,j + 1,xs,ys,e1,e2,e3,e4=>by
  simp at e1 e3;subst e1;subst e3
  rw [cT] at nd
  exact absurd (yG ⟨j,ys,by simpa using e2,by simpa using e4⟩) (List.nodup_cons.mp nd).1
 | w :: ws,v :: vs,nd,i + 1,0,xs,ys,e1,e2,e3,e4=>by
  simp at e2 e4;subst e2;subst e4
  rw [cT] at nd
  exact absurd (yG ⟨i,xs,by simpa using e1,by simpa using e3⟩) (List.nodup_cons.mp nd).1
 | w :: ws,v :: vs,nd,i + 1,j + 1,xs,ys,e1,e2,e3,e4=>by
  have nd':(frs ws vs).Nodup:=by
   cases w with
   | d x=>rw [jn] at nd;exact nd
   | sl i=>rw [jj] at nd;exact nd
   | ob _ _ _=>rw [pT] at nd;exact nd
   | own ys =>
    cases v with
    | ref q=>rw [cT] at nd;exact (List.nodup_cons.mp nd).2
    | _=>exact nd
  rw [IM nd' (i:=i) (j:=j) (by simpa using e1) (by simpa using e2) (by simpa using e3) (by simpa using e4)]
theorem aP.args (a : aP K Fz Fz1 ρ ρ1 σ H H1 ws vs) (nd : (slots ws).Nodup) (e : gz ρ1 ws = some ws1) : uJ K Fz1 H1 ws1 vs /\
    (∀ (k:Nat) (xs:OX) (p:Addr),ws1[k]? = some (W.own xs)->vs[k]? = some (V.ref p)->(ws[k]? = some (W.own xs) /\ p ∈ frs ws vs) \/ ∃ i,ws[k]? = some (W.sl i) /\ ρ1[i]? = some (some (W.own xs)) /\ σ[i]? = some (some (V.ref p))):=by
 obtain ⟨l1,f1⟩:=wZ e
 obtain ⟨l2,f2⟩:=nW a.rep
 have key:∀ (k:Nat) (xs:OX) (p:Addr),ws1[k]? = some (W.own xs)->vs[k]? = some (V.ref p)->(ws[k]? = some (W.own xs) /\ p ∈ frs ws vs) \/ ∃ i,ws[k]? = some (W.sl i) /\ ρ1[i]? = some (some (W.own xs)) /\ σ[i]? = some (some (V.ref p)):=by
  intro k xs p e1 e2
  obtain ⟨w,g1,g2⟩:=f1 k _ e1
  obtain ⟨v,g3,g4⟩:=f2 k w g1
  rw [e2] at g3
  cases g3
  cases w with
  | d x=>cases g2
  | own ys=>cases g2;exact .inl ⟨g1,yG ⟨k,xs,g1,e2⟩⟩
  | sl i=>exact .inr ⟨i,g1,(Ef g2).1,g4⟩
  | ob _ _ _=>cases g2
 refine ⟨⟨by omega,fun k w' e1=>?_,fun i j xs ys p e1 e2 e3 e4=>?_,fun k xs p e1 e2=>?_,a.rel.fzl⟩,key⟩
 . obtain ⟨w,g1,g2⟩:=f1 k w' e1
   obtain ⟨v,g3,g4⟩:=f2 k w g1
   refine ⟨v,g3,?_⟩
   cases w with
   | d x=>cases g2;exact g4
   | own xs=>cases g2;exact g4
   | ob _ _ _=>cases g2
   | sl i =>
    obtain ⟨h1,h2⟩:=Ef g2
    obtain ⟨u,hu,hr⟩:=a.rel.val i _ h1
    have g4':σ[i]? = some (some v):=g4
    rw [g4'] at hu
    cases hu
    cases w' with
    | d _=>exact hr
    | own _=>exact hr
    | sl j=>exact absurd rfl (h2 j)
    | ob _ _ _=>exact absurd g2 Oc
 . rcases key i xs p e1 e3 with ⟨k1,k2⟩ | ⟨m,k1,k2,k3⟩
   . rcases key j ys p e2 e4 with ⟨k4,k5⟩ | ⟨n,k4,k5,k6⟩
     . exact IM a.nd k1 k4 e3 e4
     . exact absurd ⟨n,ys,k5,k6⟩ (a.fresh p k2).2.2
   . rcases key j ys p e2 e4 with ⟨k4,k5⟩ | ⟨n,k4,k5,k6⟩
     . exact absurd ⟨m,xs,k2,k3⟩ (a.fresh p k5).2.2
     . have:=a.rel.apart m n xs ys p k2 k5 k3 k6
       subst this
       exact CN nd k1 k4
 . rcases key k xs p e1 e2 with ⟨k1,k2⟩ | ⟨m,k1,k2,k3⟩
   . exact (a.fresh p k2).2.1
   . exact a.rel.gD p ⟨m,xs,k2,k3⟩
where
 CN:∀ {ws:List W} {i j m:Nat},(slots ws).Nodup->ws[i]? = some (W.sl m)->ws[j]? = some (W.sl m)->i=j
  | [],i,j,m,_,e1,_=>by simp at e1
  | w :: ws,0,0,m,_,_,_=>rfl
  | w :: ws,0,j + 1,m,nd,e1,e2=>by
   simp at e1 e2;subst e1
   exact absurd (sr.mpr ⟨j,e2⟩) (List.nodup_cons.mp nd).1
  | w :: ws,i + 1,0,m,nd,e1,e2=>by
   simp at e1 e2;subst e2
   exact absurd (sr.mpr ⟨i,e1⟩) (List.nodup_cons.mp nd).1
  | w :: ws,i + 1,j + 1,m,nd,e1,e2=>by
   have nd':(slots ws).Nodup:=by
    cases w with
    | d x=>exact nd
    | own xs=>exact nd
    | sl k=>exact (List.nodup_cons.mp nd).2
    | ob _ _ _=>exact nd
   have e1':ws[i]? = some (W.sl m):=by simpa using e1
   have e2':ws[j]? = some (W.sl m):=by simpa using e2
   rw [CN nd' e1' e2']
theorem aP.call (a : aP K Fz Fz1 ρ ρ1 σ H H1 ws vs) (nd : (slots ws).Nodup) (e : gz ρ1 ws = some ws1) {r : W} {fin : List W} (hl : fin.length = ws.length) (c : L6 K Fz1 Fz2 H1 H2 ws1 vs r v fin) :
    aP K Fz Fz2 ρ (putBack ρ1 ws fin) σ H H2 [r] [v]:=by
 obtain ⟨ao,key⟩:=a.args nd e
 obtain ⟨l1,f1⟩:=wZ e
 obtain ⟨l2,f2⟩:=nW a.rep
 have ow:∀ q,yx ws1 vs q->q ∈ frs ws vs \/ Own ρ1 σ q:=fun q ⟨k,xs,e1,e2⟩=>by
  rcases key k xs q e1 e2 with ⟨_,k2⟩ | ⟨m,_,k2,k3⟩
  . exact .inl k2
  . exact .inr ⟨m,xs,k2,k3⟩
 have drk:∀ {v x},Dr K Fz1 H1 v x->Dr K Fz2 H2 v x:=fun h=>h.keep c.step.grow (fun q o hf e=>c.step.keep q o e fun ⟨k,xs,e1,e2⟩=>ao.gD k xs q e1 e2 hf) _ _
 have drak:∀ {vs xs},aD K Fz1 H1 vs xs->aD K Fz2 H2 vs xs:=fun h=>h.keep c.step.grow (fun q o hf e=>c.step.keep q o e fun ⟨k,xs,e1,e2⟩=>ao.gD k xs q e1 e2 hf) _ _
 have slot : ∀ (i : Nat), ((putBack ρ1 ws fin)[i]? = ρ1[i]? /\ ((∀ k : Nat, ws[k]? ≠ some (W.sl i)) \/ ∀ xs, ρ1[i]? ≠ some (some (W.own xs)))) \/
     ∃ (k:Nat) (xs:OX) (w:W) (p:Addr),ws[k]? = some (W.sl i) /\ ρ1[i]? = some (some (W.own xs)) /\ fin[k]? = some w /\ (putBack ρ1 ws fin)[i]? = some (some w) /\ σ[i]? = some (some (V.ref p)) /\ ws1[k]? = some (W.own xs) /\ vs[k]? = some (V.ref p):=by
  intro i
  rcases uK (ρ:=ρ1) nd hl i with ⟨h1,h2⟩ | ⟨k,h1,⟨xs,w,g1,g2,g3⟩ | ⟨g1,g2⟩⟩
  . exact .inl ⟨h2,.inl h1⟩
  . obtain ⟨u,hu,p,us,q1,q2,q3⟩:=a.rel.val i _ g1
    subst q1
    obtain ⟨v',hv',rv'⟩:=f2 k _ h1
    have rv'':σ[i]? = some (some v'):=rv'
    rw [hu] at rv''
    cases rv''
    have hk:k < ws1.length:=by
     rw [l1]
     exact (List.getElem?_eq_some_iff.mp h1).1
    obtain ⟨w',hw'⟩:∃ w',ws1[k]? = some w':=⟨ws1[k],List.getElem?_eq_getElem hk⟩
    obtain ⟨w0,m1,m2⟩:=f1 k w' hw'
    rw [h1] at m1
    cases m1
    have:=(Ef m2).1
    rw [g1] at this
    cases this
    exact .inr ⟨k,xs,w,p,h1,g1,g2,g3,hu,hw',hv'⟩
  . exact .inl ⟨g2,.inr g1⟩
 have keepOwn:∀ (i:Nat) (xs:OX) (p:Addr),ρ1[i]? = some (some (W.own xs))->σ[i]? = some (some (V.ref p))->(∀ k:Nat,ws[k]? ≠ some (W.sl i))->¬ yx ws1 vs p:=fun i xs p e1 e2 h ⟨k,ys,e3,e4⟩=>by
  rcases key k ys p e3 e4 with ⟨_,k2⟩ | ⟨m,k1,k2,k3⟩
  . exact (a.fresh p k2).2.2 ⟨i,xs,e1,e2⟩
  . have:=a.rel.apart i m xs ys p e1 k2 e2 k3
    subst this
    exact h k k1
 have own':∀ p,Own (putBack ρ1 ws fin) σ p->Own ρ1 σ p:=fun p ⟨i,xs,e1,e2⟩=>by
  rcases slot i with ⟨h1,_⟩ | ⟨k,ys,w,q,h1,h2,h3,h4,h5,_,_⟩
  . rw [h1] at e1;exact ⟨i,xs,e1,e2⟩
  . exact ⟨i,ys,h2,e2⟩
 have step':Step (Own ρ σ) Fz Fz2 H H2:=by
  refine ⟨c.step.fzl,fun q o e n=>c.step.keep q o (a.step.keep q o e n) fun z=>?_,fun q e=>a.step.live q (c.step.live q e),fun q e=>c.step.grow q (a.step.grow q e),fun q e=>?_⟩
  . rcases ow q z with z | z
    . rw [(a.fresh q z).1] at e;cases e
    . exact n (a.own q z)
  . rcases c.step.new q e with z | z | z
    . exact a.step.new q z
    . exact .inr (.inl (a.step.live q z))
    . rcases ow q z with z | z
      . exact .inr (.inl (a.fresh q z).1)
      . exact .inr (.inr (a.own q z))
 have kp:Kp ρ1 (putBack ρ1 ws fin):=by
  refine ⟨fun k w e=>?_,fun k cn g ns=>?_,fun k w e=>?_⟩
  . rcases slot k with ⟨h1,h2⟩ | ⟨m,ys,w',q,h1,h2,h3,h4,h5,h6,h7⟩
    . exact ⟨w,by rw [h1];exact e,id⟩
    . refine ⟨w',h4,fun _=>?_⟩
      rcases c.fin m q ys h6 h7 with ⟨zs,us,g1,_⟩ | ⟨zs,g1,_⟩
      . rw [h3] at g1;cases g1;rfl
      . rw [h3] at g1;cases g1;rfl
  . rcases slot k with ⟨h1,h2⟩ | ⟨m,ys,w',q,h1,h2,h3,h4,h5,h6,h7⟩
    . rw [h1]
    . rw [h4,h2]
      rcases c.fin m q ys h6 h7 with ⟨zs,us,g1,_⟩ | ⟨zs,g1,_⟩
      . rw [h3] at g1;cases g1;exact ⟨fun z=>(nomatch z),fun z=>(nomatch z)⟩
      . rw [h3] at g1;cases g1;exact ⟨fun z=>(nomatch z),fun z=>(nomatch z)⟩
  . rcases slot k with ⟨h1,h2⟩ | ⟨m,ys,w',q,h1,h2,h3,h4,h5,h6,h7⟩
    . exact ⟨w,by rw [<- h1];exact e⟩
    . exact ⟨_,h2⟩
 have noi:∀ p C dx fs,yx ws1 vs p->H1 p=some (.ins C dx fs)->False:=fun p C dx fs ⟨k,xs,e1,e2⟩ z=>by
  obtain ⟨v',g1,q',us,g2,g3,_⟩:=ao.rep k _ e1
  rw [e2] at g1
  cases g1
  cases g2
  rw [z] at g3;exact IC (Option.some.inj g3).symm
 refine ⟨⟨by rw [j7];exact a.rel.len,fun i w e=>?_,fun i j xs ys p e1 e2 e3 e4=>?_,fun p o z=>?_,c.step.fzl,a.rel.obs c.step noi kp.un fun i c g ns e=>(kp.ob i c g ns).mp e,a.rel.LU kp⟩,.cons c.rep.rep .nil,fun p hp=>?_,dQ,step',fun p z=>a.own p (own' p z),a.kept.trans kp⟩
 . rcases slot i with ⟨h1,h2⟩ | ⟨k,xs,w',p,h1,h2,h3,h4,h5,h6,h7⟩
   . rw [h1] at e
     obtain ⟨u,hu,hr⟩:=a.rel.val i w e
     refine ⟨u,hu,?_⟩
     cases w with
     | d x=>exact drk hr
     | sl _=>exact hr
     | ob _ _ _=>exact hr
     | own xs =>
      obtain ⟨p,us,q1,q2,q3⟩:=hr
      subst q1
      have hno:∀ k:Nat,ws[k]? ≠ some (W.sl i):=by
       rcases h2 with h2 | h2
       . exact h2
       . exact absurd e (h2 xs)
      exact ⟨p,us,rfl,c.step.keep p _ q2 (keepOwn i xs p e hu hno),drak q3⟩
   . rw [h4] at e
     cases e
     refine ⟨_,h5,?_⟩
     rcases c.fin k p xs h6 h7 with ⟨ys,us,g1,g2,g3,g4⟩ | ⟨ys,g1,g2⟩
     . rw [h3] at g1;cases g1
       exact ⟨p,us,rfl,g2,g3⟩
     . rw [h3] at g1;cases g1
       exact g2
 . have old:∀ {i xs},(putBack ρ1 ws fin)[i]? = some (some (W.own xs))->∃ ys,ρ1[i]? = some (some (W.own ys)):=fun {i xs} e=>by
    rcases slot i with ⟨h1,_⟩ | ⟨k,ys,w',q,h1,h2,_⟩
    . rw [h1] at e;exact ⟨xs,e⟩
    . exact ⟨ys,h2⟩
   obtain ⟨as,g1⟩:=old e1
   obtain ⟨bs,g2⟩:=old e2
   exact a.rel.apart i j as bs p g1 g2 e3 e4
 . obtain ⟨i,xs,e1,e2⟩:=o
   rcases slot i with ⟨h1,h2⟩ | ⟨k,ys,w',q,h1,h2,h3,h4,h5,h6,h7⟩
   . rw [h1] at e1
     have hno:∀ k:Nat,ws[k]? ≠ some (W.sl i):=by
      rcases h2 with h2 | h2
      . exact h2
      . exact absurd e1 (h2 xs)
     rcases c.step.new p z with z | z | z
     . exact a.rel.gD p ⟨i,xs,e1,e2⟩ z
     . obtain ⟨u,hu,p',us,q1,q2,_⟩:=a.rel.val i _ e1
       rw [e2] at hu
       cases hu
       cases q1
       rw [z] at q2;cases q2
     . exact keepOwn i xs p e1 e2 hno z
   . rw [h4] at e1
     cases e1
     rw [e2] at h5
     cases h5
     rcases c.fin k p ys h6 h7 with ⟨zs,us,g1,g2,g3,g4⟩ | ⟨zs,g1,g2⟩
     . exact g4 z
     . rw [h3] at g1;cases g1
 . cases r with
   | d x=>rw [jn] at hp;exact absurd hp (by simp [frs])
   | sl i=>exact c.rep.elim
   | ob _ _ _=>exact c.rep.elim
   | own xs =>
    obtain ⟨q,us,e1,e2,e3⟩:=c.rep
    subst e1
    rw [cT] at hp
    have hp:p=q:=by simpa [frs] using hp
    subst hp
    obtain ⟨h1,h2⟩:=c.fresh xs p rfl rfl
    refine ⟨a.step.live p h1,h2,fun z=>?_⟩
    obtain ⟨i,ys,f1,f2⟩:=own' p z
    obtain ⟨u,hu,q,us',f3,f4,_⟩:=a.rel.val i _ f1
    rw [f2] at hu
    cases hu
    cases f3
    rw [h1] at f4
    cases f4
end
theorem Oe{K:PySem.W.Frag}{np:Nat}{F:Fn}{f:Fa}{E:XK}(hnp:∀ σ H ρ ws ρ' Fz vs H' Fz',f ρ=some (ws,ρ')->aP K Fz Fz' ρ ρ' σ H H' ws vs->vs.length=np){σ:St}{H:Hp}{Q:VK}(h:tE K (aw F f) σ H Q):O4 (spF K np F) [] E (tA K f) σ H Q:=by
 obtain ⟨Fz,ρ,w,ρ',r,e,q⟩:=h
 unfold aw at e
 cases e1:f ρ with
 | none=>rw [e1] at e;cases e
 | some p =>
  obtain ⟨ws,ρ1⟩:=p
  simp only [e1,Option.bind_some] at e
  cases e2:gz ρ1 ws with
  | none=>rw [e2] at e;cases e
  | some ws1 =>
   simp only [e2,Option.bind_some] at e
   by_cases nd:(slots ws).Nodup
   . rw [if_pos nd] at e
     cases e3:F ws1 with
     | none=>rw [e3] at e;cases e
     | some z =>
      obtain ⟨r',fin⟩:=z
      simp only [e3,Option.bind_some] at e
      obtain ⟨hl,e4⟩:=bc e
      cases e4
      refine ⟨Fz,ρ,ws,ρ1,r,e1,fun vs H1 Fz1 p1=>?_⟩
      show spF K np F (vs ++ []) H1 Q E
      rw [List.append_nil]
      exact ⟨hnp _ _ _ _ _ _ _ _ _ e1 p1,Fz1,ws1,w,fin,(p1.args nd e2).1,e3,fun v H2 Fz2 c=>q v H2 Fz2 (p1.call nd e2 hl c)⟩
   . rw [if_neg nd] at e;cases e
structure DAn (X:Cx) (es:List Expr) (f:Fa) (n:Nat):Prop where
 da:DA X es f
 many:∀ ρ ws ρ',f ρ=some (ws,ρ')->ws.length=n
theorem ax{X:Cx}:DAn X [] aj 0:=⟨az,fun _ _ _ e=>by cases e;rfl⟩
theorem af{X:Cx}{e:Expr}{es:List Expr}{f:Fe}{g:Fa}{n:Nat}(ha:DE X e f)(hr:DAn X es g n)(hs:starEach (e :: es) X.env=(false,eval e X.env) :: starEach es X.env:=by rfl):DAn X (e :: es) (aa f g) (n + 1) :=
 ⟨ak ha hr.da hs,fun ρ ws ρ' e=>by
  obtain ⟨w,ρ1,us,e1,e2,rfl⟩:=bP e
  simp [hr.many _ _ _ e2]⟩
section
variable {X:Cx} {k np:Nat} {f:Addr} {fd:FuncData} {ps:List Str} {F:Fn} {x:Str} {p pos:Pos} {e:Expr} {es:List Expr} {fa:Fa} {CX:CXT} {E:XK}
theorem Of (G : jd X.prog X.w X.K X.mg X.base CX k f fd ps (spF X.K np F)) (hr : bZ k X.A) (hg : Gl X x) (hm : X.mg x = some (.ref f)) (hk : PySem.W.keepIn X.K (.ref f) = true) (hb : Binds X.K fd ps []) (hx : Passes CX X E)
    (ha:DAn X (e :: es) fa np) (hdb:(x == ("__debug__" : Str))=false:=by decide) (he:starEach (e :: es) X.env=(false,eval e X.env) :: starEach es X.env:=by rfl) (hpl:(backTo pos (starEach es X.env)).any (·.1)=false:=by rfl) :
    DE X (.Call (.Name x p) (e :: es) [] pos) (aw F fa) :=
 ⟨PE.imp (NF G hr hg hm hk hb .nil hx ha.da.ok hdb he hpl) fun _ _ _ h=>Oe (fun σ H ρ ws ρ' Fz vs H' Fz' e1 p1=>by
  rw [<- (nW p1.rep).1];exact ha.many _ _ _ e1) h⟩
end
end
section
inductive Out where
 | nx | bk | ct | rt (r:W)
abbrev Fs:=Rho->Option (Out × Rho)
def KpF(fix:Nat->Bool)(ρ ρ':Rho):Prop:=∀ (k:Nat) (w:W),fix k=true->ρ[k]? = some (some w)->∃ w',ρ'[k]? = some (some w') /\ (isL w=true->isL w'=true)
theorem KpF.trans{fix:Nat->Bool}{ρ ρ1 ρ2:Rho}(a:KpF fix ρ ρ1)(b:KpF fix ρ1 ρ2):KpF fix ρ ρ2:=fun k w f e=>by
 obtain ⟨w1,e1,i1⟩:=a k w f e
 obtain ⟨w2,e2,i2⟩:=b k w1 f e1
 exact ⟨w2,e2,fun z=>i2 (i1 z)⟩
structure cX (K:PySem.W.Frag) (fix:Nat->Bool) (Fz Fz':Addr->Prop) (ρ ρ':Rho) (σ σ':St) (H H':Hp):Prop where
 rel:Rel K Fz' ρ' σ' H'
 step:Step (OwO ρ σ) Fz Fz' H H'
 own:∀ p,Own ρ' σ' p->Own ρ σ p \/ H p=none
 same:∀ k,fix k=true->σ'[k]? = σ[k]?
 kept:KpF fix ρ ρ'
 len:σ'.length=σ.length
 obo:∀ p,ObA ρ' σ' p->ObA ρ σ p \/ H p=none
theorem cX.oo{K:PySem.W.Frag}{fix:Nat->Bool}{Fz Fz':Addr->Prop}{ρ ρ':Rho}{σ σ':St}{H H':Hp}(a:cX K fix Fz Fz' ρ ρ' σ σ' H H'):∀ p,OwO ρ' σ' p->OwO ρ σ p \/ H p=none:=fun p z =>
 z.elim (fun z=>(a.own p z).imp .inl id) fun z=>(a.obo p z).imp .inr id
theorem cX.trans{K:PySem.W.Frag}{fix:Nat->Bool}{Fz Fz1 Fz2:Addr->Prop}{ρ ρ1 ρ2:Rho}{σ σ1 σ2:St}{H H1 H2:Hp}(a:cX K fix Fz Fz1 ρ ρ1 σ σ1 H H1)(b:cX K fix Fz1 Fz2 ρ1 ρ2 σ1 σ2 H1 H2):cX K fix Fz Fz2 ρ ρ2 σ σ2 H H2 :=
 ⟨b.rel,a.step.trans b.step a.oo,fun p z=>(b.own p z).elim (a.own p) fun z=>.inr (a.step.live p z),fun k h=>(b.same k h).trans (a.same k h),a.kept.trans b.kept,b.len.trans a.len,fun p z=>(b.obo p z).elim (a.obo p) fun z=>.inr (a.step.live p z)⟩
theorem cX.refl{K:PySem.W.Frag}{fix:Nat->Bool}{Fz:Addr->Prop}{ρ:Rho}{σ:St}{H:Hp}(r:Rel K Fz ρ σ H):cX K fix Fz Fz ρ ρ σ σ H H :=
 ⟨r,.refl r.fzl,fun _ z=>.inl z,fun _ _=>rfl,fun k w _ e=>⟨w,e,id⟩,rfl,fun _ z=>.inl z⟩
structure Og (K:PySem.W.Frag) (Fz':Addr->Prop) (ρ ρ':Rho) (σ σ':St) (H H':Hp) (r:W) (v:V):Prop where
 rep:vA K Fz' H' r v
 fresh:∀ xs p,r = .own xs->v = .ref p->¬ Fz' p /\ ¬ Own ρ' σ' p /\ (Own ρ σ p \/ H p=none)
theorem Og.after{K:PySem.W.Frag}{fix:Nat->Bool}{Fz Fz1 Fz2:Addr->Prop}{ρ ρ1 ρ2:Rho}{σ σ1 σ2:St}{H H1 H2:Hp}{r:W}{v:V}(a:cX K fix Fz Fz1 ρ ρ1 σ σ1 H H1)(b:Og K Fz2 ρ1 ρ2 σ1 σ2 H1 H2 r v):Og K Fz2 ρ ρ2 σ σ2 H H2 r v :=
 ⟨b.rep,fun xs p e1 e2=>by
  obtain ⟨h1,h2,h3⟩:=b.fresh xs p e1 e2
  exact ⟨h1,h2,h3.elim (a.own p) fun z=>.inr (a.step.live p z)⟩⟩
def goal(K:PySem.W.Frag)(D:Ends)(Fz':Addr->Prop)(ρ ρ':Rho)(σ σ':St)(H H':Hp):Out->Prop
 | .nx=>D.nx σ' H'
 | .bk=>D.bk σ' H'
 | .ct=>D.ct σ' H'
 | .rt r=>∀ v,Og K Fz' ρ ρ' σ σ' H H' r v->D.rt v H'
def tS(K:PySem.W.Frag)(fix:Nat->Bool)(f:Fs):TS:=fun D σ H=>∃ Fz ρ o ρ',Rel K Fz ρ σ H /\ f ρ=some (o,ρ') /\ ∀ σ' H' Fz',cX K fix Fz Fz' ρ ρ' σ σ' H H'->goal K D Fz' ρ ρ' σ σ' H H' o
structure DS (X:Cx) (fix:Nat->Bool) (st:Stmt) (f:Fs):Prop where
 ok:PS X st (tS X.K fix f)
structure DSs (X:Cx) (fix:Nat->Bool) (sts:List Stmt) (f:Fs):Prop where
 ok:PSs X sts (tS X.K fix f)
theorem PS.imp{X:Cx}{e:Stmt}{t t':TS}(h:PS X e t)(i:∀ D σ H,t' D σ H->t D σ H):PS X e t':=fun pins s σ H D I q=>h pins s σ H D I (i D σ H q)
theorem PSs.imp{X:Cx}{e:List Stmt}{t t':TS}(h:PSs X e t)(i:∀ D σ H,t' D σ H->t D σ H):PSs X e t':=fun pins s σ H D I q=>h pins s σ H D I (i D σ H q)
theorem aP.sp{K:PySem.W.Frag}{fix:Nat->Bool}{Fz Fz':Addr->Prop}{ρ ρ':Rho}{σ:St}{H H':Hp}{ws:List W}{vs:List V}(a:aP K Fz Fz' ρ ρ' σ H H' ws vs):cX K fix Fz Fz' ρ ρ' σ σ H H' :=
 ⟨a.rel,a.step.weak fun _=>.inl,fun p z=>.inl (a.own p z),fun _ _=>rfl,fun k w _ e=>a.kept.ke k w e,rfl,fun p ⟨i,c,g,ns,e1,e2⟩=>.inl ⟨i,c,g,ns,(a.kept.ob i c g ns).mp e1,e2⟩⟩
def fNx:Fs:=fun ρ=>some (.nx,ρ)
def bf(f g:Fs):Fs:=fun ρ=>(f ρ).bind fun p=>match p.1 with
 | .nx=>g p.2
 | o=>some (o,p.2)
section
variable {X:Cx} {fix:Nat->Bool} {st:Stmt} {sts:List Stmt} {f g:Fs} {pos:Pos} {e:Expr} {fe:Fe} {ft:Ft}
theorem b9:DSs X fix [] fNx:=⟨PSs.imp Nq fun D σ H h=>by
 obtain ⟨Fz,ρ,o,ρ',r,e,q⟩:=h
 cases e
 exact q σ H Fz (.refl r)⟩
theorem QP{K:PySem.W.Frag}{D:Ends}{σ:St}{H:Hp}(h:tS K fix (bf f g) D σ H):RM (tS K fix f) (tS K fix g) D σ H:=by
 obtain ⟨Fz,ρ,o,ρ',r,e,q⟩:=h
 unfold bf at e
 cases e1:f ρ with
 | none=>rw [e1] at e;cases e
 | some p =>
  obtain ⟨o1,ρ1⟩:=p
  simp only [e1,Option.bind_some] at e
  refine ⟨Fz,ρ,o1,ρ1,r,e1,fun σ1 H1 Fz1 p1=>?_⟩
  cases o1 with
  | nx =>
   simp only at e
   refine ⟨Fz1,ρ1,o,ρ',p1.rel,e,fun σ2 H2 Fz2 p2=>?_⟩
   have:=q σ2 H2 Fz2 (p1.trans p2)
   cases o with
   | rt r=>exact fun v hv=>this v (hv.after p1)
   | _=>exact this
  | bk=>simp only at e;cases e;exact q σ1 H1 Fz1 p1
  | ct=>simp only at e;cases e;exact q σ1 H1 Fz1 p1
  | rt r=>simp only at e;cases e;exact q σ1 H1 Fz1 p1
theorem aA(h1:DS X fix st f)(h2:DSs X fix sts g):DSs X fix (st :: sts) (bf f g):=⟨PSs.imp (Ln h1.ok h2.ok) fun D σ H h=>QP h⟩
theorem aH(h1:DS X fix st f):DSs X fix [st] f:=⟨Nr h1.ok⟩
def kX(fe:Fe):Fs:=fun ρ=>(fe ρ).bind fun p=>some (.nx,p.2)
theorem iy(h:DE X e fe)(hsw:swapsWith e none pos.line X.env=pure false:=by rfl):DS X fix (.Expr e pos) (kX fe):=⟨PS.imp (Nt h.ok hsw) fun D σ H h=>by
 obtain ⟨Fz,ρ,o,ρ',r,e,q⟩:=h
 unfold kX at e
 cases e1:fe ρ with
 | none=>rw [e1] at e;cases e
 | some p =>
  obtain ⟨w,ρ1⟩:=p
  simp only [e1,Option.bind_some] at e
  cases e
  exact ⟨Fz,ρ,w,ρ',r,e1,fun v H1 Fz1 p1=>q σ H1 Fz1 p1.sp⟩⟩
def B0(np:Nat)(ρ:Rho):W->Option (W × Rho)
 | .d x=>some (.d x,ρ)
 | .own xs=>some (.own xs,ρ)
 | .sl i=>if i < np then (f7 ρ (.sl i)).bind fun p=>some (.d p.1,p.2) else match ρ[i]? with
  | some (some (.d x))=>some (.d x,ρ)
  | some (some (.own xs))=>some (.own xs,ρ.set i none)
  | _=>none
 | .ob _ _ _=>none
def dP(np:Nat)(fe:Fe):Fs:=fun ρ=>(fe ρ).bind fun p=>(B0 np p.2 p.1).bind fun q=>some (.rt q.1,q.2)
theorem bh{np:Nat}(hnp:∀ k,fix k=true->k < np)(h:DE X e fe):DS X fix (.Return (some e) pos) (dP np fe):=⟨PS.imp (P5 h.ok) fun D σ H h=>by
 obtain ⟨Fz,ρ,o,ρ',r,e,q⟩:=h
 unfold dP at e
 cases e1:fe ρ with
 | none=>rw [e1] at e;cases e
 | some p =>
  obtain ⟨w,ρ1⟩:=p
  simp only [e1,Option.bind_some] at e
  cases e2:B0 np ρ1 w with
  | none=>rw [e2] at e;cases e
  | some z =>
   obtain ⟨w2,ρ2⟩:=z
   simp only [e2,Option.bind_some] at e
   cases e
   refine ⟨Fz,ρ,w,ρ1,r,e1,fun v H1 Fz1 p1=>?_⟩
   cases w with
   | d x =>
    cases e2
    exact q σ H1 Fz1 p1.sp v ⟨p1.rep1,fun _ _ e=>nomatch e⟩
   | ob _ _ _=>cases e2
   | own xs =>
    cases e2
    exact q σ H1 Fz1 p1.sp v ⟨p1.rep1,fun ys p z1 z2=>by
     cases z1;subst z2
     obtain ⟨h1,h2,h3⟩:=p1.fresh p (by rw [cT];exact List.mem_cons_self)
     exact ⟨h2,h3,.inr h1⟩⟩
   | sl i =>
    have hs:σ[i]? = some (some v):=p1.rep1
    unfold B0 at e2
    simp only at e2
    by_cases hi:i < np
    . rw [if_pos hi] at e2
      cases e3:f7 ρ1 (.sl i) with
      | none=>rw [e3] at e2;cases e2
      | some z =>
       obtain ⟨x,ρ3⟩:=z
       simp only [e3,Option.bind_some] at e2
       cases e2
       obtain ⟨Fz2,p2,d2⟩:=p1.esc (xs:=[x]) (ρ2:=ρ') (by unfold bw;rw [e3];rfl)
       cases d2 with
       | cons d3 _=>exact q σ H1 Fz2 p2.sp v ⟨d3,fun _ _ e=>nomatch e⟩
    . rw [if_neg hi] at e2
      split at e2
      . rename_i x g
        cases e2
        obtain ⟨u,hu,hr⟩:=p1.rel.val i _ g
        rw [hs] at hu
        cases hu
        exact q σ H1 Fz1 p1.sp v ⟨hr,fun _ _ e=>nomatch e⟩
      . rename_i xs g
        cases e2
        obtain ⟨u,hu,p,us,g1,g2,g3⟩:=p1.rel.val i _ g
        rw [hs] at hu
        cases hu
        subst g1
        have pw:Own ρ1 σ p:=⟨i,xs,g,hs⟩
        have hset:∀ {j:Nat} {w:W},(ρ1.set i none)[j]? = some (some w)->j ≠ i /\ ρ1[j]? = some (some w):=fun {j w} z=>by
         by_cases hj:i=j
         . subst hj;rw [bN g] at z;cases z
         . rw [List.getElem?_set_ne hj] at z;exact ⟨fun y=>hj y.symm,z⟩
        have no:¬ Own (ρ1.set i none) σ p:=fun ⟨j,ys,h1,h2⟩=>by
         obtain ⟨hj,h3⟩:=hset h1
         exact hj (p1.rel.apart j i ys xs p h3 g h2 hs)
        have sub:∀ q,Own (ρ1.set i none) σ q->Own ρ1 σ q:=fun q ⟨j,ys,h1,h2⟩=>⟨j,ys,(hset h1).2,h2⟩
        have rl:Rel X.K Fz1 (ρ1.set i none) σ H1:=⟨by rw [List.length_set];exact p1.rel.len,fun j w z=>p1.rel.val j w (hset z).2,fun j k as bs q z1 z2 z3 z4=>p1.rel.apart j k as bs q (hset z1).2 (hset z2).2 z3 z4,fun q z=>p1.rel.gD q (sub q z),p1.rel.fzl,fun k c gg ns e=>(p1.rel.obj k c gg ns (hset e).2).un fun k w e=>⟨w,(hset e).2⟩,fun j k c c' g g' ns ns' q z1 z2=>p1.rel.oba j k c c' g g' ns ns' q (hset z1).2 (hset z2).2⟩
        have sp:cX X.K fix Fz Fz1 ρ (ρ1.set i none) σ σ H H1:=⟨rl,p1.step.weak fun _=>.inl,fun q z=>.inl (p1.own q (sub q z)),fun _ _=>rfl,fun k w hk z=>by
         obtain ⟨w',z1,z2⟩:=p1.kept.ke k w z
         have:i ≠ k:=fun y=>hi (by rw [y];exact hnp k hk)
         exact ⟨w',by rw [List.getElem?_set_ne this];exact z1,z2⟩,rfl,fun p ⟨j,c,gg,ns,e1,e2⟩=>.inl ⟨j,c,gg,ns,(p1.kept.ob j c gg ns).mp (hset e1).2,e2⟩⟩
        exact q σ H1 Fz1 sp (.ref p) ⟨⟨p,us,rfl,g2,g3⟩,fun ys p' z1 z2=>by
         cases z1;cases z2
         exact ⟨p1.rel.gD p pw,no,.inl (p1.own p pw)⟩⟩
      . cases e2⟩
def fIf(ft:Ft)(f g:Fs):Fs:=fun ρ=>(ft ρ).bind fun p=>if p.1=true then f p.2 else g p.2
theorem IP {K : PySem.W.Frag} {D : Ends} {Fz Fz1 : Addr -> Prop} {ρ ρ1 ρ' : Rho} {σ : St} {H H1 : Hp} {o : Out} (p1 : aP K Fz Fz1 ρ ρ1 σ H H1 [] []) (e : f ρ1 = some (o, ρ'))
    (q:∀ σ' H' Fz',cX K fix Fz Fz' ρ ρ' σ σ' H H'->goal K D Fz' ρ ρ' σ σ' H H' o):tS K fix f D σ H1:=by
 refine ⟨Fz1,ρ1,o,ρ',p1.rel,e,fun σ2 H2 Fz2 p2=>?_⟩
 have:=q σ2 H2 Fz2 (p1.sp.trans p2)
 cases o with
 | rt r=>exact fun v hv=>this v (hv.after (p1.sp (fix:=fix)))
 | _=>exact this
theorem gG{a b:List Stmt}(hc:DT X e ft)(ha:DSs X fix a f)(hb:DSs X fix b g):DS X fix (.If e a b pos) (fIf ft f g):=⟨PS.imp (RO hc.ok ha.ok hb.ok) fun D σ H h=>by
 obtain ⟨Fz,ρ,o,ρ',r,e,q⟩:=h
 unfold fIf at e
 cases e1:ft ρ with
 | none=>rw [e1] at e;cases e
 | some p =>
  obtain ⟨b,ρ1⟩:=p
  simp only [e1,Option.bind_some] at e
  refine ⟨Fz,ρ,b,ρ1,r,e1,fun H1 Fz1 p1=>?_⟩
  cases b with
  | true=>rw [if_pos rfl] at e ⊢;exact IP p1 e q
  | false=>rw [if_neg (by decide)] at e ⊢;exact IP p1 e q⟩
end
section
variable {K:PySem.W.Frag} {Fz Fz' Fz1:Addr->Prop} {ρ ρ' ρ1:Rho} {σ σ':St} {H H' H1:Hp} {w:W} {v:V}
theorem dZ{α:Type}{l:List (Option α)}{i j:Nat}{a:Option α}{b:α}(h:(l.set i a)[j]? = some (some b)):(j=i /\ a=some b) \/ (j ≠ i /\ l[j]? = some (some b)):=by
 by_cases z:i=j
 . subst z
   by_cases hl:i < l.length
   . rw [List.getElem?_set_self hl] at h
     exact .inl ⟨rfl,Option.some.inj h⟩
   . rw [List.getElem?_eq_none (by simpa using hl)] at h;cases h
 . rw [List.getElem?_set_ne z] at h
   exact .inr ⟨fun e=>z e.symm,h⟩
theorem Rel.store (r : Rel K Fz ρ σ H) (i : Nat) (hlt : i < 40) (h : vA K Fz H w v) (f : ∀ xs p, w = .own xs -> v = .ref p -> ¬ Fz p /\ ¬ Own ρ σ p) : Rel K Fz (ρ.set i (some w)) (σ.set i (some v)) H /\
    ∀ p,Own (ρ.set i (some w)) (σ.set i (some v)) p->Own ρ σ p \/ (v = .ref p /\ ∃ xs,w = .own xs):=by
 have own:∀ (j:Nat) (xs:OX) (p:Addr),(ρ.set i (some w))[j]? = some (some (W.own xs))->(σ.set i (some v))[j]? = some (some (V.ref p))->(j=i /\ w = .own xs /\ v = .ref p) \/ (j ≠ i /\ ρ[j]? = some (some (W.own xs)) /\ σ[j]? = some (some (V.ref p))):=fun j xs p e1 e2=>by
  rcases dZ e1 with ⟨rfl,z1⟩ | ⟨hj,z1⟩
  . rcases dZ e2 with ⟨_,z2⟩ | ⟨hj,_⟩
    . exact .inl ⟨rfl,Option.some.inj z1,Option.some.inj z2⟩
    . exact absurd rfl hj
  . rcases dZ e2 with ⟨z,_⟩ | ⟨_,z2⟩
    . exact absurd z hj
    . exact .inr ⟨hj,z1,z2⟩
 have nob:∀ {j:Nat} {c:Str} {g:Nat} {ns:List Str},(ρ.set i (some w))[j]? = some (some (W.ob c g ns))->j ≠ i /\ ρ[j]? = some (some (W.ob c g ns)):=fun {j c g ns} e=>by
  rcases dZ e with ⟨rfl,z1⟩ | ⟨hj,z1⟩
  . cases z1;exact h.elim
  . exact ⟨hj,z1⟩
 refine ⟨⟨by rw [List.length_set,List.length_set];exact r.len,fun j u e=>?_,fun j k xs ys p e1 e2 e3 e4=>?_,fun p o z=>?_,r.fzl,fun j c g ns e=>?_,fun j k c c' g g' ns ns' p e1 e2 e3 e4=>?_⟩,fun p o=>?_⟩
 . rcases dZ e with ⟨rfl,z⟩ | ⟨hj,z⟩
   . cases z
     have hl:j < σ.length:=by
      rw [<- r.len]
      have:=(List.getElem?_eq_some_iff.mp e).1
      rwa [List.length_set] at this
     exact ⟨v,by rw [List.getElem?_set_self hl],h.t⟩
   . obtain ⟨u',h1,h2⟩:=r.val j u z
     exact ⟨u',by rw [List.getElem?_set_ne (fun e=>hj e.symm)];exact h1,h2⟩
 . rcases own j xs p e1 e3 with ⟨a1,a2,a3⟩ | ⟨a1,a2,a3⟩
   . rcases own k ys p e2 e4 with ⟨b1,b2,b3⟩ | ⟨b1,b2,b3⟩
     . rw [a1,b1]
     . exact absurd ⟨k,ys,b2,b3⟩ (f xs p a2 a3).2
   . rcases own k ys p e2 e4 with ⟨b1,b2,b3⟩ | ⟨b1,b2,b3⟩
     . exact absurd ⟨j,xs,a2,a3⟩ (f ys p b2 b3).2
     . exact r.apart j k xs ys p a2 b2 a3 b3
 . obtain ⟨j,xs,e1,e2⟩:=o
   rcases own j xs p e1 e2 with ⟨a1,a2,a3⟩ | ⟨a1,a2,a3⟩
   . exact (f xs p a2 a3).1 z
   . exact r.gD p ⟨j,xs,a2,a3⟩ z
 . obtain ⟨hj,e1⟩:=nob e
   obtain ⟨h1,h2,q,C,dx,fs,h3,h4,h5,h6,h7,h8⟩:=r.obj j c g ns e1
   refine ⟨h1,h2,q,C,dx,fs,by rw [List.getElem?_set_ne (fun z=>hj z.symm)];exact h3,h4,h5,h6,h7,fun k f v e2 w e3=>?_⟩
   have ne:i ≠ g + k:=by omega
   rw [List.getElem?_set_ne ne] at e3 ⊢
   exact h8 k f v e2 w e3
 . obtain ⟨z1,z2⟩:=nob e1
   obtain ⟨z3,z4⟩:=nob e2
   rw [List.getElem?_set_ne (fun z=>z1 z.symm)] at e3
   rw [List.getElem?_set_ne (fun z=>z3 z.symm)] at e4
   exact r.oba j k c c' g g' ns ns' p z2 z4 e3 e4
 . obtain ⟨j,xs,e1,e2⟩:=o
   rcases own j xs p e1 e2 with ⟨a1,a2,a3⟩ | ⟨a1,a2,a3⟩
   . exact .inr ⟨a3,xs,a2⟩
   . exact .inl ⟨j,xs,a2,a3⟩
theorem Oh{i:Nat}{p:Addr}(h:vA K Fz H w v)(z:ObA (ρ.set i (some w)) (σ.set i (some v)) p):ObA ρ σ p:=by
 obtain ⟨j,c,g,ns,e1,e2⟩:=z
 rcases dZ e1 with ⟨rfl,z1⟩ | ⟨hj,z1⟩
 . cases z1;exact h.elim
 . rw [List.getElem?_set_ne (fun z=>hj z.symm)] at e2
   exact ⟨j,c,g,ns,z1,e2⟩
theorem Eg{fix:Nat->Bool}{i:Nat}{x:Option W}(hi:fix i=false):KpF fix ρ (ρ.set i x):=fun k w hk e=>by
 have:i ≠ k:=fun z=>by rw [z,hk] at hi;cases hi
 exact ⟨w,by rw [List.getElem?_set_ne this];exact e,id⟩
theorem Eh{fix:Nat->Bool}{i:Nat}{x:Option V}(hi:fix i=false):∀ k,fix k=true->(σ.set i x)[k]? = σ[k]? := fun k hk=>by
 have:i ≠ k:=fun z=>by rw [z,hk] at hi;cases hi
 rw [List.getElem?_set_ne this]
end
def BZ(i:Nat)(ρ:Rho):W->Option Rho
 | .d x=>some (ρ.set i (some (.d x)))
 | .own xs=>some (ρ.set i (some (.own xs)))
 | .sl j=>(f7 ρ (.sl j)).bind fun p=>some (p.2.set i (some (.d p.1)))
 | .ob _ _ _=>none
def cG(i:Nat)(fe:Fe):Fs:=fun ρ=>(fe ρ).bind fun p=>(BZ i p.2 p.1).bind fun ρ2=>some (.nx,ρ2)
section
variable {X:Cx} {fix:Nat->Bool} {pos pos':Pos} {e:Expr} {fe:Fe}
theorem L8{i:Nat}(hlt:i < 40)(hi:fix i=false){D:Ends}{σ:St}{H:Hp}{K:PySem.W.Frag}(h:tS K fix (cG i fe) D σ H):Lp (tE K fe) (FO i) D σ H:=by
 obtain ⟨Fz,ρ,o,ρ',r,e,q⟩:=h
 unfold cG at e
 cases e1:fe ρ with
 | none=>rw [e1] at e;cases e
 | some p =>
  obtain ⟨w,ρ1⟩:=p
  simp only [e1,Option.bind_some] at e
  cases e2:BZ i ρ1 w with
  | none=>rw [e2] at e;cases e
  | some ρ2 =>
   simp only [e2,Option.bind_some] at e
   cases e
   refine ⟨Fz,ρ,w,ρ1,r,e1,fun v H1 Fz1 p1=>?_⟩
   have fin:∀ {w':W} {Fz2:Addr->Prop} {ρ3:Rho},aP K Fz Fz2 ρ ρ3 σ H H1 [] []->vA K Fz2 H1 w' v->(∀ xs p,w' = .own xs->v = .ref p->H p=none /\ ¬ Fz2 p /\ ¬ Own ρ3 σ p)->ρ'=ρ3.set i (some w')->D.nx (σ.set i (some v)) H1:=by
    intro w' Fz2 ρ3 p2 hr hf he
    subst he
    obtain ⟨h1,h2⟩:=p2.rel.store i hlt hr fun xs p z1 z2=>(hf xs p z1 z2).2
    refine q (σ.set i (some v)) H1 Fz2 ⟨h1,p2.step.weak fun _=>.inl,fun p z=>?_,Eh hi,fun k w hk z=>?_,by rw [List.length_set],fun p ⟨j,c,g,ns,e1,e2⟩=>.inl ?_⟩
    . rcases h2 p z with z | ⟨z1,xs,z2⟩
      . exact .inl (p2.own p z)
      . exact .inr (hf xs p z2 z1).1
    . obtain ⟨w1,y1,y2⟩:=p2.kept.ke k w z
      obtain ⟨w3,y3,y4⟩:=Eg (x:=some w') hi k w1 hk y1
      exact ⟨w3,y3,fun y=>y4 (y2 y)⟩
    . rcases dZ e1 with ⟨rfl,z1⟩ | ⟨hj,z1⟩
      . cases z1;exact hr.elim
      . rw [List.getElem?_set_ne (fun z=>hj z.symm)] at e2
        exact ⟨j,c,g,ns,(p2.kept.ob j c g ns).mp z1,e2⟩
   cases w with
   | ob _ _ _=>cases e2
   | d x=>cases e2;exact fin (w':=.d x) p1.drop p1.rep1 (fun _ _ e=>nomatch e) rfl
   | own xs =>
    cases e2
    exact fin (w':=.own xs) p1.drop p1.rep1 (fun ys p z1 z2=>by
     cases z1;subst z2
     exact p1.fresh p (by rw [cT];exact List.mem_cons_self)) rfl
   | sl j =>
    unfold BZ at e2
    simp only at e2
    cases e3:f7 ρ1 (.sl j) with
    | none=>rw [e3] at e2;cases e2
    | some z =>
     obtain ⟨x,ρ3⟩:=z
     simp only [e3,Option.bind_some] at e2
     cases e2
     obtain ⟨Fz2,p2,d2⟩:=p1.esc (xs:=[x]) (ρ2:=ρ3) (by unfold bw;rw [e3];rfl)
     cases d2 with
     | cons d3 _=>exact fin (w':=.d x) p2 d3 (fun _ _ e=>nomatch e) rfl
theorem QQ {i : Nat} {x : Str} (hi : fix i = false) (hN : X.N.Nodup) (hn : X.N[i]? = some x) (hx : Loc X.env.scope x) (he : DE X e fe) (hs : swapsWith e (some (.Name x pos')) pos.line X.env = pure false := by rfl)
    (hf:X.fn x=true \/ X.env.scope.names.lookup x=some .local:=by first | exact .inl rfl | exact .inr rfl | assumption) (hlt:i < 40:=by first | decide | omega):DS X fix (.Assign [.Name x pos'] e pos) (cG i fe) :=
 ⟨PS.imp (P9 hN hn hx he.ok hs hf) fun D σ H h=>L8 hlt hi h⟩
end
end
section
def jV(np:Nat)(ρ:Rho):List W:=(ρ.take np).map fun o=>o.getD (.d .none)
def Aj:List W->List Bool->Bool
 | .own _ :: ws,b :: bs=>b && Aj ws bs
 | _ :: ws,_ :: bs=>Aj ws bs
 | _,_=>true
def fnOf(fx:List Bool)(n:Nat)(fs:Fs):Fn:=fun ws=>if ws.length=fx.length /\ Aj ws fx=true then (fs (ws.map some ++ List.replicate (n - fx.length) none)).bind fun p=>match p.1 with
 | .rt r=>some (r,jV fx.length p.2)
 | .nx=>some (.d .none,jV fx.length p.2)
 | _=>none else none
def rS(fx:List Bool):Nat->Bool:=fun k=>fx.getD k false
theorem aK{fx:List Bool}{k:Nat}(h:rS fx k=true):k < fx.length:=by
 unfold rS at h
 by_cases hk:k < fx.length
 . exact hk
 . rw [List.getD_eq_getElem?_getD,List.getElem?_eq_none (by omega)] at h;cases h
theorem IQ:∀ {ws:List W} {fx:List Bool},Aj ws fx=true->∀ {k:Nat} {xs:OX},ws[k]? = some (W.own xs)->k < fx.length->rS fx k=true
 | [],_,_,k,xs,e,_=>by simp at e
 | _ :: _,[],_,k,xs,_,h=>by simp at h
 | w :: ws,b :: bs,h,0,xs,e,_=>by
  simp at e;subst e
  have:b=true /\ Aj ws bs=true:=by simpa [Aj] using h
  simp [rS,this.1]
 | w :: ws,b :: bs,h,k + 1,xs,e,hk=>by
  have h':Aj ws bs=true:=by
   cases w with
   | own _ =>
    have:b=true /\ Aj ws bs=true:=by simpa [Aj] using h
    exact this.2
   | d _=>exact h
   | sl _=>exact h
   | ob _ _ _=>exact h
  have:=IQ h' (k:=k) (xs:=xs) (by simpa using e) (by simpa using hk)
  simpa [rS] using this
section
variable {K:PySem.W.Frag} {Fz:Addr->Prop} {H:Hp} {ws:List W} {vs:List V} {N:List Str}
theorem Ge{n:Nat}{k:Nat}{w:W}:(ws.map some ++ List.replicate n none)[k]? = some (some w) ↔ ws[k]? = some w:=by
 by_cases hk:k < ws.length
 . rw [List.getElem?_append_left (by simpa using hk),List.getElem?_map]
   cases ws[k]? <;> simp
 . rw [List.getElem?_append_right (by simpa using hk),List.getElem?_replicate]
   have:ws[k]? = none:=List.getElem?_eq_none (by omega)
   rw [this]
   split <;> simp
theorem CL(a:uJ K Fz H ws vs)(hn:ws.length <= N.length):Rel K Fz (ws.map some ++ List.replicate (N.length - ws.length) none) (start N vs) H /\ ∀ p,Own (ws.map some ++ List.replicate (N.length - ws.length) none) (start N vs) p ↔ yx ws vs p:=by
 have hl:=a.len
 have gw:∀ {k:Nat} {w:W},(ws.map some ++ List.replicate (N.length - ws.length) none)[k]? = some (some w) ↔ ws[k]? = some w:=fun {k w}=>by
  by_cases hk:k < ws.length
  . rw [List.getElem?_append_left (by simpa using hk),List.getElem?_map]
    cases ws[k]? <;> simp
  . rw [List.getElem?_append_right (by simpa using hk),List.getElem?_replicate]
    have:ws[k]? = none:=List.getElem?_eq_none (by omega)
    rw [this]
    split <;> simp
 have gv:∀ {k:Nat} {v:V},(start N vs)[k]? = some (some v) ↔ vs[k]? = some v:=fun {k v}=>by
  unfold start
  by_cases hk:k < vs.length
  . rw [List.getElem?_append_left (by simpa using hk),List.getElem?_map]
    cases vs[k]? <;> simp
  . rw [List.getElem?_append_right (by simpa using hk),List.getElem?_replicate]
    have:vs[k]? = none:=List.getElem?_eq_none (by omega)
    rw [this]
    split <;> simp
 have ow:∀ p,Own (ws.map some ++ List.replicate (N.length - ws.length) none) (start N vs) p ↔ yx ws vs p:=fun p =>
  ⟨fun ⟨i,xs,e1,e2⟩=>⟨i,xs,gw.mp e1,gv.mp e2⟩,fun ⟨i,xs,e1,e2⟩=>⟨i,xs,gw.mpr e1,gv.mpr e2⟩⟩
 have nob:∀ {i:Nat} {c:Str} {g:Nat} {ns:List Str},(ws.map some ++ List.replicate (N.length - ws.length) none)[i]? ≠ some (some (W.ob c g ns)):=fun {i c g ns} e=>by
  obtain ⟨v,h1,h2⟩:=a.rep i _ (gw.mp e)
  exact h2
 refine ⟨⟨by unfold start;simp [hl],fun i w e=>?_,fun i j xs ys p e1 e2 e3 e4=>a.apart i j xs ys p (gw.mp e1) (gw.mp e2) (gv.mp e3) (gv.mp e4),fun p o=>?_,a.fzl,fun i c g ns e=>absurd e nob,fun i j c c' g g' ns ns' p e=>absurd e nob⟩,ow⟩
 . obtain ⟨v,h1,h2⟩:=a.rep i w (gw.mp e)
   exact ⟨v,gv.mpr h1,h2.t⟩
 . obtain ⟨k,xs,e1,e2⟩:=(ow p).mp o
   exact a.gD k xs p e1 e2
end
theorem L9 {fx : List Bool} {o : Out} {ρ' : Rho} {r : W} {fin : List W} (e : (match o with | .rt r => some (r, jV fx.length ρ') | .nx => some (W.d .none, jV fx.length ρ') | _ => none) = some (r, fin)) :
    fin=jV fx.length ρ' /\ (o = .rt r \/ (o = .nx /\ r = .d .none)):=by
 cases o with
 | rt r'=>simp only at e;cases e;exact ⟨rfl,.inl rfl⟩
 | nx=>simp only at e;cases e;exact ⟨rfl,.inr ⟨rfl,rfl⟩⟩
 | bk=>simp only at e;cases e
 | ct=>simp only at e;cases e
section
variable {P:Program} {w:World} {K:PySem.W.Frag} {mg:Str->Option Value} {base:Heap}
theorem Oi {x qual : Str} {st : Stmt} {f : Addr} {fd : FuncData} {N ps : List Str} {k : Nat} {sp : Sp} (F : Fun K x qual st f fd) (S : aN N ps (ah st)) (len : ∀ vs H Q E, sp vs H Q E -> vs.length = ps.length)
    (hbody:∀ (cdv:Value),fd.code=cdv->∀ (A:Around) (outer:List Env) (s:Shared) (H:Hp) (vs:List V) (Q:VK) (E:XK),bZ k (A.deeper (envOfC qual (ah st) s.heap.objs.size f cdv))->sp vs H Q E ->
     ∃ t,PSs (ja CX0 P w K mg base N qual (ah st) f cdv A outer s H E).nox (aG st) t /\ t { nx:=fun _ H'=>Q .non H',rt:=Q } (start N vs) H):jd P w K mg base CX0 (k + 1) f fd ps sp:=by
 obtain ⟨oc,od,kV,doc,pm,an,cdv,ct,osl,rfl,lk,hcd⟩:=F.ex
 refine Lz lk hcd S len fun A outer s H vs Q E hr hsp=>?_
 obtain ⟨t,h,q⟩:=hbody cdv rfl A outer s H vs Q E hr hsp
 exact ⟨t,h.nox,q⟩
theorem Ei {x qual : Str} {st : Stmt} {f : Addr} {fd : FuncData} {N ps : List Str} {k : Nat} {fx : List Bool} {fs : Fs} (F : Fun K x qual st f fd) (S : aN N ps (ah st)) (hp : ps.length = fx.length) (hn : fx.length <= N.length)
    (hbody:∀ (cdv:Value),fd.code=cdv->∀ (A:Around) (outer:List Env) (s:Shared) (H:Hp) (E:XK),bZ k (A.deeper (envOfC qual (ah st) s.heap.objs.size f cdv)) ->
     DSs (ja CX0 P w K mg base N qual (ah st) f cdv A outer s H E).nox (rS fx) (aG st) fs):jd P w K mg base CX0 (k + 1) f fd ps (spF K fx.length (fnOf fx N.length fs)):=by
 refine Oi F S (fun vs H Q E h=>by rw [h.1,hp]) fun cdv hcdv A outer s H vs Q E hr h=>?_
 obtain ⟨hv,Fz,ws,r,fin,a,e,q⟩:=h
 refine ⟨_,(hbody cdv hcdv A outer s H E hr).ok,?_⟩
 unfold fnOf at e
 by_cases hc:ws.length=fx.length /\ Aj ws fx=true
 . rw [if_pos hc] at e
   obtain ⟨hw,hf⟩:=hc
   cases e1:fs (ws.map some ++ List.replicate (N.length - fx.length) none) with
   | none=>rw [e1] at e;cases e
   | some p =>
    obtain ⟨o,ρ'⟩:=p
    simp only [e1,Option.bind_some] at e
    rw [<- hw] at e1
    obtain ⟨r0,ow0⟩:=CL (N:=N) a (by omega)
    refine ⟨Fz,_,o,ρ',r0,e1,fun σ' H' Fz' sp=>?_⟩
    have slot:∀ (k:Nat) (xs:OX) (p:Addr),ws[k]? = some (W.own xs)->vs[k]? = some (V.ref p)->k < fx.length /\ σ'[k]? = some (some (V.ref p)) /\ ∃ w',ρ'[k]? = some (some w') /\ isL w'=true:=by
     intro k xs p h1 h2
     have hk:k < fx.length:=by rw [<- hw];exact (List.getElem?_eq_some_iff.mp h1).1
     have hfix:=IQ hf h1 hk
     have s1:(start N vs)[k]? = some (some (V.ref p)):=by
      unfold start
      rw [List.getElem?_append_left (by simp;omega),List.getElem?_map,h2];rfl
     have s2:(ws.map some ++ List.replicate (N.length - ws.length) none)[k]? = some (some (W.own xs)):=by
      rw [List.getElem?_append_left (by simp;omega),List.getElem?_map,h1];rfl
     obtain ⟨w',z1,z2⟩:=sp.kept k _ hfix s2
     exact ⟨hk,by rw [sp.same k hfix];exact s1,w',z1,z2 rfl⟩
    have fin' : ∀ (k : Nat) (p : Addr) (xs : OX), ws[k]? = some (W.own xs) -> vs[k]? = some (V.ref p) ->
        (∃ ys us,(jV fx.length ρ')[k]? = some (W.own ys) /\ H' p=some (hoX ys us) /\ aD K Fz' H' us (dX ys) /\ ¬ Fz' p) \/ (∃ ys,(jV fx.length ρ')[k]? = some (W.d (.list ys)) /\ Dr K Fz' H' (.ref p) (.list ys)):=by
     intro k p xs h1 h2
     obtain ⟨hk,s1,w',s2,s3⟩:=slot k xs p h1 h2
     have g:(jV fx.length ρ')[k]? = some w':=by
      unfold jV
      rw [List.getElem?_map,List.getElem?_take_of_lt hk,s2];rfl
     obtain ⟨u,hu,hr'⟩:=sp.rel.val k w' s2
     rw [s1] at hu
     cases hu
     cases w' with
     | own ys =>
      obtain ⟨p',us,z1,z2,z3⟩:=hr'
      cases z1
      exact .inl ⟨ys,us,g,z2,z3,sp.rel.gD p ⟨k,ys,s2,s1⟩⟩
     | d x =>
      cases x with
      | list ys=>exact .inr ⟨ys,g,hr'⟩
      | _=>cases s3
     | sl _=>cases s3
     | ob _ _ _=>cases s3
    have noO:∀ q,¬ ObA (ws.map some ++ List.replicate (N.length - ws.length) none) (start N vs) q:=fun q ⟨i,c,g,ns,z1,z2⟩=>by
     obtain ⟨v,h1,h2⟩:=a.rep i (.ob c g ns) (Ge.mp z1)
     exact h2
    have step':Step (yx ws vs) Fz Fz' H H':=sp.step.weak fun q z=>z.elim (ow0 q).mp fun z=>(noO q z).elim
    have noA:∀ p us y,H' p=some (hoX y us)->¬ Fz' p->¬ Own ρ' σ' p->yx ws vs p->False:=fun p us y h1 h2 h3 ⟨k,xs,h4,h5⟩=>by
     obtain ⟨hk,s1,w',s2,s3⟩:=slot k xs p h4 h5
     cases w' with
     | own ys=>exact h3 ⟨k,ys,s2,s1⟩
     | d x =>
      cases x with
      | list ys =>
       obtain ⟨u,hu,hr'⟩:=sp.rel.val k _ s2
       rw [s1] at hu
       cases hu
       exact h2 (Dr.fz hr')
      | _=>cases s3
     | sl _=>cases s3
     | ob _ _ _=>cases s3
    obtain ⟨rfl,ho⟩:=L9 e
    rcases ho with rfl | ⟨rfl,rfl⟩
    . intro v rr
      refine q v H' Fz' ⟨step',rr.rep,fun xs p z1 z2=>?_,fun k p xs h1 h2=>fin' k p xs h1 h2⟩
      obtain ⟨y1,y2,y3⟩:=rr.fresh xs p z1 z2
      refine ⟨?_,y1⟩
      rcases y3 with y3 | y3
      . subst z1;subst z2
        obtain ⟨p',us,e1,e2,_⟩:=rr.rep
        cases e1
        exact (noA p us _ e2 y1 y2 ((ow0 p).mp y3)).elim
      . exact y3
    . exact q .non H' Fz' ⟨step',(show Dr K Fz' H' V.non .none from .non),fun _ _ e=>(nomatch e),fun k p xs h1 h2=>fin' k p xs h1 h2⟩
 . rw [if_neg hc] at e;cases e
theorem Ma {x qual : Str} {st : Stmt} {f : Addr} {fd : FuncData} {N ps : List Str} {k : Nat} {fx : List Bool} {fs : Fs} (F : Fun K x qual st f fd) (S : aN N ps (ah st)) (hp : ps.length = fx.length) (hn : fx.length <= N.length)
    (hbody:∀ (cdv:Value) (A:Around) (outer:List Env) (s:Shared) (H:Hp) (E:XK),bZ k (A.deeper (envOfC qual (ah st) s.heap.objs.size f cdv)) ->
     DSs (ja CX0 P w K mg base N qual (ah st) f cdv A outer s H E).nox (rS fx) (aG st) fs):jd P w K mg base CX0 (k + 1) f fd ps (spF K fx.length (fnOf fx N.length fs)) :=
 Ei F S hp hn fun cdv _=>hbody cdv
theorem jd.fn{CX:CXT}{k np:Nat}{f:Addr}{fd:FuncData}{ps:List Str}{F G:Fn}(h:jd P w K mg base CX k f fd ps (spF K np F))(i:∀ ws r,G ws=some r->F ws=some r):jd P w K mg base CX k f fd ps (spF K np G) :=
 h.imp fun vs H Q E ⟨hv,Fz,ws,r,fin,a,e,q⟩=>⟨hv,Fz,ws,r,fin,a,i ws _ e,q⟩
end
section
variable {K:PySem.W.Frag} {Fz Fz1:Addr->Prop} {ρ ρ1:Rho} {σ:St} {H H1:Hp} {ws:List W} {vs:List V}
theorem aP.write (a : aP K Fz Fz1 ρ ρ1 σ H H1 ws vs) {i : Nat} {xs ys : List D} {p : Addr} {us : List V} (e1 : ρ1[i]? = some (some (.fr xs))) (e2 : σ[i]? = some (some (V.ref p))) (d : aD K Fz1 H1 us ys) {x : D} {v : V} (dx : Dr K Fz1 H1 v x) :
    aP K Fz Fz1 ρ (ρ1.set i (some (.fr ys))) σ H (upd H1 p (.lst us)) [.d x] [v]:=by
 have own:Own ρ1 σ p:=⟨i,.l xs,e1,e2⟩
 have nf:¬ Fz1 p:=a.rel.gD p own
 have ne:∀ q o,H1 q=some o->q ≠ p->upd H1 p (.lst us) q=some o:=fun q o e h=>by rw [aL h];exact e
 have st:Step (Own ρ1 σ) Fz1 Fz1 H1 (upd H1 p (.lst us)):=by
  refine ⟨fun q z e=>a.rel.fzl q z (ba q e),fun q o e n=>ne q o e fun z=>n (z ▸ own),ba,fun _ z=>z,fun _ z=>.inl z⟩
 have old:∀ {j ys'},(ρ1.set i (some (.fr ys)))[j]? = some (some (W.own ys'))->∃ zs,ρ1[j]? = some (some (W.own zs)):=fun {j ys'} h=>by
  rcases dZ h with ⟨rfl,_⟩ | ⟨_,z⟩
  . exact ⟨.l xs,e1⟩
  . exact ⟨ys',z⟩
 have ow:∀ q,Own (ρ1.set i (some (.fr ys))) σ q->Own ρ1 σ q:=fun q ⟨j,zs,h1,h2⟩=>by
  obtain ⟨zs',z⟩:=old h1
  exact ⟨j,zs',z,h2⟩
 have kp:Kp ρ1 (ρ1.set i (some (.fr ys))):=by
  refine ⟨fun k w h=>?_,fun k c g ns=>?_,fun k w h=>?_⟩
  . by_cases hk:i=k
    . subst hk;exact ⟨_,bN e1,fun _=>rfl⟩
    . exact ⟨w,by rw [List.getElem?_set_ne hk];exact h,id⟩
  . by_cases hk:i=k
    . subst hk;rw [bN e1,e1];exact ⟨fun z=>(nomatch z),fun z=>(nomatch z)⟩
    . rw [List.getElem?_set_ne hk]
  . by_cases hk:i=k
    . subst hk;exact ⟨_,e1⟩
    . rw [List.getElem?_set_ne hk] at h;exact ⟨w,h⟩
 refine ⟨⟨by rw [List.length_set];exact a.rel.len,fun j w h=>?_,fun j k as bs q h1 h2 h3 h4=>?_,fun q z=>a.rel.gD q (ow q z),st.fzl,a.rel.Sv st kp,a.rel.LU kp⟩,.cons (a.rel.dr st dx) .nil,fun q hq=>?_,dQ,a.step.trans st fun q z=>.inl (a.own q z),fun q z=>a.own q (ow q z),a.kept.trans kp⟩
 . rcases dZ h with ⟨rfl,z⟩ | ⟨hj,z⟩
   . cases z
     exact ⟨_,e2,p,us,rfl,bt,a.rel.Aa st d⟩
   . obtain ⟨u,h1,h2⟩:=a.rel.val j w z
     refine ⟨u,h1,?_⟩
     cases w with
     | d y=>exact a.rel.dr st h2
     | sl _=>exact h2
     | ob _ _ _=>exact h2
     | own zs =>
      obtain ⟨q,us',z1,z2,z3⟩:=h2
      subst z1
      refine ⟨q,us',rfl,ne q _ z2 fun y=>?_,a.rel.Aa st z3⟩
      subst y
      exact hj (a.rel.apart j i zs (.l xs) q z e1 h1 e2)
 . obtain ⟨as',z1⟩:=old h1
   obtain ⟨bs',z2⟩:=old h2
   exact a.rel.apart j k as' bs' q z1 z2 h3 h4
 . rw [jn] at hq;exact absurd hq (by simp [frs])
theorem aP.QR{w1:W}{v1:V}(a:aP K Fz Fz1 ρ ρ1 σ H H1 (w1 :: ws) (v1 :: vs)):aP K Fz Fz1 ρ ρ1 σ H H1 ws vs /\ wU K Fz1 σ H1 w1 v1:=by
 have hr:wU K Fz1 σ H1 w1 v1 /\ Paired (wU K Fz1 σ H1) ws vs:=by
  cases a.rep with
  | cons x y=>exact ⟨x,y⟩
 have sub:∀ q,q ∈ frs ws vs->q ∈ frs (w1 :: ws) (v1 :: vs):=fun q hq=>by
  cases w1 with
  | d y=>rw [jn];exact hq
  | sl i=>rw [jj];exact hq
  | ob _ _ _=>rw [pT];exact hq
  | own zs =>
   obtain ⟨p',us,rfl,_⟩:=hr.1
   rw [cT];exact List.mem_cons_of_mem _ hq
 have nd:(frs ws vs).Nodup:=by
  have:=a.nd
  cases w1 with
  | d y=>rw [jn] at this;exact this
  | sl i=>rw [jj] at this;exact this
  | ob _ _ _=>rw [pT] at this;exact this
  | own zs =>
   obtain ⟨p',us,rfl,_⟩:=hr.1
   rw [cT] at this;exact (List.nodup_cons.mp this).2
 exact ⟨⟨a.rel,hr.2,fun p hp=>a.fresh p (sub p hp),nd,a.step,a.own,a.kept⟩,hr.1⟩
end
def kF(ρ:Rho)(i:Nat):Option (List D):=match ρ[i]? with
 | some (some (.own (.l xs)))=>some xs
 | _=>none
def sT(ρ:Rho)(i:Nat):Option OX:=match ρ[i]? with
 | some (some (.own x))=>some x
 | _=>none
theorem nX{ρ:Rho}{i:Nat}{xs:List D}(h:kF ρ i=some xs):ρ[i]? = some (some (W.fr xs)):=by
 unfold kF at h
 split at h
 . rename_i ys e;cases h;exact e
 . cases h
def jE(h:List D->List D->Option (D × List D))(fo:Fe)(fa:Fa):Fe:=fun ρ=>(fo ρ).bind fun p=>match p.1 with
 | .sl i=>if (kF p.2 i).isSome then (fa p.2).bind fun q=>(bw q.2 q.1).bind fun z=>(kF z.2 i).bind fun xs=>(h xs z.1).bind fun r=>some (.d r.1,z.2.set i (some (.fr r.2))) else none
 | _=>none
theorem Gh {h : List D -> List D -> Option (D × List D)} {fo : Fe} {fa : Fa} {ρ ρ' : Rho} {w : W} (e : jE h fo fa ρ = some (w, ρ')) :
    ∃ i ρ1 ws ρ2 ys ρ3 xs x zs,fo ρ=some (.sl i,ρ1) /\ (∃ as,ρ1[i]? = some (some (W.fr as))) /\ fa ρ1=some (ws,ρ2) /\ bw ρ2 ws=some (ys,ρ3) /\ ρ3[i]? = some (some (W.fr xs)) /\ h xs ys=some (x,zs) /\ w = .d x /\ ρ'=ρ3.set i (some (.fr zs)):=by
 unfold jE at e
 cases e1:fo ρ with
 | none=>rw [e1] at e;cases e
 | some p =>
  obtain ⟨w1,ρ1⟩:=p
  simp only [e1,Option.bind_some] at e
  cases w1 with
  | d _=>cases e
  | own _=>cases e
  | ob _ _ _=>cases e
  | sl i =>
   simp only at e
   by_cases hc:(kF ρ1 i).isSome=true
   . rw [if_pos hc] at e
     obtain ⟨as,ha⟩:=Option.isSome_iff_exists.mp hc
     cases e2:fa ρ1 with
     | none=>rw [e2] at e;cases e
     | some q =>
      obtain ⟨ws,ρ2⟩:=q
      simp only [e2,Option.bind_some] at e
      cases e3:bw ρ2 ws with
      | none=>rw [e3] at e;cases e
      | some z =>
       obtain ⟨ys,ρ3⟩:=z
       simp only [e3,Option.bind_some] at e
       cases e5:kF ρ3 i with
       | none=>rw [e5] at e;cases e
       | some xs =>
        simp only [e5,Option.bind_some] at e
        cases e4:h xs ys with
        | none=>rw [e4] at e;cases e
        | some r =>
         obtain ⟨x,zs⟩:=r
         simp only [e4,Option.bind_some] at e
         cases e
         exact ⟨i,ρ1,ws,ρ2,ys,ρ3,xs,x,zs,rfl,⟨as,nX ha⟩,e2,e3,nX e5,e4,rfl,rfl⟩
   . rw [if_neg hc] at e;cases e
def rT(K:PySem.W.Frag)(r:V->List V->Hp->VK->Prop)(h:List D->List D->Option (D × List D)):Prop :=
 ∀ (Fz:Addr->Prop) (H:Hp) (p:Addr) (us:List V) (xs:List D) (vs:List V) (ys:List D) (x:D) (zs:List D) (Q:VK),H p=some (.lst us)->aD K Fz H us xs->aD K Fz H vs ys->h xs ys=some (x,zs) ->
  (∀ v us',Dr K Fz H v x->aD K Fz H us' zs->Q v (upd H p (.lst us')))->r (.ref p) vs H Q
section
variable {X:Cx} {o:Expr} {fo:Fe} {fa:Fa} {r:V->List V->Hp->VK->Prop} {h:List D->List D->Option (D × List D)}
theorem Oj{K:PySem.W.Frag}(at_:rT K r h){σ:St}{H:Hp}{Q:VK}(hq:tE K (jE h fo fa) σ H Q):tBM K "list" r (tE K fo) (tA K fa) σ H Q:=by
 obtain ⟨Fz,ρ,w,ρ',rl,e,q⟩:=hq
 obtain ⟨i,ρ1,ws,ρ2,ys,ρ3,xs,x,zs,e1,⟨as,e0⟩,e2,e3,e4,e5,rfl,rfl⟩:=Gh e
 refine ⟨Fz,ρ,.sl i,ρ1,rl,e1,fun v H1 Fz1 p1=>?_⟩
 have hs:σ[i]? = some (some v):=p1.rep1
 obtain ⟨u,hu,p,us,z1,z2,z3⟩:=p1.rel.val i _ e0
 rw [hs] at hu
 cases hu
 subst z1
 refine ⟨.inl ⟨rfl,us,SqL.of z2⟩,Fz1,ρ1,ws,ρ2,p1.rel,e2,fun vs H2 Fz2 p2=>?_⟩
 obtain ⟨Fz3,p3,d3⟩:=p2.esc e3
 obtain ⟨u,hu,p',us',y1,y2,y3⟩:=p3.rel.val i _ e4
 rw [hs] at hu
 cases hu
 cases y1
 have p13:=p1.seq p3
 exact at_ Fz3 H2 p us' xs vs ys x zs Q y2 y3 d3 e5 fun v us2 dv du=>q v _ Fz3 (p13.write e4 hs du dv)
theorem mz {id : String} {name : Str} {apos cpos : Pos} {e : Expr} {es : List Expr} (slot : Slot "list" name id) (hty : typeOf (.builtin id) = pure (.type "method_descriptor")) (hm : MtR X id r) (at_ : rT X.K r h) (ho : DE X o fo) (ha : DA X (e :: es) fa)
    (hbase:attributeBase o name X.env (eval o X.env)=eval o X.env:=by rfl)
    (hfew:((backTo cpos (starEach (e :: es) X.env)).all (fun x=>!x.1) && (backToKw cpos (keywordEach [] X.env)).all (fun x=>x.1.isSome)
     && decide ((e :: es).length + ([]:List Keyword).length + (if ([]:List Keyword).isEmpty then 0 else 1) < 30))=true:=by rfl)
    (hline:(apos.endLine == cpos.line)=true:=by rfl) (hs:starEach (e :: es) X.env=(false,eval e X.env) :: starEach es X.env:=by rfl) (hplain:(backTo cpos (starEach es X.env)).any (·.1)=false:=by rfl) :
    DE X (.Call (.Attribute o name apos) (e :: es) [] cpos) (jE h fo fa) :=
 ⟨PE.imp (O7 PySem.F.plainAttrs_list slot hty hm ho.ok ha.ok hbase hfew hline hs hplain) fun _ _ _ h=>Oj at_ h⟩
end
def hAppend:List D->List D->Option (D × List D)
 | xs,[y]=>if xs.length < 16777216 then some (.none,xs ++ [y]) else none
 | _,_=>none
theorem jF{K:PySem.W.Frag}:rT K IA hAppend:=by
 intro Fz H p us xs vs ys x zs Q e1 d1 d2 e2 k
 unfold hAppend at e2
 split at e2
 . obtain ⟨hl,z⟩:=bc e2
   cases z
   cases d2 with
   | cons d3 d4 =>
    cases d4
    exact ⟨p,us,_,rfl,rfl,e1,by rw [d1.length,sizeLine_eq];exact hl,k _ _ .non (d1.append (.cons d3 .nil))⟩
 . cases e2
end
section
section
variable {K:PySem.W.Frag} {Fz Fz1:Addr->Prop} {ρ ρ1:Rho} {σ:St} {H H1:Hp} {ws:List W} {vs:List V}
theorem aP.head{w1:W}{v1:V}(a:aP K Fz Fz1 ρ ρ1 σ H H1 (w1 :: ws) (v1 :: vs)):aP K Fz Fz1 ρ ρ1 σ H H1 [w1] [v1]:=by
 have hr:=a.QR.2
 refine ⟨a.rel,.cons hr .nil,fun p hp=>a.fresh p ?_,dQ,a.step,a.own,a.kept⟩
 cases w1 with
 | d y=>rw [jn] at hp;exact absurd hp (by simp [frs])
 | sl i=>rw [jj] at hp;exact absurd hp (by simp [frs])
 | ob _ _ _=>rw [pT] at hp;exact absurd hp (by simp [frs])
 | own zs =>
  obtain ⟨p',us,rfl,_⟩:=hr
  rw [cT] at hp ⊢
  have:p=p':=by simpa [frs] using hp
  rw [this];exact List.mem_cons_self
end
theorem Mb {K : PySem.W.Frag} : rT K Ho (fun xs ys => match ys with
    | [.int i]=>if 0 <= i /\ i < xs.length /\ i < 16777216 then (xs[i.toNat]?).bind fun x=>some (x,xs.eraseIdx i.toNat) else none
    | _=>none):=by
 intro Fz H p us xs vs ys x zs Q e1 d1 d2 e2 k
 dsimp only at e2
 split at e2
 . rename_i i
   by_cases hc:0 <= i /\ i < xs.length /\ i < 16777216
   . rw [if_pos hc] at e2
     cases e3:xs[i.toNat]? with
     | none=>rw [e3] at e2;cases e2
     | some y =>
      simp only [e3,Option.bind_some] at e2
      cases e2
      cases d2 with
      | cons d3 d4 =>
       cases d3
       cases d4
       obtain ⟨v,hv,dv⟩:=d1.get e3
       have hl:=d1.length
       have hx:ixN us.length i=some i.toNat:=by
        unfold ixN
        rw [if_pos hc.1,if_pos (by omega)]
       refine ⟨p,us,i,i.toNat,v,rfl,rfl,e1,by omega,by omega,(D5 hx).1,hv,k _ _ dv ?_⟩
       exact IS d1 i.toNat
   . rw [if_neg hc] at e2;cases e2
 . cases e2
where
 IS {K:PySem.W.Frag} {Fz:Addr->Prop} {H:Hp}:∀ {us:List V} {xs:List D},aD K Fz H us xs->∀ (n:Nat),aD K Fz H (us.eraseIdx n) (xs.eraseIdx n)
  | _,_,.nil,n=>by simp;exact .nil
  | _,_,.cons h t,0=>t
  | _,_,.cons h t,n + 1=>.cons h (IS t n)
def DR : List D -> List D -> Option (D × List D) := fun xs ys => match ys with
    | [.int i]=>if 0 <= i /\ i < xs.length /\ i < 16777216 then (xs[i.toNat]?).bind fun x=>some (x,xs.eraseIdx i.toNat) else none
    | _=>none
theorem Kb{K:PySem.W.Frag}:rT K Ho DR:=Mb
theorem Hz{K:PySem.W.Frag}{Fz:Addr->Prop}{H:Hp}{us:List V}{xs:List D}{i:Int}{x:D}(d:aD K Fz H us xs)(e:atI xs i=some x):∃ v,atI us i=some v /\ Dr K Fz H v x:=by
 unfold atI at e ⊢
 rw [d.length]
 cases h:ixN xs.length i with
 | none=>rw [h] at e;cases e
 | some j =>
  simp only [h,Option.bind_some] at e ⊢
  exact d.get e
def gIx:List D->Option W
 | [.list xs,.int i]=>(atI xs i).bind fun x=>some (.d x)
 | [.tuple xs,.int i]=>(atI xs i).bind fun x=>some (.d x)
 | [.str z,.int i]=>if z.length <= 16777216 then (atI z.cps.toList i).bind fun c=>some (.d (.str ⟨#[c]⟩)) else none
 | [.dict [(.none,.list xs)],.int i]=>(atI xs i).bind fun x=>some (.d x)
 | _=>none
theorem j8{α:Type}{o:Option α}{f:α->W}{w:W}(h:(o.bind fun x=>some (f x))=some w):∃ x,o=some x /\ f x=w:=by
 cases o with
 | none=>cases h
 | some x=>exact ⟨x,rfl,Option.some.inj h⟩
theorem Ol{K:PySem.W.Frag}:Atom K (r2 (rIx K)) gIx:=by
 intro Fz H vs xs w Q l h e k
 unfold gIx at e
 split at e
 . obtain ⟨x,e1,rfl⟩:=j8 e
   obtain ⟨v,u,rfl,h1,h2⟩:=cH h
   obtain ⟨a,us,rfl,s1,d1⟩:=h1.lst
   rw [h2.int]
   obtain ⟨y,g1,g2⟩:=Hz d1 e1
   exact .inl ⟨a,us,_,y,rfl,rfl,SqL.of s1,g1,k _ _ _ (.val l g2)⟩
 . obtain ⟨x,e1,rfl⟩:=j8 e
   obtain ⟨v,u,rfl,h1,h2⟩:=cH h
   obtain ⟨a,us,rfl,s1,d1⟩:=h1.tup
   rw [h2.int]
   obtain ⟨y,g1,g2⟩:=Hz d1 e1
   exact .inr (.inl ⟨a,us,_,y,rfl,rfl,s1,g1,k _ _ _ (.val l g2)⟩)
 . rename_i z i
   by_cases hc:z.length <= 16777216
   . rw [if_pos hc] at e
     obtain ⟨c,e1,rfl⟩:=j8 e
     obtain ⟨v,u,rfl,h1,h2⟩:=cH h
     rw [h1.str,h2.int]
     exact .inr (.inr ⟨_,_,c,rfl,rfl,by rw [sizeLine_eq];exact hc,e1,k _ _ _ (.val l (.str _))⟩)
   . rw [if_neg hc] at e;cases e
 . obtain ⟨x,e1,rfl⟩:=j8 e
   obtain ⟨v,u,rfl,h1,h2⟩:=cH h
   obtain ⟨a,us,rfl,s1,d1⟩:=h1.scr
   rw [h2.int]
   obtain ⟨y,g1,g2⟩:=Hz d1 e1
   exact .inl ⟨a,us,_,y,rfl,rfl,s1,g1,k _ _ _ (.val l g2)⟩
 . cases e
section
variable {X:Cx} {a b:Expr} {fa fb:Fe} {pos:Pos}
theorem bg(ha:DE X a fa)(hb:DE X b fb)(hs:Iz b:=by exact fun _ _=>rfl):DE X (.Subscript a b pos) (fe2 gIx fa fb):=⟨PE.imp (R8 Qr ha.ok hb.ok hs) fun _ _ _ h=>vB Ol h⟩
theorem bu {x : Str} {id : String} {p : Pos} {e : Expr} {es : List Expr} {f : Fa} {r : List V -> Hp -> VK -> Prop} {g : List D -> Option W} (hc : l6 X (.builtin id) r) (at_ : Atom X.K r g) (hg : Gl X x) (hm : X.mg x = none) (hv : bootBuiltins x = some (.builtin id)) (ha : DA X (e :: es) f)
    (hn:x ≠ "__name__" := by decide) (hdb:(x == ("__debug__" : Str))=false:=by decide)
    (he:starEach (e :: es) X.env=(false,eval e X.env) :: starEach es X.env:=by rfl) (hpl:(backTo pos (starEach es X.env)).any (·.1)=false:=by rfl):DE X (.Call (.Name x p) (e :: es) [] pos) (aI g f) :=
 ⟨PE.imp (LA hc hg hm hv ha.ok hn hdb he hpl) fun _ _ _ h=>ID at_ h⟩
theorem cJ {x : Str} {T : String} {p : Pos} {e : Expr} {es : List Expr} {f : Fa} {r : List V -> Hp -> VK -> Prop} {g : List D -> Option W} (hc : l6 X (.type T) r) (at_ : Atom X.K r g) (hg : Gl X x) (hm : X.mg x = none) (hv : bootBuiltins x = some (.type T)) (ha : DA X (e :: es) f)
    (hn:x ≠ "__name__" := by decide) (hdb:(x == ("__debug__" : Str))=false:=by decide)
    (he:starEach (e :: es) X.env=(false,eval e X.env) :: starEach es X.env:=by rfl) (hpl:(backTo pos (starEach es X.env)).any (·.1)=false:=by rfl):DE X (.Call (.Name x p) (e :: es) [] pos) (aI g f) :=
 ⟨PE.imp (JW hc hg hm hv ha.ok hn hdb he hpl) fun _ _ _ h=>ID at_ h⟩
def f9:List D->Option W
 | [.list xs]=>some (.d (.int xs.length))
 | [.tuple xs]=>some (.d (.int xs.length))
 | [.str z]=>if z.length <= 16777216 then some (.d (.int z.length)) else none
 | [.dict [(.none,.list xs)]]=>some (.d (.int xs.length))
 | _=>none
theorem bM{K:PySem.W.Frag}:Atom K (fun xs H Q=>∃ x n,xs = [x] /\ R4 K x H n /\ Q (.int n) H) f9:=by
 intro Fz H vs xs w Q l h e k
 unfold f9 at e
 split at e
 . cases e
   obtain ⟨v,rfl,h1⟩:=dh h
   obtain ⟨a,us,rfl,s1,d1⟩:=h1.lst
   exact ⟨_,_,rfl,.inl ⟨us,SqL.of s1,d1.length.symm⟩,k _ _ _ (.val l (.int _))⟩
 . cases e
   obtain ⟨v,rfl,h1⟩:=dh h
   obtain ⟨a,us,rfl,s1,d1⟩:=h1.tup
   exact ⟨_,_,rfl,.inr ⟨us,s1,d1.length.symm⟩,k _ _ _ (.val l (.int _))⟩
 . obtain ⟨hc,rfl⟩:=bc e
   obtain ⟨v,rfl,h1⟩:=dh h
   rw [h1.str]
   exact ⟨_,_,rfl,⟨by rw [sizeLine_eq];exact hc,rfl⟩,k _ _ _ (.val l (.int _))⟩
 . cases e
   obtain ⟨v,rfl,h1⟩:=dh h
   obtain ⟨a,us,rfl,s1,d1⟩:=h1.scr
   exact ⟨_,_,rfl,.inl ⟨us,s1,d1.length.symm⟩,k _ _ _ (.val l (.int _))⟩
 . cases e
def ve:List D->Option W
 | [.int i]=>some (.d (.int i))
 | [.bool b]=>some (.d (.int (if b then 1 else 0)))
 | _=>none
theorem lA{K:PySem.W.Frag}:Atom K (fun xs H Q=>(∃ i,xs = [.int i] /\ Q (.int i) H) \/ ∃ k,xs = [.bl k] /\ Q (.int (if k then 1 else 0)) H) ve:=by
 intro Fz H vs xs w Q l h e k
 unfold ve at e
 split at e
 . cases e
   obtain ⟨v,rfl,h1⟩:=dh h
   rw [h1.int]
   exact .inl ⟨_,rfl,k _ _ _ (.val l (.int _))⟩
 . cases e
   obtain ⟨v,rfl,h1⟩:=dh h
   rw [h1.bool]
   exact .inr ⟨_,rfl,k _ _ _ (.val l (.int _))⟩
 . cases e
def Rv:List D->Option W:=gI0 fun i j=>.int (if j > i then j else i)
def O0:List D->Option W:=gI0 fun i j=>.int (if j < i then j else i)
theorem Om{K:PySem.W.Frag}{gv:Int->Int->Int}:Atom K (fun xs H Q=>∃ i j,xs = [.int i,.int j] /\ Q (.int (gv i j)) H) (gI0 fun i j=>.int (gv i j)):=by
 intro Fz H vs xs w Q l h e k
 unfold gI0 at e
 split at e
 . cases e
   obtain ⟨v,u,rfl,h1,h2⟩:=cH h
   rw [h1.int,h2.int]
   exact ⟨_,_,rfl,k _ _ _ (.val l (.int _))⟩
 . cases e
def pK:List D->Option W
 | [.list xs]=>some (.d (.tuple xs))
 | [.tuple xs]=>some (.d (.tuple xs))
 | _=>none
theorem jG{K:PySem.W.Frag}:Atom K (fun xs H Q=>∃ p ys,xs = [.ref p] /\ ((SqL K H p ys /\ ∀ l,H l=none->Q (.ref l) (upd H l (.tup ys))) \/ (SqT K H p ys /\ Q (.ref p) H))) pK:=by
 intro Fz H vs xs w Q l h e k
 unfold pK at e
 split at e
 . cases e
   obtain ⟨v,rfl,h1⟩:=dh h
   obtain ⟨a,us,rfl,s1,d1⟩:=h1.lst
   exact ⟨a,us,rfl,.inl ⟨SqL.of s1,fun p hp=>k _ _ _ (.Eb l hp d1)⟩⟩
 . cases e
   obtain ⟨v,rfl,h1⟩:=dh h
   obtain ⟨a,us,rfl,s1,d1⟩:=h1.tup
   refine ⟨a,us,rfl,.inr ⟨s1,k _ _ _ (.val l ?_)⟩⟩
   rcases h1 with h1 | ⟨_,_,_,_,e,_⟩
   . exact h1
   . cases e
 . cases e
def Ik:List D->Option W
 | [.list xs]=>some (.fr xs)
 | [.tuple xs]=>some (.fr xs)
 | _=>none
theorem Kc{K:PySem.W.Frag}:Atom K (fun xs H Q=>∃ p ys,xs = [.ref p] /\ (SqL K H p ys \/ SqT K H p ys) /\ ∀ l,H l=none->Q (.ref l) (upd H l (.lst ys))) Ik:=by
 intro Fz H vs xs w Q l h e k
 unfold Ik at e
 split at e
 . cases e
   obtain ⟨v,rfl,h1⟩:=dh h
   obtain ⟨a,us,rfl,s1,d1⟩:=h1.lst
   exact ⟨a,us,rfl,.inl (SqL.of s1),fun p hp=>k _ _ _ (.Hr l hp d1)⟩
 . cases e
   obtain ⟨v,rfl,h1⟩:=dh h
   obtain ⟨a,us,rfl,s1,d1⟩:=h1.tup
   exact ⟨a,us,rfl,.inr s1,fun p hp=>k _ _ _ (.Hr l hp d1)⟩
 . cases e
def boolsOf:List D->Option (List Bool)
 | []=>some []
 | .bool b :: xs=>(boolsOf xs).bind fun bs=>some (b :: bs)
 | _=>none
theorem Gi{K:PySem.W.Frag}{Fz:Addr->Prop}{H:Hp}:∀ {us:List V} {xs:List D} {bs:List Bool},aD K Fz H us xs->boolsOf xs=some bs->us=bs.map V.bl
 | _,_,_,.nil,e=>by cases e;rfl
 | _,x :: xs,bs,.cons h t,e=>by
  cases x with
  | bool b =>
   unfold boolsOf at e
   cases e1:boolsOf xs with
   | none=>rw [e1] at e;cases e
   | some cs =>
    simp only [e1,Option.bind_some] at e
    cases e
    cases h
    rw [Gi t e1];rfl
  | _=>cases e
def JG:List D->Option W
 | [.list xs]=>(boolsOf xs).bind fun bs=>some (.d (.bool (bs.all id)))
 | _=>none
theorem Gj{K:PySem.W.Frag}:Atom K (Sf K) JG:=by
 intro Fz H vs xs w Q l h e k
 unfold JG at e
 split at e
 . obtain ⟨bs,e1,rfl⟩:=j8 e
   obtain ⟨v,rfl,h1⟩:=dh h
   obtain ⟨a,us,rfl,s1,d1⟩:=h1.lst
   exact ⟨a,bs,rfl,by rw [<- Gi d1 e1];exact SqL.of s1,k _ _ _ (.val l (.bl _))⟩
 . cases e
def strsOf:List D->Option (List Str)
 | []=>some []
 | .str b :: xs=>(strsOf xs).bind fun bs=>some (b :: bs)
 | _=>none
theorem Ej{K:PySem.W.Frag}{Fz:Addr->Prop}{H:Hp}:∀ {us:List V} {xs:List D} {bs:List Str},aD K Fz H us xs->strsOf xs=some bs->us=bs.map V.str
 | _,_,_,.nil,e=>by cases e;rfl
 | _,x :: xs,bs,.cons h t,e=>by
  cases x with
  | str b =>
   unfold strsOf at e
   cases e1:strsOf xs with
   | none=>rw [e1] at e;cases e
   | some cs =>
    simp only [e1,Option.bind_some] at e
    cases e
    cases h
    rw [Ej t e1];rfl
  | _=>cases e
theorem IT{K:PySem.W.Frag}{Fz:Addr->Prop}{H:Hp}:∀ (bs:List Str),aD K Fz H (bs.map V.str) (bs.map PyData.str)
 | []=>.nil
 | b :: bs=>.cons (.str b) (IT bs)
def M9:List D->Option W
 | [.int i]=>if i.natAbs.log2 < 1920 then some (.d (.str (toString i))) else none
 | _=>none
theorem Mc{K:PySem.W.Frag}:Atom K (fun xs H Q=>∃ i,xs = [.int i] /\ i.natAbs.log2 < 1920 /\ Q (.str (toString i)) H) M9:=by
 intro Fz H vs xs w Q l h e k
 unfold M9 at e
 split at e
 . obtain ⟨hc,rfl⟩:=bc e
   obtain ⟨v,rfl,h1⟩:=dh h
   rw [h1.int]
   exact ⟨_,rfl,hc,k _ _ _ (.val l (.str _))⟩
 . cases e
end
def HA(h:D->List D->Option D)(fo:Fe)(fa:Fa):Fe:=fun ρ=>(fo ρ).bind fun p=>match p.1 with
 | .d (.str z)=>(fa p.2).bind fun q=>(cu q.2 q.1).bind fun ys=>(h (.str z) ys).bind fun x=>some (.d x,q.2)
 | _=>none
section
variable {X:Cx} {o:Expr} {fo:Fe} {fa:Fa} {r:V->List V->Hp->VK->Prop} {h:D->List D->Option D}
def Ak(K:PySem.W.Frag)(r:V->List V->Hp->VK->Prop)(h:D->List D->Option D):Prop :=
 ∀ (Fz:Addr->Prop) (H:Hp) (z:Str) (vs:List V) (ys:List D) (x:D) (Q:VK),Paired (Rdg K Fz H) vs ys->h (.str z) ys=some x->(∀ v,Dr K Fz H v x->Q v H)->r (.str z) vs H Q
theorem O9{K:PySem.W.Frag}(at_:Ak K r h){σ:St}{H:Hp}{Q:VK}(hq:tE K (HA h fo fa) σ H Q):tBM K "str" r (tE K fo) (tA K fa) σ H Q:=by
 obtain ⟨Fz,ρ,w,ρ',rl,e,q⟩:=hq
 unfold HA at e
 cases e1:fo ρ with
 | none=>rw [e1] at e;cases e
 | some p =>
  obtain ⟨w1,ρ1⟩:=p
  simp only [e1,Option.bind_some] at e
  split at e
  . rename_i z
    refine ⟨Fz,ρ,_,ρ1,rl,e1,fun v H1 Fz1 p1=>?_⟩
    have hv:Dr K Fz1 H1 v (.str z):=p1.rep1
    cases hv
    refine ⟨rfl,?_⟩
    cases e2:fa ρ1 with
    | none=>rw [e2] at e;cases e
    | some q2 =>
     obtain ⟨ws,ρ2⟩:=q2
     simp only [e2,Option.bind_some] at e
     cases e3:cu ρ2 ws with
     | none=>rw [e3] at e;cases e
     | some ys =>
      simp only [e3,Option.bind_some] at e
      cases e4:h (.str z) ys with
      | none=>rw [e4] at e;cases e
      | some x =>
       simp only [e4,Option.bind_some] at e
       cases e
       refine ⟨Fz1,ρ1,ws,ρ',p1.rel,e2,fun vs H2 Fz2 p2=>?_⟩
       exact at_ Fz2 H2 z vs ys x Q (p2.rel.kO p2.rep e3) e4 fun v dv=>q v H2 Fz2 ((p1.seq p2).made (.val p2.rel.fzl dv))
  . cases e
theorem SF {id : String} {name : Str} {apos cpos : Pos} {e : Expr} {es : List Expr} (slot : Slot "str" name id) (hty : typeOf (.builtin id) = pure (.type "method_descriptor")) (hm : MtR X id r) (at_ : Ak X.K r h) (ho : DE X o fo) (ha : DA X (e :: es) fa)
    (hbase:attributeBase o name X.env (eval o X.env)=eval o X.env:=by rfl)
    (hfew:((backTo cpos (starEach (e :: es) X.env)).all (fun x=>!x.1) && (backToKw cpos (keywordEach [] X.env)).all (fun x=>x.1.isSome)
     && decide ((e :: es).length + ([]:List Keyword).length + (if ([]:List Keyword).isEmpty then 0 else 1) < 30))=true:=by rfl)
    (hline:(apos.endLine == cpos.line)=true:=by rfl) (hs:starEach (e :: es) X.env=(false,eval e X.env) :: starEach es X.env:=by rfl) (hplain:(backTo cpos (starEach es X.env)).any (·.1)=false:=by rfl) :
    DE X (.Call (.Attribute o name apos) (e :: es) [] cpos) (HA h fo fa) :=
 ⟨PE.imp (O7 PySem.F.plainAttrs_str slot hty hm ho.ok ha.ok hbase hfew hline hs hplain) fun _ _ _ h=>O9 at_ h⟩
theorem QS {id : String} {name : Str} {apos cpos : Pos} (slot : Slot "str" name id) (hty : typeOf (.builtin id) = pure (.type "method_descriptor")) (hm : MtR X id r) (at_ : Ak X.K r h) (ho : DE X o fo)
    (hbase:attributeBase o name X.env (eval o X.env)=eval o X.env:=by rfl) (hline:(apos.endLine == cpos.line)=true:=by rfl) :
    DE X (.Call (.Attribute o name apos) [] [] cpos) (HA h fo aj) :=
 ⟨PE.imp (Qu PySem.F.plainAttrs_str slot hty hm ho.ok hbase hline) fun σ H Q hq=>by
  obtain ⟨Fz,ρ,w,ρ',rl,e,q⟩:=O9 at_ hq
  refine ⟨Fz,ρ,w,ρ',rl,e,fun v H1 Fz1 p1=>?_⟩
  obtain ⟨h1,Fz2,ρ2,ws2,ρ3,r2,e2,q2⟩:=q v H1 Fz1 p1
  cases e2
  exact ⟨h1,q2 [] H1 Fz2 (.nil r2)⟩⟩
def Ij:D->List D->Option D
 | .str a,[.list xs]=>(strsOf xs).bind fun ys=>if (ys.map (·.length)).sum + ys.length * a.length <= 16777216 then some (.str (Txt.join a ys)) else none
 | _,_=>none
theorem Oo {K : PySem.W.Frag} : Ak K (fun x xs H Q => ∃ a p, ∃ ys : List Str, x = .str a /\ xs = [.ref p] /\ (SqL K H p (ys.map V.str) \/ SqT K H p (ys.map V.str)) /\
    (ys.map (·.length)).sum + ys.length * a.length <= 16777216 /\ Q (.str (Txt.join a ys)) H) Ij:=by
 intro Fz H z vs ys x Q h e k
 unfold Ij at e
 split at e
 . rename_i a xs ha
   cases ha
   cases e1:strsOf xs with
   | none=>rw [e1] at e;cases e
   | some bs =>
    simp only [e1,Option.bind_some] at e
    obtain ⟨hc,rfl⟩:=bc e
    obtain ⟨v,rfl,h1⟩:=dh h
    obtain ⟨a,us,rfl,s1,d1⟩:=h1.lst
    exact ⟨z,a,bs,rfl,rfl,.inl (by rw [<- Ej d1 e1];exact SqL.of s1),hc,k _ (.str _)⟩
 . cases e
def HC:D->List D->Option D
 | .str a,[]=>if a.length <= 5592405 then some (.str (Txt.upper a)) else none
 | _,_=>none
theorem Md{K:PySem.W.Frag}:Ak K (fun x xs H Q=>∃ a,x = .str a /\ xs = [] /\ a.length <= 5592405 /\ Q (.str (Txt.upper a)) H) HC:=by
 intro Fz H z vs ys x Q h e k
 unfold HC at e
 split at e
 . rename_i a ha
   cases ha
   obtain ⟨hc,rfl⟩:=bc e
   cases h
   exact ⟨_,rfl,rfl,hc,k _ (.str _)⟩
 . cases e
end
def w6(fe fo fi:Fe):Fs:=fun ρ=>(aa fe (aa fo (aa fi aj)) ρ).bind fun p=>match p.1 with
 | [w,.sl s,wi]=>(rdW p.2 wi).bind fun xi=>match xi with
  | .int k=>(bw p.2 [w]).bind fun z=>match z.1 with
   | [x]=>(kF z.2 s).bind fun xs=>(ixN xs.length k).bind fun j=>some (.nx,z.2.set s (some (.fr (xs.set j x))))
   | _=>none
  | _=>none
 | _=>none
section
variable {X:Cx} {fix:Nat->Bool} {pos pos':Pos} {e o i:Expr} {fe fo fi:Fe}
theorem Me{K:PySem.W.Frag}{D:Ends}{σ:St}{H:Hp}(h:tS K fix (w6 fe fo fi) D σ H):Lp (tE K fe) (L2.uG (tE K fo) (tE K fi) O6) D σ H:=by
 obtain ⟨Fz,ρ,o,ρ',r,e,q⟩:=h
 unfold w6 at e
 cases e1:aa fe (aa fo (aa fi aj)) ρ with
 | none=>rw [e1] at e;cases e
 | some p =>
  obtain ⟨ws,ρ3⟩:=p
  simp only [e1,Option.bind_some] at e
  obtain ⟨w,ρ1,us,g1,g2,rfl⟩:=bP e1
  obtain ⟨w2,ρ2,us2,g3,g4,rfl⟩:=bP g2
  obtain ⟨w3,ρ3',us3,g5,g6,rfl⟩:=bP g4
  cases g6
  cases w2 with
  | d _=>cases e
  | own _=>cases e
  | ob _ _ _=>cases e
  | sl s =>
   simp only at e
   cases e2:rdW ρ3 w3 with
   | none=>rw [e2] at e;cases e
   | some xi =>
    simp only [e2,Option.bind_some] at e
    cases xi with
    | int k =>
     simp only at e
     cases e3:bw ρ3 [w] with
     | none=>rw [e3] at e;cases e
     | some z =>
      obtain ⟨xs1,ρ4⟩:=z
      simp only [e3,Option.bind_some] at e
      split at e
      . rename_i x
        cases e4:kF ρ4 s with
        | none=>rw [e4] at e;cases e
        | some xs =>
         simp only [e4,Option.bind_some] at e
         cases e5:ixN xs.length k with
         | none=>rw [e5] at e;cases e
         | some j =>
          simp only [e5,Option.bind_some] at e
          cases e
          refine ⟨Fz,ρ,w,ρ1,r,g1,fun v H1 Fz1 p1=>?_⟩
          refine ⟨Fz1,ρ1,.sl s,ρ2,p1.rel,g3,fun vo H2 Fz2 p2=>?_⟩
          refine ⟨Fz2,ρ2,w3,ρ3,p2.rel,g5,fun vi H3 Fz3 p3=>?_⟩
          have p123:=p1.cons (p2.cons p3)
          have hvi:Rdg K Fz3 H3 vi (.int k):=p3.rel.rdg p3.rep1 e2
          have hs:σ[s]? = some (some vo):=by
           have:=p123.QR.1.QR.2
           exact this
          obtain ⟨Fz4,p4,d4⟩:=p123.head.esc e3
          cases d4 with
          | cons dx _ =>
           have e4':=nX e4
           obtain ⟨u,hu,pp,us,z1,z2,z3⟩:=p4.rel.val s _ e4'
           rw [hs] at hu
           cases hu
           subst z1
           rw [hvi.int]
           refine ⟨pp,us,k,j,rfl,rfl,z2,by rw [z3.length];exact e5,?_⟩
           have w5:=p4.write e4' hs (z3.set dx j) dx
           exact q σ _ Fz4 w5.sp
      . cases e
    | _=>cases e
theorem Gk (he : DE X e fe) (ho : DE X o fo) (hi : DE X i fi)
    (ha:∀ v,assign (.Subscript o i pos') X.env v=(do
     let ov <- holding [v] (eval o X.env)
     let iv <- holding [v,ov] (eval i X.env)
     standAt pos'
     holding [v,ov,iv] (setItem ov iv v)
     release [v,ov,iv] []):=by intro _;rfl)
    (hs:swapsWithSole [.Subscript o i pos'] e pos.line X.env=pure false:=by rfl) (hw:swappedStores [.Subscript o i pos'] e X.env=pure none:=by rfl) (h1:(assignEach [.Subscript o i pos'] X.env).map (·.2) = [assign (.Subscript o i pos') X.env]:=by rfl) :
    DS X fix (.Assign [.Subscript o i pos'] e pos) (w6 fe fo fi) :=
 ⟨PS.imp (Lq he.ok (P8 ho.ok hi.ok set_list ha) hs hw h1) fun D σ H h=>Me h⟩
end
end
section
abbrev Fg:=D->Rho->Option Rho
abbrev Fgs:=List D->Rho->Option Rho
structure TgK (fix:Nat->Bool) (ρ ρ':Rho) (σ σ':St):Prop where
 ow:∀ p,Own ρ' σ' p->Own ρ σ p
 sm:∀ k,fix k=true->ρ'[k]? = ρ[k]?
def tG(K:PySem.W.Frag)(fix:Nat->Bool)(fg:Fg):TG:=fun v σ H Q=>∃ Fz ρ x ρ',Rel K Fz ρ σ H /\ Dr K Fz H v x /\ fg x ρ=some ρ' /\ ∀ σ',cX K fix Fz Fz ρ ρ' σ σ' H H->TgK fix ρ ρ' σ σ'->Q σ' H
def tGs(K:PySem.W.Frag)(fix:Nat->Bool)(fg:Fgs):TGs:=fun vs σ H Q=>∃ Fz ρ xs ρ',Rel K Fz ρ σ H /\ aD K Fz H vs xs /\ fg xs ρ=some ρ' /\ ∀ σ',cX K fix Fz Fz ρ ρ' σ σ' H H->TgK fix ρ ρ' σ σ'->Q σ' H
structure DG (X:Cx) (fix:Nat->Bool) (e:Expr) (fg:Fg):Prop where
 ok:PG X e (tG X.K fix fg)
structure DGs (X:Cx) (fix:Nat->Bool) (es:List Expr) (fg:Fgs):Prop where
 ok:PGs X es (tGs X.K fix fg)
theorem PG.imp{X:Cx}{e:Expr}{t t':TG}(h:PG X e t)(i:∀ v σ H Q,t' v σ H Q->t v σ H Q):PG X e t':=fun pins s σ H v u Q I r q=>h pins s σ H v u Q I r (i v σ H Q q)
theorem PGs.imp{X:Cx}{e:List Expr}{t t':TGs}(h:PGs X e t)(i:∀ v σ H Q,t' v σ H Q->t v σ H Q):PGs X e t':=fun pins s σ H v u Q I r q=>h pins s σ H v u Q I r (i v σ H Q q)
def gN(i:Nat):Fg:=fun x ρ=>some (ρ.set i (some (.d x)))
def nO:Fgs:=fun xs ρ=>match xs with | []=>some ρ | _=>none
def cE(f:Fg)(g:Fgs):Fgs:=fun xs ρ=>match xs with | x :: xs=>(f x ρ).bind fun ρ1=>g xs ρ1 | _=>none
def gT(n:Nat)(g:Fgs):Fg:=fun x ρ=>match x with | .tuple xs=>if xs.length=n then g xs ρ else none | _=>none
section
variable {X:Cx} {fix:Nat->Bool} {pos:Pos}
theorem Oq{i:Nat}{x:Str}(hi:fix i=false)(hN:X.N.Nodup)(hn:X.N[i]? = some x)(hx:Loc X.env.scope x)(hf:X.fn x=true \/ X.env.scope.names.lookup x=some .local:=by first | exact .inl rfl | exact .inr rfl | assumption)(hlt:i < 40:=by first | decide | omega):DG X fix (.Name x pos) (gN i) :=
 ⟨PG.imp (Nu hN hn hx hf) fun v σ H Q h=>by
  obtain ⟨Fz,ρ,x,ρ',r,d,e,q⟩:=h
  cases e
  obtain ⟨h1,h2⟩:=r.store (w:=.d x) i hlt d (fun _ _ e=>nomatch e)
  have h3:∀ p,Own (ρ.set i (some (W.d x))) (σ.set i (some v)) p->Own ρ σ p:=fun p z=>by
   rcases h2 p z with z | ⟨_,_,z⟩
   . exact z
   . cases z
  exact q _ ⟨h1,.refl r.fzl,fun p z=>.inl (h3 p z),Eh hi,Eg hi,by rw [List.length_set],fun p ⟨j,c,g,ns,e1,e2⟩=>.inl (by
   rcases dZ e1 with ⟨rfl,z1⟩ | ⟨hj,z1⟩
   . cases z1
   . rw [List.getElem?_set_ne (fun z=>hj z.symm)] at e2
     exact ⟨j,c,g,ns,z1,e2⟩)⟩ ⟨h3,fun k hk=>by
   have:i ≠ k:=fun z=>by rw [z,hk] at hi;cases hi
   rw [List.getElem?_set_ne this]⟩⟩
theorem vG:DGs X fix [] nO:=⟨PGs.imp Nv fun vs σ H Q h=>by
 obtain ⟨Fz,ρ,xs,ρ',r,d,e,q⟩:=h
 cases d with
 | nil=>cases e;exact ⟨rfl,q σ (.refl r) ⟨fun _ z=>z,fun _ _=>rfl⟩⟩
 | cons _ _=>cases e⟩
theorem dS{e:Expr}{es:List Expr}{f:Fg}{g:Fgs}(h1:DG X fix e f)(h2:DGs X fix es g)(hs:(assignEach (e :: es) X.env).map (·.2)=assign e X.env :: (assignEach es X.env).map (·.2):=by rfl):DGs X fix (e :: es) (cE f g) :=
 ⟨PGs.imp (Lo h1.ok h2.ok hs) fun vs σ H Q h=>by
  obtain ⟨Fz,ρ,xs,ρ',r,d,e,q⟩:=h
  cases d with
  | nil=>cases e
  | @cons v vs x xs dx dxs =>
   unfold cE at e
   simp only at e
   cases e1:f x ρ with
   | none=>rw [e1] at e;cases e
   | some ρ1 =>
    simp only [e1,Option.bind_some] at e
    refine ⟨v,vs,rfl,Fz,ρ,x,ρ1,r,dx,e1,fun σ1 p1 o1=>?_⟩
    exact ⟨Fz,ρ1,xs,ρ',p1.rel,dxs,e,fun σ2 p2 o2=>q σ2 (p1.trans p2) ⟨fun p z=>o1.ow p (o2.ow p z),fun k h=>(o2.sm k h).trans (o1.sm k h)⟩⟩⟩
theorem Al{es:List Expr}{k:Nat}{g:Fgs}{n:Nat}(hc:X.calm=true)(h:DGs X fix es g)(hn:(assignEach es X.env).length=n:=by rfl)(hst:(assignEach es X.env).findIdx? (·.1)=none:=by rfl):DG X fix (.Tuple es k pos) (gT n g) :=
 ⟨PG.imp (P7 hc h.ok hn hst) fun v σ H Q h=>by
  obtain ⟨Fz,ρ,x,ρ',r,d,e,q⟩:=h
  unfold gT at e
  split at e
  . rename_i xs
    by_cases hl:xs.length=n
    . rw [if_pos hl] at e
      obtain ⟨a,us,rfl,s1,d1⟩:=Rdg.tup (Fz:=Fz) (H:=H) (K:=X.K) (v:=v) (ds:=xs) (.inl d)
      exact ⟨a,us,rfl,s1,by rw [d1.length];exact hl,Fz,ρ,xs,ρ',r,d1,e,q⟩
    . rw [if_neg hl] at e;cases e
  . cases e⟩
def Kd(fe:Fe)(fg:Fg):Fs:=fun ρ=>(fe ρ).bind fun p=>(f7 p.2 p.1).bind fun z=>(fg z.1 z.2).bind fun ρ2=>some (.nx,ρ2)
theorem Mf {tg e : Expr} {fe : Fe} {fg : Fg} (he : DE X e fe) (hg : DG X fix tg fg) (hs : swapsWithSole [tg] e pos.line X.env = pure false := by rfl) (hw : swappedStores [tg] e X.env = pure none := by rfl)
    (h1:(assignEach [tg] X.env).map (·.2) = [assign tg X.env]:=by rfl):DS X fix (.Assign [tg] e pos) (Kd fe fg) :=
 ⟨PS.imp (Lq he.ok hg.ok hs hw h1) fun D σ H h=>by
  obtain ⟨Fz,ρ,o,ρ',r,e,q⟩:=h
  unfold Kd at e
  cases e1:fe ρ with
  | none=>rw [e1] at e;cases e
  | some p =>
   obtain ⟨w,ρ1⟩:=p
   simp only [e1,Option.bind_some] at e
   cases e2:f7 ρ1 w with
   | none=>rw [e2] at e;cases e
   | some z =>
    obtain ⟨x,ρ2⟩:=z
    simp only [e2,Option.bind_some] at e
    cases e3:fg x ρ2 with
    | none=>rw [e3] at e;cases e
    | some ρ3 =>
     simp only [e3,Option.bind_some] at e
     cases e
     refine ⟨Fz,ρ,w,ρ1,r,e1,fun v H1 Fz1 p1=>?_⟩
     obtain ⟨Fz2,p2,d2⟩:=p1.esc (xs:=[x]) (ρ2:=ρ2) (by unfold bw;rw [e2];rfl)
     cases d2 with
     | cons dx _=>exact ⟨Fz2,ρ2,x,ρ',p2.rel,dx,e3,fun σ2 p3 _=>q σ2 H1 Fz2 ((p2.sp (fix:=fix)).trans p3)⟩⟩
end
def Walk(K:PySem.W.Frag)(Fz:Addr->Prop)(H:Hp)(J:It)(items:List D):Prop :=
 ∀ (Fz':Addr->Prop) (H':Hp),(∀ q,Fz q->Fz' q)->(∀ q o,Fz q->H q=some o->H' q=some o)->(∀ q,Fz' q->H' q ≠ none) ->
  (∀ (i:Nat) (x:D),items[i]? = some x->J.go i H' /\ ∀ v H'',J.yld i H' v H''->∃ Fz'',Made K Fz' Fz'' H' H'' (.d x) v) /\ J.stop items.length H'
abbrev Fi:=Rho->Option (List D × Rho)
def tI(K:PySem.W.Frag)(fi:Fi):TI:=fun σ H R=>∃ Fz ρ items ρ',Rel K Fz ρ σ H /\ fi ρ=some (items,ρ') /\ ∀ J H1 Fz1,aP K Fz Fz1 ρ ρ' σ H H1 [] []->Walk K Fz1 H1 J items->R J H1
structure DI (X:Cx) (tg iter:Expr) (fi:Fi):Prop where
 ok:PI X tg iter (tI X.K fi)
theorem PI.imp{X:Cx}{tg e:Expr}{t t':TI}(h:PI X tg e t)(i:∀ σ H Q,t' σ H Q->t σ H Q):PI X tg e t':=fun pins s σ H Q I q=>h pins s σ H Q I (i σ H Q q)
section
variable {X:Cx} {tg:Expr}
theorem Mg{l:Expr}{tl:TE}(hl:PE X l tl):PI X tg l (fun σ H R=>tl σ H fun x H1=>∃ a,x = .ref a /\ ((∃ xs,SqL X.K H1 a xs /\ R (Itl X.K a) H1) \/ ∃ xs,SqT X.K H1 a xs /\ R (Itt X.K a) H1)):=by
 intro pins s σ H R I h
 refine thn (hl pins s σ H _ I h) fun v s1 ⟨x,H1,I1,r1,q1⟩=>?_
 obtain ⟨a,e,⟨xs,hq,q⟩ | ⟨xs,hq,q⟩⟩:=q1
 . subst e
   cases r1
   obtain ⟨its,rv,p,hz⟩:=I1.list hq
   refine wpAny_pyIter_list p.isList ?_
   refine ⟨s1.heap.objs.size,[s1.heap.objs.size],_,_,H1,rfl,I1.kept (t':=s1.toks) fun b o e=>Heap.get?_push_of_some _ e,JQ a _,⟨_,Heap.get?_push_size _ rfl,rfl,rfl⟩,fun b hb=>?_,q⟩
   have e:b=s1.heap.objs.size:=by simpa using hb
   subst e
   exact I1.JP (Nat.le_refl _) (I1.hok.fresh (Nat.le_refl _))
 . subst e
   cases r1
   obtain ⟨its,rv,p,hz⟩:=I1.tuple hq
   refine wpAny_pyIter_tuple (show s1.heap.IsTuple a its.toArray from p) ?_
   refine ⟨s1.heap.objs.size,[s1.heap.objs.size],_,_,H1,rfl,I1.kept (t':=s1.toks) fun b o e=>Heap.get?_push_of_some _ e,Hd a _,⟨_,Heap.get?_push_size _ rfl,rfl,rfl⟩,fun b hb=>?_,q⟩
   have e:b=s1.heap.objs.size:=by simpa using hb
   subst e
   exact I1.JP (Nat.le_refl _) (I1.hok.fresh (Nat.le_refl _))
def itemsOf:D->Option (List D)
 | .list xs=>some xs
 | .tuple xs=>some xs
 | _=>none
def jg(fe:Fe):Fi:=fun ρ=>(fe ρ).bind fun p=>(f7 p.2 p.1).bind fun z=>(itemsOf z.1).bind fun xs=>some (xs,z.2)
theorem HD{fe:Fe}{ρ ρ':Rho}{xs:List D}(e:jg fe ρ=some (xs,ρ')):∃ w ρ1 x,fe ρ=some (w,ρ1) /\ f7 ρ1 w=some (x,ρ') /\ itemsOf x=some xs:=by
 unfold jg at e
 cases e1:fe ρ with
 | none=>rw [e1] at e;cases e
 | some p =>
  obtain ⟨w,ρ1⟩:=p
  simp only [e1,Option.bind_some] at e
  cases e2:f7 ρ1 w with
  | none=>rw [e2] at e;cases e
  | some z =>
   obtain ⟨x,ρ2⟩:=z
   simp only [e2,Option.bind_some] at e
   cases e3:itemsOf x with
   | none=>rw [e3] at e;cases e
   | some ys =>
    simp only [e3,Option.bind_some] at e
    cases e
    exact ⟨w,ρ1,x,rfl,e2,e3⟩
theorem mB{α:Type}{l:List α}{i:Nat}{x:α}(h:l[i]? = some x):i < l.length:=(List.getElem?_eq_some_iff.mp h).1
theorem CO{K:PySem.W.Frag}{Fz:Addr->Prop}{H:Hp}{a:Addr}{ds:List D}(h:Dr K Fz H (.ref a) (.list ds)):Walk K Fz H (Itl K a) ds:=by
 intro Fz' H' g k l
 cases h with
 | lst hf hs hd =>
  have hs':=k _ _ hf hs
  have hd':=hd.keep g (fun q o z e=>k q o z e) _ _
  refine ⟨fun i x e=>?_,_,SqL.of hs',by rw [hd.length];exact Nat.le_refl _⟩
  obtain ⟨v,h1,h2⟩:=hd'.get e
  refine ⟨⟨_,v,SqL.of hs',h1⟩,fun v' H'' y=>?_⟩
  obtain ⟨rfl,y⟩:=y
  have:=y _ (SqL.of hs')
  rw [h1] at this
  cases this
  exact ⟨Fz',.val l h2⟩
theorem Gm{K:PySem.W.Frag}{Fz:Addr->Prop}{H:Hp}{a:Addr}{ds:List D}(h:Dr K Fz H (.ref a) (.tuple ds)):Walk K Fz H (Itt K a) ds:=by
 intro Fz' H' g k l
 obtain ⟨b,us,e0,s1,d1⟩:=Rdg.tup (Fz:=Fz') (H:=H') (K:=K) (v:=.ref a) (ds:=ds) (.inl (h.keep g (fun q o z e=>k q o z e) _ _))
 cases e0
 refine ⟨fun i x e=>?_,_,s1,by rw [d1.length];exact Nat.le_refl _⟩
 obtain ⟨v,h1,h2⟩:=d1.get e
 refine ⟨⟨_,v,s1,h1⟩,fun v' H'' y=>?_⟩
 obtain ⟨rfl,y⟩:=y
 have:=y _ s1
 rw [h1] at this
 cases this
 exact ⟨Fz',.val l h2⟩
theorem w8 {K : PySem.W.Frag} {fe : Fe} {σ : St} {H : Hp} {R : D -> V -> Hp -> Prop} (h : ∃ Fz ρ items ρ', Rel K Fz ρ σ H /\ jg fe ρ = some (items, ρ') /\ ∀ v x H1 Fz1, itemsOf x = some items -> aP K Fz Fz1 ρ ρ' σ H H1 [] [] -> Dr K Fz1 H1 v x -> R x v H1) :
    tE K fe σ H fun v H1=>∃ x,R x v H1:=by
 obtain ⟨Fz,ρ,items,ρ',r,e,q⟩:=h
 obtain ⟨w,ρ1,x,e1,e2,e3⟩:=HD e
 refine ⟨Fz,ρ,w,ρ1,r,e1,fun v H1 Fz1 p1=>?_⟩
 obtain ⟨Fz2,p2,d2⟩:=p1.esc (xs:=[x]) (ρ2:=ρ') (by unfold bw;rw [e2];rfl)
 cases d2 with
 | cons dx _=>exact ⟨x,q v x H1 Fz2 e3 p2 dx⟩
theorem Am{e:Expr}{fe:Fe}(h:DE X e fe):DI X tg e (jg fe) :=
 ⟨PI.imp (Mg h.ok) fun σ H R h=>by
  obtain ⟨Fz,ρ,items,ρ',r,e,q⟩:=h
  refine so (w8 (R:=fun x v H1=>∃ a,v = .ref a /\ ((∃ xs,SqL X.K H1 a xs /\ R (Itl X.K a) H1) \/ ∃ xs,SqT X.K H1 a xs /\ R (Itt X.K a) H1)) ⟨Fz,ρ,items,ρ',r,e,fun v x H1 Fz1 hi p1 d=>?_⟩) fun v H1 ⟨_,z⟩=>z
  cases x with
  | list xs =>
   cases hi
   obtain ⟨a,us,rfl,s1,d1⟩:=Rdg.lst (Fz:=Fz1) (H:=H1) (K:=X.K) (v:=v) (ds:=items) (.inl d)
   exact ⟨a,rfl,.inl ⟨us,SqL.of s1,q _ H1 Fz1 p1 (CO d)⟩⟩
  | tuple xs =>
   cases hi
   obtain ⟨a,us,rfl,s1,d1⟩:=Rdg.tup (Fz:=Fz1) (H:=H1) (K:=X.K) (v:=v) (ds:=items) (.inl d)
   exact ⟨a,rfl,.inr ⟨us,s1,q _ H1 Fz1 p1 (Gm d)⟩⟩
  | _=>cases hi⟩
def jA(lo:Int)(n:Nat):List D:=(List.range n).map fun (i:Nat)=>PyData.int (lo + (i:Int))
theorem HE{K:PySem.W.Frag}{Fz:Addr->Prop}{H:Hp}{lo:Int}{n:Nat}:Walk K Fz H (Itr lo n) (jA lo n):=by
 intro Fz' H' g k l
 refine ⟨fun i x e=>?_,by show n <= _;simp [jA]⟩
 have hi:i < n:=by have:=mB e;simpa [jA] using this
 have hx:x = .int (lo + (i:Int)):=by
  unfold jA at e
  rw [List.getElem?_map,List.getElem?_range hi] at e
  cases e;rfl
 refine ⟨hi,fun v H'' y=>?_⟩
 obtain ⟨rfl,rfl⟩:=y
 rw [hx]
 exact ⟨Fz',.val l (.int _)⟩
def vp(f:Fa):Fi:=fun ρ=>(f ρ).bind fun p=>(cu p.2 p.1).bind fun xs=>match xs with
 | [.int j]=>if j < 2 ^ 62 /\ -(2 ^ 62) <= j then some (jA 0 j.toNat,p.2) else none
 | _=>none
def SG(f:Fa):Fi:=fun ρ=>(f ρ).bind fun p=>(cu p.2 p.1).bind fun xs=>match xs with
 | [.int i,.int j]=>if (-(2 ^ 62) <= i /\ i < 2 ^ 62 /\ -(2 ^ 62) <= j /\ j < 2 ^ 62) then some (jA i (j - i).toNat,p.2) else none
 | _=>none
theorem gE{a:Expr}{f:Fa}{p pos:Pos} (hg:Gl X "range") (hm:X.mg "range" = none) (ha:DA X [a] f) (hs:starEach [a] X.env = [(false,eval a X.env)]:=by rfl):DI X tg (.Call (.Name "range" p) [a] [] pos) (vp f) :=
 ⟨PI.imp (JR hg hm ha.ok hs) fun σ H R h=>by
  obtain ⟨Fz,ρ,items,ρ',r,e,q⟩:=h
  unfold vp at e
  cases e1:f ρ with
  | none=>rw [e1] at e;cases e
  | some z =>
   obtain ⟨ws,ρ1⟩:=z
   simp only [e1,Option.bind_some] at e
   cases e2:cu ρ1 ws with
   | none=>rw [e2] at e;cases e
   | some xs =>
    simp only [e2,Option.bind_some] at e
    split at e
    . rename_i j
      obtain ⟨hc,z⟩:=bc e
      cases z
      refine ⟨Fz,ρ,ws,ρ',r,e1,fun vs H1 Fz1 p1=>?_⟩
      obtain ⟨v,rfl,h1⟩:=dh (p1.rel.kO p1.rep e2)
      rw [h1.int]
      exact ⟨j,rfl,hc.2,hc.1,q _ H1 Fz1 p1.drop HE⟩
    . cases e⟩
end
def forL(tg:Fg)(body:Fs):List D->Rho->Option (Out × Rho)
 | [],ρ=>some (.nx,ρ)
 | x :: xs,ρ=>(tg x ρ).bind fun ρ1=>(body ρ1).bind fun p=>match p.1 with
  | .nx=>forL tg body xs p.2
  | .ct=>forL tg body xs p.2
  | .bk=>some (.nx,p.2)
  | .rt r=>some (.rt r,p.2)
def zY(fi:Fi)(tg:Fg)(body:Fs):Fs:=fun ρ=>(fi ρ).bind fun p=>forL tg body p.1 p.2
section
variable {X:Cx} {fix:Nat->Bool} {tg iter:Expr} {body:List Stmt} {fi:Fi} {fg:Fg} {fb:Fs} {pos:Pos}
theorem QT{K:PySem.W.Frag}{D:Ends}{σ:St}{H:Hp}(h:tS K fix (zY fi fg fb) D σ H):RT (tI K fi) (tG K fix fg) (tS K fix fb) D σ H:=by
 obtain ⟨Fz,ρ,o,ρ',r,e,q⟩:=h
 unfold zY at e
 cases e1:fi ρ with
 | none=>rw [e1] at e;cases e
 | some p =>
  obtain ⟨items,ρ1⟩:=p
  simp only [e1,Option.bind_some] at e
  refine ⟨Fz,ρ,items,ρ1,r,e1,fun J H1 Fz1 p1 wk=>?_⟩
  refine ⟨fun i m σi Hi=>i <= items.length /\ m=items.length - i /\ ∃ Fzi ρi,cX K fix Fz1 Fzi ρ1 ρi σ σi H1 Hi /\ forL fg fb (items.drop i) ρi=some (o,ρ'),⟨items.length,Nat.zero_le _,rfl,Fz1,ρ1,.refl p1.rel,by simpa using e⟩,?_⟩
  rintro i m σi Hi ⟨hi,rfl,Fzi,ρi,sp,ei⟩
  obtain ⟨w1,w2⟩:=wk Fzi Hi sp.step.grow (fun q o z e=>sp.step.keep q o e fun ow=>p1.rel.Sw q ow z) sp.rel.fzl
  have fin:∀ {σ2 H2 Fz2 ρ2} {o':Out},cX K fix Fz1 Fz2 ρ1 ρ2 σ σ2 H1 H2->o'=o->ρ2=ρ'->goal K D Fz2 ρ ρ2 σ σ2 H H2 o':=by
   intro σ2 H2 Fz2 ρ2 o' s2 h1 h2
   subst h1;subst h2
   exact q σ2 H2 Fz2 ((p1.sp (fix:=fix)).trans s2)
  by_cases hlt:i < items.length
  . right
    obtain ⟨x,hx⟩:∃ x,items[i]? = some x:=⟨items[i],List.getElem?_eq_getElem hlt⟩
    obtain ⟨go,yl⟩:=w1 i x hx
    have hdrop:items.drop i=x :: items.drop (i + 1):=by
     rw [List.drop_eq_getElem_cons hlt]
     have:items[i] = x:=by rw [List.getElem?_eq_getElem hlt] at hx;exact Option.some.inj hx
     rw [this]
    rw [hdrop] at ei
    unfold forL at ei
    cases e2:fg x ρi with
    | none=>rw [e2] at ei;cases ei
    | some ρa =>
     simp only [e2,Option.bind_some] at ei
     cases e3:fb ρa with
     | none=>rw [e3] at ei;cases ei
     | some z =>
      obtain ⟨ob,ρb⟩:=z
      simp only [e3,Option.bind_some] at ei
      refine ⟨go,fun σ' H'=>i + 1 <= items.length /\ ∃ Fzi ρi,cX K fix Fz1 Fzi ρ1 ρi σ σ' H1 H' /\ forL fg fb (items.drop (i + 1)) ρi=some (o,ρ'),fun σ' H' ⟨h1,h2⟩=>⟨items.length - (i + 1),by omega,h1,rfl,h2⟩,fun v H2 yv=>?_⟩
      obtain ⟨Fz2,md⟩:=yl v H2 yv
      have r2:Rel K Fz2 ρi σi H2:=sp.rel.rP md.step md.new
      have sp2:cX K fix Fz1 Fz2 ρ1 ρi σ σi H1 H2:=⟨r2,sp.step.trans (md.step (Ow:=OwO ρi σi)) sp.oo,sp.own,sp.same,sp.kept,sp.len,sp.obo⟩
      refine ⟨Fz2,ρi,x,ρa,r2,md.rep,e2,fun σa pa _=>?_⟩
      have spa:=sp2.trans pa
      refine ⟨Fz2,ρa,ob,ρb,pa.rel,e3,fun σb Hb Fzb pb=>?_⟩
      have spb:=spa.trans pb
      cases ob with
      | nx=>exact ⟨hlt,Fzb,ρb,spb,ei⟩
      | ct=>exact ⟨hlt,Fzb,ρb,spb,ei⟩
      | bk =>
       simp only at ei
       cases ei
       exact fin spb rfl rfl
      | rt r =>
       simp only at ei
       cases ei
       intro v hv
       exact fin (o':=.rt r) spb rfl rfl v ((hv.after spa).after (p1.sp (fix:=fix)))
  . left
    have hi':i=items.length:=by omega
    subst hi'
    rw [List.drop_length] at ei
    unfold forL at ei
    cases ei
    exact ⟨w2,fin sp rfl rfl⟩
theorem An(hp:PassesOwn (model X.prog X.w) X.A X.env X.xe)(hc:X.calm=true)(hi:DI X tg iter fi)(hg:DG X fix tg fg)(hb:DSs X fix body fb)(hs:∀ x,foldedSetIterable iter X.env x=pure x:=by intro _;rfl):DS X fix (.For tg iter body [] pos) (zY fi fg fb) :=
 ⟨PS.imp (Qa hp hc hi.ok hg.ok hb.ok hs) fun D σ H h=>QT h⟩
end
section
variable {X:Cx} {fix:Nat->Bool} {body:List Stmt} {ft:Ft} {fb:Fs} {pos:Pos} {c:Expr}
end
end
section
def ar(ρ:Rho):List Nat->Rho
 | []=>ρ
 | v :: vs=>(ar ρ vs).set v none
theorem di(ρ:Rho):∀ vs:List Nat,(ar ρ vs).length=ρ.length
 | []=>rfl
 | v :: vs=>by unfold ar;rw [List.length_set,di ρ vs]
theorem bC{ρ:Rho}{i:Nat}{x:W}:∀ {vs:List Nat},(ar ρ vs)[i]? = some (some x)->ρ[i]? = some (some x) /\ i ∉ vs
 | [],h=>⟨h,by simp⟩
 | v :: vs,h=>by
  unfold ar at h
  rcases dZ h with ⟨_,z⟩ | ⟨hi,z⟩
  . cases z
  . obtain ⟨h1,h2⟩:=bC z
    exact ⟨h1,by simp only [List.mem_cons,not_or];exact ⟨hi,h2⟩⟩
theorem aF{ρ:Rho}{i:Nat}:∀ {vs:List Nat},i ∉ vs->(ar ρ vs)[i]? = ρ[i]?
 | [],_=>rfl
 | v :: vs,h=>by
  have h1:v ≠ i:=fun e=>h (by rw [e];exact List.mem_cons_self)
  have h2:i ∉ vs:=fun m=>h (List.mem_cons_of_mem _ m)
  unfold ar
  rw [List.getElem?_set_ne h1]
  exact aF h2
def b8(ρ0 ρ:Rho):List Nat->Rho
 | []=>ρ
 | v :: vs=>(b8 ρ0 ρ vs).set v (ρ0[v]?.getD none)
theorem fB(ρ0 ρ:Rho):∀ vs:List Nat,(b8 ρ0 ρ vs).length=ρ.length
 | []=>rfl
 | v :: vs=>by unfold b8;rw [List.length_set,fB ρ0 ρ vs]
theorem bH{ρ0 ρ:Rho}{i:Nat}{x:W}:∀ {vs:List Nat},(b8 ρ0 ρ vs)[i]? = some (some x)->(i ∈ vs /\ ρ0[i]? = some (some x)) \/ (i ∉ vs /\ ρ[i]? = some (some x))
 | [],h=>.inr ⟨by simp,h⟩
 | v :: vs,h=>by
  unfold b8 at h
  rcases dZ h with ⟨rfl,z⟩ | ⟨hi,z⟩
  . left
    refine ⟨List.mem_cons_self,?_⟩
    cases e:ρ0[i]? with
    | none=>rw [e] at z;cases z
    | some y=>rw [e] at z;exact congrArg some z
  . rcases bH z with ⟨h1,h2⟩ | ⟨h1,h2⟩
    . exact .inl ⟨List.mem_cons_of_mem _ h1,h2⟩
    . exact .inr ⟨by simp only [List.mem_cons,not_or];exact ⟨hi,h1⟩,h2⟩
theorem Ao{ρ0 ρ:Rho}{i:Nat}{x:Option W}(hl:i < ρ.length)(e:ρ0[i]? = some x):∀ {vs:List Nat},i ∈ vs->(b8 ρ0 ρ vs)[i]? = some x
 | [],h=>by simp at h
 | v :: vs,h=>by
  unfold b8
  by_cases hv:v=i
  . subst hv
    rw [List.getElem?_set_self (by rw [fB];exact hl),e];rfl
  . rw [List.getElem?_set_ne hv]
    rcases List.mem_cons.mp h with h | h
    . exact absurd h.symm hv
    . exact Ao hl e h
theorem nY{ρ0 ρ:Rho}{i:Nat}:∀ {vs:List Nat},i ∉ vs->(b8 ρ0 ρ vs)[i]? = ρ[i]?
 | [],_=>rfl
 | v :: vs,h=>by
  have h1:v ≠ i:=fun e=>h (by rw [e];exact List.mem_cons_self)
  have h2:i ∉ vs:=fun m=>h (List.mem_cons_of_mem _ m)
  unfold b8
  rw [List.getElem?_set_ne h1]
  exact nY h2
def tM(fg:Fg)(ft:Ft)(fe:Fe)(vs:List Nat):List D->Rho->List D->Option (List D × Rho)
 | [],ρ,acc=>some (acc,ρ)
 | x :: xs,ρ,acc=>(fg x (ar ρ vs)).bind fun ρ1=>(ft ρ1).bind fun p=>if p.1=true then (fe p.2).bind fun q=>(f7 q.2 q.1).bind fun z=>if acc.length < 16777216 then tM fg ft fe vs xs z.2 (acc ++ [z.1]) else none
  else tM fg ft fe vs xs p.2 acc
def gU(fi:Fi)(fg:Fg)(ft:Ft)(fe:Fe)(vs:List Nat):Fe:=fun ρ=>(fi ρ).bind fun p=>if vs.all (fun i=>(sT p.2 i).isNone)=true then (tM fg ft fe vs p.1 p.2 []).bind fun q=>some (.fr q.1,b8 p.2 q.2 vs) else none
section
variable {K:PySem.W.Frag} {Fz Fz1:Addr->Prop} {ρ ρ1 ρ2:Rho} {σ:St} {H H1:Hp}
theorem Rel.qu(r:Rel K Fz ρ σ H)(vs:List Nat):Rel K Fz (ar ρ vs) (wipe σ vs) H /\ ∀ p,Own (ar ρ vs) (wipe σ vs) p->Own ρ σ p:=by
 have ow:∀ p,Own (ar ρ vs) (wipe σ vs) p->Own ρ σ p:=fun p ⟨i,xs,e1,e2⟩=>⟨i,xs,(bC e1).1,(bY e2).1⟩
 refine ⟨⟨by rw [di,aR];exact r.len,fun i w e=>?_,fun i j xs ys p e1 e2 e3 e4=>r.apart i j xs ys p (bC e1).1 (bC e2).1 (bY e3).1 (bY e4).1,fun p o=>r.gD p (ow p o),r.fzl,fun i c g ns e=>?_,fun i j c c' g g' ns ns' p e1 e2 e3 e4=>r.oba i j c c' g g' ns ns' p (bC e1).1 (bC e2).1 (bY e3).1 (bY e4).1⟩,ow⟩
 rotate_left
 . obtain ⟨e1,e2⟩:=bC e
   obtain ⟨h1,h2,q,C,dx,fs,h3,h4,h5,h6,h7,h8⟩:=r.obj i c g ns e1
   refine ⟨h1,h2,q,C,dx,fs,by rw [bj e2];exact h3,h4,h5,h6,h7,fun k f v e3 w e4=>?_⟩
   obtain ⟨e5,e6⟩:=bC e4
   rw [bj e6]
   exact h8 k f v e3 w e5
 obtain ⟨e1,e2⟩:=bC e
 obtain ⟨v,h1,h2⟩:=r.val i w e1
 exact ⟨v,by rw [bj e2];exact h1,h2⟩
end
def bF(vs:List Nat):Nat->Bool:=fun k=>!vs.contains k
theorem vH{ρ:Rho}{i:Nat}{x:W}{vs:List Nat}(h:i ∈ vs):(ar ρ vs)[i]? ≠ some (some x):=fun e=>(bC e).2 h
theorem vI{vs:List Nat}{ρi ρa ρc:Rho}(sm:∀ k,bF vs k=true->ρa[k]? = (ar ρi vs)[k]?)(kc:Kp ρa ρc):Kp (ar ρi vs) (ar ρc vs):=by
 refine ⟨fun k w e=>?_,fun k c g ns=>?_,fun k w e=>?_⟩
 . obtain ⟨_,z2⟩:=bC e
   obtain ⟨w',y1,y2⟩:=kc.ke k w (by rw [sm k (by simp [bF,z2])];exact e)
   exact ⟨w',by rw [aF z2];exact y1,y2⟩
 . by_cases hk:k ∈ vs
   . exact ⟨fun e=>absurd e (vH hk),fun e=>absurd e (vH hk)⟩
   . rw [aF hk,<- sm k (by simp [bF,hk])];exact kc.ob k c g ns
 . obtain ⟨z1,z2⟩:=bC e
   obtain ⟨w',y1⟩:=kc.un k w z1
   exact ⟨w',by rw [<- sm k (by simp [bF,z2])];exact y1⟩
theorem kp_rest{vs:List Nat}{ρ1 ρ2:Rho}(hl:ρ2.length=ρ1.length)(k:Kp (ar ρ1 vs) (ar ρ2 vs)):Kp ρ1 (b8 ρ1 ρ2 vs):=by
 have hin:∀ {k:Nat},k ∈ vs->(b8 ρ1 ρ2 vs)[k]? = ρ1[k]? := fun {k} hk=>by
  by_cases h:k < ρ1.length
  . rw [List.getElem?_eq_getElem h]
    exact Ao (by omega) (List.getElem?_eq_getElem h) hk
  . rw [List.getElem?_eq_none (by rw [fB];omega),List.getElem?_eq_none (by omega)]
 refine ⟨fun j w e=>?_,fun j c g ns=>?_,fun j w e=>?_⟩
 . by_cases hk:j ∈ vs
   . exact ⟨w,by rw [hin hk];exact e,id⟩
   . obtain ⟨w',y1,y2⟩:=k.ke j w (by rw [aF hk];exact e)
     exact ⟨w',by rw [nY hk];rw [aF hk] at y1;exact y1,y2⟩
 . by_cases hk:j ∈ vs
   . rw [hin hk]
   . have:=k.ob j c g ns
     rw [aF hk,aF hk] at this
     rw [nY hk];exact this
 . by_cases hk:j ∈ vs
   . exact ⟨w,by rw [<- hin hk];exact e⟩
   . obtain ⟨w',y1⟩:=k.un j w (by rw [aF hk,<- nY hk];exact e)
     exact ⟨w',by rw [aF hk] at y1;exact y1⟩
theorem Ap {K : PySem.W.Frag} {Fz Fz' : Addr -> Prop} {ρ1 ρ2 : Rho} {σ : St} {H H' : Hp} {vs : List Nat} (r : Rel K Fz ρ1 σ H) (s : Step (Own ρ1 σ) Fz Fz' H H') (hl : ρ2.length = ρ1.length) (k : Kp (ar ρ1 vs) (ar ρ2 vs)) :
    ∀ (i:Nat) (c:Str) (g:Nat) (ns:List Str),(b8 ρ1 ρ2 vs)[i]? = some (some (W.ob c g ns))->ObT K Fz' (b8 ρ1 ρ2 vs) σ H' i c g ns:=r.Sv s (kp_rest hl k)
theorem pU{σ σ':St}{vs:List Nat}(hl:σ'.length=σ.length)(h:∀ k,bF vs k=true->σ'[k]? = (wipe σ vs)[k]?):wipe σ' vs=wipe σ vs:=by
 apply List.ext_getElem?
 intro k
 by_cases hk:k ∈ vs
 . by_cases hkl:k < σ.length
   . have f:∀ (τ:St) (vs:List Nat),k ∈ vs->k < τ.length->(wipe τ vs)[k]? = some none:=by
      intro τ vs
      induction vs with
      | nil=>intro h;simp at h
      | cons v vs ih =>
       intro h hl
       unfold wipe
       by_cases hv:v=k
       . subst hv;rw [List.getElem?_set_self (by rw [aR];exact hl)]
       . rw [List.getElem?_set_ne hv]
         rcases List.mem_cons.mp h with h | h
         . exact absurd h.symm hv
         . exact ih h hl
     rw [f σ' vs hk (by omega),f σ vs hk hkl]
   . rw [List.getElem?_eq_none (by rw [aR];omega),List.getElem?_eq_none (by rw [aR];omega)]
 . rw [bj hk,h k (by simp [bF,hk])]
section
variable {X:Cx} {tg iter elt:Expr} {fi:Fi} {fg:Fg} {ft:Ft} {fe:Fe}
theorem Ek{K:PySem.W.Frag}{vs:List Nat}{σ:St}{H:Hp}{Q:VK}(h:tE K (gU fi fg ft fe vs) σ H Q):tLc (tI K fi) (tG K (bF vs) fg) (tT K ft) (tE K fe) vs σ H Q:=by
 obtain ⟨Fz,ρ,w,ρ',r,e,q⟩:=h
 unfold gU at e
 cases e1:fi ρ with
 | none=>rw [e1] at e;cases e
 | some p =>
  obtain ⟨items,ρ1⟩:=p
  simp only [e1,Option.bind_some] at e
  by_cases hv:vs.all (fun i=>(sT ρ1 i).isNone)=true
  . rw [if_pos hv] at e
    cases e2:tM fg ft fe vs items ρ1 [] with
    | none=>rw [e2] at e;cases e
    | some z =>
     obtain ⟨ys,ρ2⟩:=z
     simp only [e2,Option.bind_some] at e
     cases e
     refine ⟨Fz,ρ,items,ρ1,r,e1,fun J H1 Fz1 p1 wk D hD=>?_⟩
     obtain ⟨rw1,ow1⟩:=p1.rel.qu vs
     have vw:∀ i xs,i ∈ vs->ρ1[i]? ≠ some (some (W.own xs)):=fun i xs hi z=>by
      have:=List.all_eq_true.mp hv i hi
      unfold sT at this
      rw [z] at this
      cases this
     have ownEq:∀ p,Own ρ1 σ p->Own (ar ρ1 vs) (wipe σ vs) p:=fun p ⟨i,xs,z1,z2⟩=>by
      have hi:i ∉ vs:=fun hi=>vw i xs hi z1
      exact ⟨i,xs,by rw [aF hi];exact z1,by rw [bj hi];exact z2⟩
     have nfD:¬ Fz1 D:=fun z=>p1.rel.fzl D z hD
     have k0:=vC (o:=HO.lst []) hD
     have st0:Step (Own (ar ρ1 vs) (wipe σ vs)) Fz1 Fz1 H1 (upd H1 D (.lst [])):=⟨fun q z e=>p1.rel.fzl q z (ba q e),fun q o e _=>k0 q o e,ba,fun _ z=>z,fun _ z=>.inl z⟩
     refine ⟨fun i m Hi=>i <= items.length /\ m=items.length - i /\ ∃ Fzi ρi acc us,Rel K Fzi (ar ρi vs) (wipe σ vs) Hi /\ Step (Own (ar ρ1 vs) (wipe σ vs)) Fz1 Fzi H1 Hi /\ (∀ p,Own (ar ρi vs) (wipe σ vs) p->Own (ar ρ1 vs) (wipe σ vs) p) /\
      Kp (ar ρ1 vs) (ar ρi vs) /\ ρi.length=ρ1.length /\ Hi D=some (.lst us) /\ aD K Fzi Hi us acc /\ ¬ Fzi D /\ tM fg ft fe vs (items.drop i) ρi acc=some (ys,ρ2),⟨items.length,Nat.zero_le _,rfl,Fz1,ρ1,[],[],?_,st0,fun _ z=>z,.refl,rfl,bt,.nil,nfD,by simpa using e2⟩,?_⟩
     . exact rw1.rP ⟨st0.fzl,fun q o e _=>k0 q o e,ba,fun _ z=>z,fun _ z=>.inl z⟩ fun _ z=>.inl z
     rintro i m Hi ⟨hi,rfl,Fzi,ρi,acc,us,ri,sti,owi,kpi,lni,hDi,dai,nfi,ei⟩
     obtain ⟨w1,w2⟩:=wk Fzi Hi sti.grow (fun q o z e=>sti.keep q o e fun ow=>p1.rel.gD q (ow1 q ow) z) ri.fzl
     have nown:∀ {ρ':Rho} {σ':St},(∀ p,Own ρ' σ' p->Own (ar ρi vs) (wipe σ vs) p)->¬ Own ρ' σ' D:=fun sub z=>by
      obtain ⟨j,xs,z1,z2⟩:=owi D (sub D z)
      obtain ⟨u,hu,p',us',y1,y2,_⟩:=rw1.val j _ z1
      rw [z2] at hu;cases hu;cases y1
      rw [hD] at y2;cases y2
     by_cases hlt:i < items.length
     . right
       obtain ⟨x,hx⟩:∃ x,items[i]? = some x:=⟨items[i],List.getElem?_eq_getElem hlt⟩
       obtain ⟨go,yl⟩:=w1 i x hx
       have hdrop:items.drop i=x :: items.drop (i + 1):=by
        rw [List.drop_eq_getElem_cons hlt]
        have:items[i] = x:=by rw [List.getElem?_eq_getElem hlt] at hx;exact Option.some.inj hx
        rw [this]
       rw [hdrop] at ei
       unfold tM at ei
       cases e3:fg x (ar ρi vs) with
       | none=>rw [e3] at ei;cases ei
       | some ρa =>
        simp only [e3,Option.bind_some] at ei
        cases e4:ft ρa with
        | none=>rw [e4] at ei;cases ei
        | some zt =>
         obtain ⟨b,ρb⟩:=zt
         simp only [e4,Option.bind_some] at ei
         refine ⟨go,fun H'=>i + 1 <= items.length /\ ∃ Fzi ρi acc us,Rel K Fzi (ar ρi vs) (wipe σ vs) H' /\ Step (Own (ar ρ1 vs) (wipe σ vs)) Fz1 Fzi H1 H' /\ (∀ p,Own (ar ρi vs) (wipe σ vs) p->Own (ar ρ1 vs) (wipe σ vs) p) /\
          Kp (ar ρ1 vs) (ar ρi vs) /\ ρi.length=ρ1.length /\ H' D=some (.lst us) /\ aD K Fzi H' us acc /\ ¬ Fzi D /\ tM fg ft fe vs (items.drop (i + 1)) ρi acc=some (ys,ρ2),fun H' ⟨h1,h2⟩=>⟨items.length - (i + 1),by omega,h1,rfl,h2⟩,fun v H2 yv=>?_⟩
         obtain ⟨Fz2,md⟩:=yl v H2 yv
         have r2:Rel K Fz2 (ar ρi vs) (wipe σ vs) H2:=ri.rP md.step md.new
         have st2:Step (Own (ar ρi vs) (wipe σ vs)) Fzi Fz2 Hi H2:=md.step
         refine ⟨Fz2,ar ρi vs,x,ρa,r2,md.rep,e3,fun σa pa oa=>?_⟩
         have wq:wipe σa vs=wipe σ vs:=pU (by rw [pa.len,aR]) pa.same
         refine ⟨wq,Fz2,ρa,b,ρb,pa.rel,e4,fun H3 Fz3 p3=>?_⟩
         have spa:cX K (bF vs) Fzi Fz2 (ar ρi vs) ρa (wipe σ vs) σa Hi H2:=⟨pa.rel,(st2.weak (Ow':=OwO (ar ρi vs) (wipe σ vs)) fun _=>.inl).trans pa.step fun q z=>.inl z,fun p z=>.inl (oa.ow p z),pa.same,pa.kept,pa.len,fun p z=>(pa.obo p z).imp id (st2.live p)⟩
         have back : ∀ {Fzc ρc Hc}, aP K Fz2 Fzc ρa ρc σa H2 Hc [] [] -> Rel K Fzc (ar ρc vs) (wipe σ vs) Hc /\ Step (Own (ar ρ1 vs) (wipe σ vs)) Fz1 Fzc H1 Hc /\ (∀ p, Own (ar ρc vs) (wipe σ vs) p -> Own (ar ρ1 vs) (wipe σ vs) p) /\
             Kp (ar ρ1 vs) (ar ρc vs) /\ ρc.length=ρ1.length /\ Hc D=some (.lst us) /\ aD K Fzc Hc us acc /\ ¬ Fzc D /\ ¬ Own (ar ρc vs) (wipe σ vs) D:=by
          intro Fzc ρc Hc pc
          have sp:=spa.trans (pc.sp (fix:=bF vs))
          have sps:=st2.trans pc.step fun q z=>.inl (oa.ow q z)
          obtain ⟨x1,x2⟩:=sp.rel.qu vs
          rw [wq] at x1 x2
          have ownc:∀ p,Own (ar ρc vs) (wipe σ vs) p->Own (ar ρi vs) (wipe σ vs) p:=fun p z=>oa.ow p (pc.own p (x2 p z))
          refine ⟨x1,sti.trans sps fun q z=>.inl (owi q z),fun p z=>owi p (ownc p z),kpi.trans (vI oa.sm pc.kept),?_,sps.keep D _ hDi (nown fun _ z=>z),ri.Aa sps dai,fun z=>?_,nown ownc⟩
          . have:=sp.rel.len
            rw [sp.len,aR,<- p1.rel.len] at this
            exact this
          . rcases sps.new D z with z | z | z
            . exact nfi z
            . rw [hDi] at z;cases z
            . exact nown (fun _ z=>z) z
         cases b with
         | false =>
          rw [if_neg (by decide)] at ei
          dsimp only
          rw [if_neg (by decide)]
          obtain ⟨x1,x2,x3,x4,x5,x6,x7,x8,_⟩:=back p3
          exact ⟨hlt,Fz3,ρb,acc,us,x1,x2,x3,x4,x5,x6,x7,x8,ei⟩
         | true =>
          rw [if_pos rfl] at ei
          dsimp only
          rw [if_pos rfl]
          cases e5:fe ρb with
          | none=>rw [e5] at ei;cases ei
          | some zf =>
           obtain ⟨wv,ρc⟩:=zf
           simp only [e5,Option.bind_some] at ei
           cases e6:f7 ρc wv with
           | none=>rw [e6] at ei;cases ei
           | some ze =>
            obtain ⟨y,ρd⟩:=ze
            simp only [e6,Option.bind_some] at ei
            by_cases hz:acc.length < 16777216
            . rw [if_pos hz] at ei
              refine ⟨Fz3,ρb,wv,ρc,p3.rel,e5,fun v4 H4 Fz4 p4=>?_⟩
              obtain ⟨Fz5,p5,d5⟩:=p4.esc (xs:=[y]) (ρ2:=ρd) (by unfold bw;rw [e6];rfl)
              cases d5 with
              | cons dy _ =>
               obtain ⟨x1,x2,x3,x4,x5,x6,x7,x8,x9⟩:=back (p3.seq p5)
               have hk:∀ q o,H4 q=some o->q ≠ D->upd H4 D (HO.lst (us ++ [v4])) q=some o:=fun q o z h=>by rw [aL h];exact z
               have hstep:∀ {Ow:Addr->Prop},(∀ q,Fz5 q->q ≠ D):=fun q z h=>x8 (h ▸ z)
               have drk:∀ {v x},Dr K Fz5 H4 v x->Dr K Fz5 (upd H4 D (HO.lst (us ++ [v4]))) v x:=fun h=>h.keep (fun _ z=>z) (fun q o z e=>hk q o e fun h=>x8 (h ▸ z)) _ _
               have drak:∀ {vs xs},aD K Fz5 H4 vs xs->aD K Fz5 (upd H4 D (HO.lst (us ++ [v4]))) vs xs:=fun h=>h.keep (fun _ z=>z) (fun q o z e=>hk q o e fun h=>x8 (h ▸ z)) _ _
               refine ⟨us,x6,by rw [x7.length,sizeLine_eq];exact hz,hlt,Fz5,ρd,acc ++ [y],us ++ [v4],?_,?_,x3,x4,x5,bt,drak (x7.append (.cons dy .nil)),x8,ei⟩
               . refine ⟨x1.len,fun j w z=>?_,x1.apart,x1.gD,fun q z e=>x1.fzl q z (ba q e),fun i c g ns e=>(x1.obj i c g ns e).upd (by rw [x6];exact fun _ _ _ z=>nomatch z),x1.oba⟩
                 obtain ⟨u,h1,h2⟩:=x1.val j w z
                 refine ⟨u,h1,?_⟩
                 cases w with
                 | d x=>exact drk h2
                 | sl _=>exact h2
                 | ob _ _ _=>exact h2
                 | own xs =>
                  obtain ⟨pp,us',y1,y2,y3⟩:=h2
                  subst y1
                  exact ⟨pp,us',rfl,hk pp _ y2 fun h=>x9 ⟨j,xs,z,h ▸ h1⟩,drak y3⟩
               . refine ⟨fun q z e=>x1.fzl q z (ba q e),fun q o e n=>hk q o (x2.keep q o e n) fun h=>?_,fun q e=>x2.live q (ba q e),x2.grow,x2.new⟩
                 subst h
                 rw [hD] at e;cases e
            . rw [if_neg hz] at ei;cases ei
     . left
       have hi':i=items.length:=by omega
       subst hi'
       rw [List.drop_length] at ei
       unfold tM at ei
       cases ei
       have own':∀ p,Own (b8 ρ1 ρ2 vs) σ p->Own (ar ρ2 vs) (wipe σ vs) p:=fun p ⟨j,xs,z1,z2⟩=>by
        rcases bH z1 with ⟨h1,h2⟩ | ⟨h1,h2⟩
        . exact absurd h2 (vw j xs h1)
        . exact ⟨j,xs,by rw [aF h1];exact h2,by rw [bj h1];exact z2⟩
       have stt:Step (Own ρ1 σ) Fz1 Fzi H1 Hi:=sti.weak ow1
       refine ⟨w2,q (.ref D) Hi Fzi ⟨⟨?_,fun j w z=>?_,fun j k xs ys' p z1 z2 z3 z4=>?_,fun p z=>ri.gD p (own' p z),ri.fzl,Ap p1.rel stt lni kpi,p1.rel.LU (kp_rest lni kpi)⟩,.cons ⟨D,us,rfl,hDi,dai⟩ .nil,fun p hp=>?_,dQ,p1.step.trans stt fun q z=>.inl (p1.own q z),fun p z=>p1.own p (ow1 p (owi p (own' p z))),p1.kept.trans (kp_rest lni kpi)⟩⟩
       . rw [fB,lni];exact p1.rel.len
       . rcases bH z with ⟨h1,h2⟩ | ⟨h1,h2⟩
         . obtain ⟨u,g1,g2⟩:=p1.rel.val j w h2
           refine ⟨u,g1,?_⟩
           cases w with
           | d x=>exact p1.rel.dr stt g2
           | own xs=>exact absurd h2 (vw j xs h1)
           | sl _=>exact g2
           | ob _ _ _=>exact g2
         . obtain ⟨u,g1,g2⟩:=ri.val j w (by rw [aF h1];exact h2)
           exact ⟨u,by rw [bj h1] at g1;exact g1,g2⟩
       . rcases bH z1 with ⟨h1,h2⟩ | ⟨h1,h2⟩
         . exact absurd h2 (vw j xs h1)
         . rcases bH z2 with ⟨h3,h4⟩ | ⟨h3,h4⟩
           . exact absurd h4 (vw k ys' h3)
           . exact ri.apart j k xs ys' p (by rw [aF h1];exact h2) (by rw [aF h3];exact h4) (by rw [bj h1];exact z3) (by rw [bj h3];exact z4)
       . rw [cT] at hp
         have hp:p=D:=by simpa [frs] using hp
         subst hp
         exact ⟨p1.step.live p hD,nfi,fun z=>nown (fun _ z=>z) (own' p z)⟩
  . rw [if_neg hv] at e;cases e
end
end
end L2.Q3
end
section
namespace PySem
open Sem (wp)
open AutoSeq1 (wpAny_loadPart')
section
variable {prog:Program} {w:World} {A:Around} {E:Value->Shared->Prop} {s:Shared}
theorem Ou {it t : Addr} {i : Nat} {items : Array Value} {x : Value} {Q : Value -> Shared -> Prop} (hit : s.heap.IsTupleIter it t i) (ht : s.heap.IsTuple t items) (hx : items[i]? = some x)
    (hQ:∀ h',h'.IsTupleIter it t (i + 1)->Heap.SameBut it s.heap h'->Q x { s with heap:=h' }):wpAny (model prog w) A (Builtin.SmallTypes.nextOf (.ref it)) Q E s:=by
 obtain ⟨o,g1,g2,g3⟩:=id hit
 obtain ⟨ol,g4,_,nl,g5⟩:=ht
 unfold Builtin.SmallTypes.nextOf
 refine wpAny_bind (wpAny_callSpecial?_slot (name:=Str.ofString "__next__") hit.typeIs F.slot_tuple_iterator_next (wpAny_call_entry F.slot_tuple_iterator_next hit.typeIs F.entry_tuple_iterator_next ?_ (F.args_tuple_iterator_next_1 _)))
 show wpAny _ _ (field (.ref it) 0 >>= _) _ _ s
 refine wpAny_bind (wpAny_field g1 g3 (x:=.ref t) rfl ?_)
 show wpAny _ _ (if (Value.ref t == Value.none)=true then _ else _) _ _ s
 rw [if_neg (show ¬ ((Value.ref t == Value.none)=true) from Bool.false_ne_true)]
 show wpAny _ _ (field (.ref it) 1 >>= _) _ _ s
 refine wpAny_bind (wpAny_field g1 g3 (x:=.int i 0) rfl ?_)
 show wpAny _ _ (seqItems? (.ref t) >>= _) _ _ s
 refine wpAny_bind (wpAny_seqItems g4 g5 ?_)
 simp only [Int.toNat_natCast,hx]
 refine wpAny_bind (wpAny_setField g1 g3 (by simp) (wpAny_pure ⟨x,rfl,wpAny_pure (hQ _ ?_ (Heap.SameBut.update ..))⟩))
 exact ⟨_,Heap.get?_update_self _ g1 (Obj.isFreed_of_fields (Obj.data_mapFields g3 _)),(Obj.cls_mapFields ..).trans g2,by rw [Obj.data_mapFields g3];simp [rawInt]⟩
theorem HH {it t : Addr} {i : Nat} {items : Array Value} {Q : Value -> Shared -> Prop} (hh : A.handled = none) (hit : s.heap.IsTupleIter it t i) (ht : s.heap.IsTuple t items) (hx : items[i]? = none)
    (hE:∀ h' e,Heap.ExtBut it s.heap h'->(∃ o,h'.get? e=some o /\ o.cls = .type "StopIteration")->E (.ref e) { s with heap:=h' }):wpAny (model prog w) A (Builtin.SmallTypes.nextOf (.ref it)) Q E s:=by
 obtain ⟨o,g1,g2,g3⟩:=id hit
 obtain ⟨ol,g4,_,nl,g5⟩:=ht
 unfold Builtin.SmallTypes.nextOf
 refine wpAny_bind (wpAny_callSpecial?_slot (name:=Str.ofString "__next__") hit.typeIs F.slot_tuple_iterator_next (wpAny_call_entry F.slot_tuple_iterator_next hit.typeIs F.entry_tuple_iterator_next ?_ (F.args_tuple_iterator_next_1 _)))
 show wpAny _ _ (field (.ref it) 0 >>= _) _ _ s
 refine wpAny_bind (wpAny_field g1 g3 (x:=.ref t) rfl ?_)
 show wpAny _ _ (if (Value.ref t == Value.none)=true then _ else _) _ _ s
 rw [if_neg (show ¬ ((Value.ref t == Value.none)=true) from Bool.false_ne_true)]
 show wpAny _ _ (field (.ref it) 1 >>= _) _ _ s
 refine wpAny_bind (wpAny_field g1 g3 (x:=.int i 0) rfl ?_)
 show wpAny _ _ (seqItems? (.ref t) >>= _) _ _ s
 refine wpAny_bind (wpAny_seqItems g4 g5 ?_)
 simp only [Int.toNat_natCast,hx]
 refine wpAny_bind (wpAny_rule (wpAny_bind (wpAny_setField g1 g3 (by simp) ?_)))
 show wpAny _ _ (newExc (.type "StopIteration") [] >>= _) _ _ _
 refine wpAny_bind ?_
 simp only [newExc,newTuple]
 refine wpAny_bind (wpAny_newObj_type ?_ (by size_fits))
 refine wpAny_bind (m:=firstArgMember _ _) (wpAny_of_eq (a:=Value.none) (by first | rfl | (simp only [firstArgMember];rfl)) ?_)
 refine wpAny_newObj_type ?_ (by size_fits)
 simp only [raiseNew]
 refine wpAny_bind (wpAny_handled ?_)
 first | rw [show A.in1.handled=none from hh] | rw [hh]
 refine wpAny_bind (wpAny_pure (wpAny_throw ?_))
 exact hE _ _ (((Heap.SameBut.update ..).extBut.push _).push _) ⟨_,Heap.get?_push_size _ rfl,rfl⟩
end
theorem Gp {prog : Program} {w : World} {A : Around} (hh : A.handled = none) (it t : Addr) (hne : t ≠ it) (items : Array Value) :
    Draws prog w A it [it,t] items.size (fun i v=>items[i]? = some v) (fun i h=>h.IsTupleIter it t i /\ h.IsTuple t items) where
 live:=fun _ _ st=>let ⟨o,ho,_⟩:=st.1;⟨o,ho⟩
 frame:=fun _ _ _ st hk=>⟨st.1.at fun o e=>hk it (by simp) o e,st.2.at fun o e=>hk t (by simp) o e⟩
 item:=fun i s Q E hi st hQ=>by
  refine Ou st.1 st.2 (x:=items[i]) (by simp [hi]) fun h' a b=>?_
  exact hQ _ h' s.toks (by simp [hi]) ⟨a,st.2.extBut b.extBut hne⟩ b
 done:=fun s Q E st hE=>HH hh st.1 st.2 (by simp) hE
theorem Mj (l : Addr) (items : Array Value) (n : Nat) (dct : Option Addr) (sl : Array (Option Value)) :
    Meets (Builtin.«enumerate.__new__» ⟨[.type "enumerate",.ref l],[]⟩) (fun _ R s=>s.heap.get? l=some { cls:=.type "tuple",dict:=dct,data:=.seq items n,slots:=sl } /\
     R (.ok (.ret (.ref (s.heap.push { cls:=.type "tuple_iterator",data:=.fields #[.ref l,.int 0 0] }).objs.size)))
      { s with heap:=(s.heap.push { cls:=.type "tuple_iterator",data:=.fields #[.ref l,.int 0 0] }).push { cls:=.type "enumerate",data:=.fields #[.none,.bool false,.ref s.heap.objs.size,rawInt 0,.none,.none] } }) :=
 .of_wp fun prog w A R s h=>by
  obtain ⟨hp,g,d,tk,os⟩:=s;obtain ⟨hl,h⟩:=h
  have hsub:=sub_enumerate
  have hL:Heap.IsTuple (Shared.heap ⟨hp,g,d,tk,os⟩) l items:=⟨_,hl,rfl,n,rfl⟩
  wp_walk using wpAny_loadPart' hl
  refine wpAny_stack_any fun st=>wpAny_pure ?_
  split
  . rename_i c _ _ _ _ _
    cases (c == Value.type "enumerate")
    . wp_walk using wpAny_loadPart' hl,wpAny_pyIter_tuple hL
      exact ⟨_,rfl,h⟩
    . wp_walk using wpAny_loadPart' hl,wpAny_pyIter_tuple hL
      exact ⟨_,rfl,h⟩
  . wp_walk using wpAny_loadPart' hl,wpAny_pyIter_tuple hL
    exact ⟨_,rfl,h⟩
section
variable {prog:Program} {w:World} {A:Around} {E:Value->Shared->Prop} {s:Shared}
theorem Ov {l : Addr} {items : Array Value} {Q : Value -> Shared -> Prop} (hL : s.heap.IsTuple l items)
    (h:∀ h',IsEnum h' (s.heap.objs.size + 1) s.heap.objs.size 0 .none->h'.IsTupleIter s.heap.objs.size l 0->h'.objs.size=s.heap.objs.size + 2->(∀ b o,s.heap.get? b=some o->h'.get? b=some o)->Q (.ref (s.heap.objs.size + 1)) { s with heap:=h' }) :
    wpAny (model prog w) A (call (.type "enumerate") [.ref l]) Q E s:=by
 obtain ⟨⟨c,dct,dt,sl⟩,hl,hc,n,hd⟩:=hL
 replace hc:c = .type "tuple" := hc
 replace hd:dt = .seq items n:=hd
 subst hc hd
 refine callType_new F.called_enumerate (by decide) (F.typeCall_enumerate_1 _) (F.newCall_enumerate_1 _) (fun obj=>F.args_object_init_2 obj _) F.entry_enumerate_new (Mj l items n dct sl) ⟨hl,?_⟩
 have hz:(s.heap.push { cls:=.type "tuple_iterator",data:=.fields #[.ref l,.int 0 0] }).objs.size=s.heap.objs.size + 1:=Heap.size_push ..
 show _ /\ _
 rw [hz]
 have he : IsEnum ((s.heap.push { cls := .type "tuple_iterator", data := .fields #[.ref l, .int 0 0] }).push
     { cls:=.type "enumerate",data:=.fields #[.none,.bool false,.ref s.heap.objs.size,rawInt 0,.none,.none] }) (s.heap.objs.size + 1) s.heap.objs.size 0 .none:=by
  have:=Heap.get?_push_size (s.heap.push { cls:=.type "tuple_iterator",data:=.fields #[.ref l,.int 0 0] })
   (o:={ cls:=.type "enumerate",data:=.fields #[.none,.bool false,.ref s.heap.objs.size,rawInt 0,.none,.none] }) rfl
  rw [hz] at this;exact this
 refine ⟨⟨_,he,rfl⟩,h _ he ⟨_,Heap.get?_push_of_some _ (Heap.get?_push_size _ rfl),rfl,rfl⟩ (by rw [Heap.size_push,hz]) fun b o x=>Heap.get?_push_of_some _ (Heap.get?_push_of_some _ x)⟩
end
end PySem
namespace L2.Q3
open PySem PySem.Spec PyProof.Rows
def Ox(K:PySem.W.Frag)(a:Addr):It :=
 ⟨fun i H=>∃ (xs:List V) (x:V),SqT K H a xs /\ xs[i]? = some x,fun i H v H'=>∃ T x,v = .ref T /\ H T=none /\ H'=upd H T (.tup [.int (i:Nat),x]) /\ ∀ xs,SqT K H a xs->xs[i]? = some x,fun i H=>∃ xs:List V,SqT K H a xs /\ xs.length=i⟩
theorem HI {P : Program} {w : World} {K : PySem.W.Frag} {elts : List Expr} {kk : Nat} {tpos : Pos} (a e it : Addr) :
    Turn P w K (.Tuple elts kk tpos) (Ox K a) [e,it] e (fun i h=>(∃ old,IsEnum h e it ((i:Nat):Int) old) /\ h.IsTupleIter it a i /\ e ≠ it /\ a ≠ it /\ e ≠ a) where
 mem:=by simp
 obj:=fun i h st b hb=>by
  obtain ⟨⟨old,he⟩,⟨o,ho,hc,hd⟩,_⟩:=st
  have e':b=e \/ b=it:=by simpa using hb
  rcases e' with z | z
  . rw [z];exact ⟨_,he,fun v q=>nomatch q⟩
  . rw [z];exact ⟨o,ho,fun v q=>by rw [hd] at q;cases q⟩
 keep:=fun i h h' st k=>let ⟨⟨old,he⟩,hi,hne⟩:=st;⟨⟨old,k e (by simp) _ he⟩,hi.at fun o q=>k it (by simp) o q,hne⟩
 item:=by
  intro X hP hw hK hc i pins s σ H E I hf st hg
  subst hP hw hK
  obtain ⟨⟨old,he⟩,hit,hne,hai,hea⟩:=st
  obtain ⟨xs,x,hq,hx⟩:=hg
  obtain ⟨its,rv,p,hz⟩:=I.tuple hq
  obtain ⟨u,hu,ru⟩:=rv.get hx
  have hel:e < s.heap.objs.size:=Heap.lt_size he
  have hil:it < s.heap.objs.size:=by obtain ⟨_,q,_⟩:=hit;exact Heap.lt_size q
  have hlt:i < its.toArray.size:=by rw [List.size_toArray];exact mB hu
  refine wpAny_pyNext_enum_itemD (Gp (A:=X.A.in1) (show X.A.in1.handled=none from I.ok.hd hc) it a hai its.toArray) he ⟨hit,p⟩ hlt hne (by simp;exact ⟨hne,hea⟩) fun x' h' tk hx' ho hit' hT hsz hk=>?_
  have hxu:x'=u:=by
   have:its.toArray[i]? = some u:=by simpa using hu
   rw [this] at hx';exact (Option.some.inj hx').symm
  subst hxu
  refine ⟨_,rfl,wpAny_letOwnedTupleGo_enum (s:={ s with heap:=h',toks:=tk + 1 }) ho fun h'' he' sb=>?_⟩
  have hT2:h''.get? s.heap.objs.size=some { cls:=.type "tuple",data:=.seq #[.int i tk,x'] }:=(sb.2 _ (Nat.ne_of_gt hel)).trans hT
  have new:cB X.prog X.w (upd H s.heap.objs.size (.tup [.int (i:Nat),x])) h'' s.heap.objs.size (.tup [.int (i:Nat),x]) :=
   ⟨by show 2 <= sizeLine;decide,[.int i tk,x'],.cons ⟨_,rfl⟩ (.cons ru .nil),⟨_,hT2,rfl,_,rfl⟩⟩
  have I1:Inv X pins σ (upd H s.heap.objs.size (.tup [.int (i:Nat),x])) { s with heap:=h'',toks:=tk + 1 } :=
   I.CJ (ch:=[e,it]) (fun b ob hb q=>(sb.2 b (fun z=>hb (by simp [z]))).trans (hk b ob (fun z=>hb (by simp [z])) (fun z=>hb (by simp [z])) q)) hf (Nat.le_refl _) new
  refine ⟨.ref s.heap.objs.size,_,I1,rfl,⟨_,x,rfl,I.hok.fresh (Nat.le_refl _),rfl,fun ys hy=>by rw [I.CB hy hq];exact hx⟩,⟨⟨x',?_⟩,hit'.1.at fun o q=>(sb.2 it (Ne.symm hne)).trans q,hne,hai,hea⟩,fun b hb=>?_⟩
  . have e1:((i + 1:Nat):Int)=(i:Int) + 1:=by omega
    rw [e1];exact he'
  . have hb':b < s.heap.objs.size:=by
     have e':b=e \/ b=it:=by simpa using hb
     rcases e' with z | z
     . rw [z];exact hel
     . rw [z];exact hil
    rw [aL (Nat.ne_of_lt hb')]
    exact (hf b hb).1
 done:=by
  intro X hP hw hK hc i pins s σ H E I hf st hg
  subst hP hw hK
  obtain ⟨⟨old,he⟩,hit,hne,hai,hea⟩:=st
  obtain ⟨xs,hq,hx⟩:=hg
  obtain ⟨its,rv,p,hz⟩:=I.tuple hq
  obtain ⟨f0,f1,f2,f3,f4,f5⟩:=hf it (by simp)
  have hl:=rv.length
  have hn:its.toArray.size=i:=by rw [List.size_toArray];omega
  subst hn
  exact wpAny_pyNext_enum_endD (Gp (A:=X.A.in1) (show X.A.in1.handled=none from I.ok.hd hc) it a hai its.toArray) he ⟨hit,p⟩ fun h' eb=>⟨rfl,I.turned (t':=s.toks) (fun b o hb q=>eb b o hb q) f0 f1 f3 f4 f5⟩
 self:=fun A i s Q E st h=>let ⟨⟨_,he⟩,_⟩:=st;wpAny_pyIter_enum he h
section
variable {X:Cx}
theorem Ml {e : Expr} {ta : TA} {p pos tpos : Pos} {elts : List Expr} {kk : Nat} (hg : Gl X "enumerate") (hm : X.mg "enumerate" = none) (ha : PA X [e] ta) (hs : starEach [e] X.env = [(false, eval e X.env)] := by rfl) :
    PI X (.Tuple elts kk tpos) (.Call (.Name "enumerate" p) [e] [] pos) (fun σ H R=>ta σ H fun vs H1=>∃ a,vs = [.ref a] /\ ((∃ xs,SqL X.K H1 a xs /\ R (Ite X.K a) H1) \/ ∃ xs,SqT X.K H1 a xs /\ R (Ox X.K a) H1)):=by
 intro pins s σ H R I h
 refine Call_ (jB I hg hm boot_enumerate (PyProof.Rows.callWith_type1 (thn (ha pos pins s σ H _ I h) fun us s1 ⟨vs,H1,I1,r1,q1⟩=>?_) hs rfl))
 have fin2:∀ b,b ∈ [s1.heap.objs.size + 1,s1.heap.objs.size]->mH X pins H1 b:=fun b hb=>by
  have e':b=s1.heap.objs.size + 1 \/ b=s1.heap.objs.size:=by simpa using hb
  have hle:s1.heap.objs.size <= b:=by
   rcases e' with z | z
   . rw [z];exact Nat.le_add_right _ _
   . rw [z];exact Nat.le_refl _
  exact I1.JP hle (I1.hok.fresh hle)
 obtain ⟨a,ex,⟨xs,hq,q⟩ | ⟨xs,hq,q⟩⟩:=q1
 . subst ex
   cases r1 with
   | cons r rr =>
    cases rr
    cases r
    obtain ⟨its,rv,p',hz⟩:=I1.list hq
    refine call_enumerate_list p'.isList fun h' he hit hsz hk=>wpAny_pyIter_enum he ?_
    have I2:Inv X pins σ H1 { s1 with heap:=h' }:=I1.kept (t':=s1.toks) hk
    exact ⟨s1.heap.objs.size + 1,[s1.heap.objs.size + 1,s1.heap.objs.size],_,_,H1,rfl,I2,J0 a (s1.heap.objs.size + 1) s1.heap.objs.size,⟨⟨.none,he⟩,hit,Nat.succ_ne_self _⟩,fin2,q⟩
 . subst ex
   cases r1 with
   | cons r rr =>
    cases rr
    cases r
    obtain ⟨its,rv,p',hz⟩:=I1.tuple hq
    have hal:a < s1.heap.objs.size:=by obtain ⟨o,ho,_⟩:=p';exact Heap.lt_size ho
    refine Ov p' fun h' he hit hsz hk=>wpAny_pyIter_enum he ?_
    have I2:Inv X pins σ H1 { s1 with heap:=h' }:=I1.kept (t':=s1.toks) hk
    exact ⟨s1.heap.objs.size + 1,[s1.heap.objs.size + 1,s1.heap.objs.size],_,_,H1,rfl,I2,HI a (s1.heap.objs.size + 1) s1.heap.objs.size,⟨⟨.none,he⟩,hit,Nat.succ_ne_self _,Nat.ne_of_lt hal,Nat.ne_of_gt (Nat.lt_succ_of_lt hal)⟩,fin2,q⟩
def rH(xs:List D):List D:=xs.zipIdx.map fun p=>.tuple [.int (p.2:Int),p.1]
theorem Gq{xs:List D}{i:Nat}{y:D}(h:(rH xs)[i]? = some y):∃ x,xs[i]? = some x /\ y = .tuple [.int (i:Int),x]:=by
 unfold rH at h
 rw [List.getElem?_map,List.getElem?_zipIdx] at h
 cases e:xs[i]? with
 | none=>rw [e] at h;cases h
 | some x=>rw [e] at h;simp at h;exact ⟨x,rfl,h.symm⟩
theorem CQ{xs:List D}:(rH xs).length=xs.length:=by simp [rH]
theorem Kg{K:PySem.W.Frag}{Fz:Addr->Prop}{H:Hp}{a:Addr}{ds:List D}(h:Dr K Fz H (.ref a) (.list ds)):Walk K Fz H (Ite K a) (rH ds):=by
 intro Fz' H' g k l
 cases h with
 | lst hf hs hd =>
  have hs':=k _ _ hf hs
  have hd':=hd.keep g (fun q o z e=>k q o z e) _ _
  refine ⟨fun i y e=>?_,_,SqL.of hs',by rw [hd.length,CQ];exact Nat.le_refl _⟩
  obtain ⟨x,ex,rfl⟩:=Gq e
  obtain ⟨v,h1,h2⟩:=hd'.get ex
  refine ⟨⟨_,v,SqL.of hs',h1⟩,fun v' H'' y=>?_⟩
  obtain ⟨T,x',rfl,hT,rfl,y⟩:=y
  have:=y _ (SqL.of hs')
  rw [h1] at this
  cases this
  exact ⟨_,.Eb l hT (.cons (.int _) (.cons h2 .nil))⟩
theorem HJ{K:PySem.W.Frag}{Fz:Addr->Prop}{H:Hp}{a:Addr}{ds:List D}(h:Dr K Fz H (.ref a) (.tuple ds)):Walk K Fz H (Ox K a) (rH ds):=by
 intro Fz' H' g k l
 obtain ⟨b,us,e0,s1,d1⟩:=Rdg.tup (Fz:=Fz') (H:=H') (K:=K) (v:=.ref a) (ds:=ds) (.inl (h.keep g (fun q o z e=>k q o z e) _ _))
 cases e0
 refine ⟨fun i y e=>?_,_,s1,by rw [d1.length,CQ]⟩
 obtain ⟨x,ex,rfl⟩:=Gq e
 obtain ⟨v,h1,h2⟩:=d1.get ex
 refine ⟨⟨_,v,s1,h1⟩,fun v' H'' y=>?_⟩
 obtain ⟨T,x',rfl,hT,rfl,y⟩:=y
 have:=y _ s1
 rw [h1] at this
 cases this
 exact ⟨_,.Eb l hT (.cons (.int _) (.cons h2 .nil))⟩
def w9(fe:Fe):Fi:=fun ρ=>(jg fe ρ).bind fun p=>some (rH p.1,p.2)
theorem IV {e : Expr} {fe : Fe} {p pos tpos : Pos} {elts : List Expr} {kk : Nat} (hg : Gl X "enumerate") (hm : X.mg "enumerate" = none) (h : DE X e fe) (hs : starEach [e] X.env = [(false, eval e X.env)] := by rfl) :
    DI X (.Tuple elts kk tpos) (.Call (.Name "enumerate" p) [e] [] pos) (w9 fe) :=
 ⟨PI.imp (Ml hg hm (yD h.ok Hj (hs:=hs)) hs) fun σ H R h=>by
  obtain ⟨Fz,ρ,items,ρ',r,e,q⟩:=h
  unfold w9 at e
  cases e1:jg fe ρ with
  | none=>rw [e1] at e;cases e
  | some z =>
   obtain ⟨xs,ρ1⟩:=z
   simp only [e1,Option.bind_some] at e
   cases e
   refine so (w8 (R:=fun x v H1=>∃ a,v = .ref a /\ ((∃ xs,SqL X.K H1 a xs /\ R (Ite X.K a) H1) \/ ∃ xs,SqT X.K H1 a xs /\ R (Ox X.K a) H1)) ⟨Fz,ρ,xs,ρ',r,e1,fun v x H1 Fz1 hi p1 d=>?_⟩) fun v H1 ⟨_,a,z1,z2⟩=>⟨a,by rw [z1],z2⟩
   cases x with
   | list ys =>
    cases hi
    obtain ⟨a,us,rfl,s1,d1⟩:=Rdg.lst (Fz:=Fz1) (H:=H1) (K:=X.K) (v:=v) (ds:=xs) (.inl d)
    exact ⟨a,rfl,.inl ⟨us,SqL.of s1,q _ H1 Fz1 p1 (Kg d)⟩⟩
   | tuple ys =>
    cases hi
    obtain ⟨a,us,rfl,s1,d1⟩:=Rdg.tup (Fz:=Fz1) (H:=H1) (K:=X.K) (v:=v) (ds:=xs) (.inl d)
    exact ⟨a,rfl,.inr ⟨us,s1,q _ H1 Fz1 p1 (HJ d)⟩⟩
   | _=>cases hi⟩
end
end L2.Q3
end
section
namespace L2.Q3
open PySem PySem.Spec PyProof.Rows
section
structure DTs (X:Cx) (ifs:List Expr) (f:Ft):Prop where
 ok:PTs X ifs (tT X.K f)
def l4:Ft:=fun ρ=>some (true,ρ)
section
variable {X:Cx} {fix:Nat->Bool}
theorem PTs.imp{ifs:List Expr}{t t':TT}(h:PTs X ifs t)(i:∀ σ H Q,t' σ H Q->t σ H Q):PTs X ifs t':=fun pins s σ H Q I q=>h pins s σ H Q I (i σ H Q q)
theorem iz:DTs X [] l4:=⟨PTs.imp NO fun σ H Q h=>by
 obtain ⟨Fz,ρ,b,ρ',r,e,q⟩:=h
 cases e
 exact q H Fz (.nil r)⟩
theorem IW{c:Expr}{f:Ft}(h:DT X c f):DTs X [c] f:=⟨NP h.ok⟩
variable {elt tg iter:Expr} {ifs:List Expr} {scope:Scope} {own:List (Str × Nat)} {vs:List Nat} {pos:Pos} {fi:Fi} {fg:Fg} {ft:Ft} {fe:Fe}
theorem Gr (hc : X.calm = true) (hN : X.N.Nodup) (hv : own.map (·.2) = vs) (hi : DI X tg iter fi) (ok : gF X.N X.env.scope scope own)
    (hg:∀ (s:Shared) (H:Hp) (C:Addr) (cl:List (Str × Addr)) (fp:List Addr),DG (X.blk s H scope (compEnvC scope cl C X.env) fp) (bF vs) tg fg) (ht:∀ (s:Shared) (H:Hp) (C:Addr) (cl:List (Str × Addr)) (fp:List Addr),DTs (X.blk s H scope (compEnvC scope cl C X.env) fp) ifs ft)
    (he:∀ (s:Shared) (H:Hp) (C:Addr) (cl:List (Str × Addr)) (fp:List Addr),DE (X.blk s H scope (compEnvC scope cl C X.env) fp) elt fe) (hs:∀ x,foldedSetIterable iter X.env x=pure x:=by intro _;rfl) :
    DE X (.ListComp elt [⟨tg,iter,ifs,0⟩] scope pos) (gU fi fg ft fe vs):=by
 subst hv
 exact ⟨PE.imp (LM hc hN hi.ok ok (fun s H C cl fp=>(hg s H C cl fp).ok) (fun s H C cl fp=>(ht s H C cl fp).ok) (fun s H C cl fp=>(he s H C cl fp).ok) hs) fun σ H Q h=>Ek h⟩
theorem Mm {i : Nat} {y : Str} {py spos : Pos} (hi0 : fix i = false) (hc : X.calm = true) (hN : X.N.Nodup) (hy : X.N[i]? = some y) (hyl : X.env.scope.names.lookup y = some .local) (hv : own.map (·.2) = vs)
    (hsw:swapsWith (.ListComp elt [⟨tg,iter,ifs,0⟩] scope pos) (some (.Name y py)) spos.line X.env=pure true) (hi:DI X tg iter fi) (ok:gF X.N X.env.scope scope own)
    (hg:∀ (s:Shared) (H:Hp) (C:Addr) (cl:List (Str × Addr)) (fp:List Addr),DG (X.blk s H scope (compEnvC scope cl C X.env) fp) (bF vs) tg fg) (ht:∀ (s:Shared) (H:Hp) (C:Addr) (cl:List (Str × Addr)) (fp:List Addr),DTs (X.blk s H scope (compEnvC scope cl C X.env) fp) ifs ft)
    (he:∀ (s:Shared) (H:Hp) (C:Addr) (cl:List (Str × Addr)) (fp:List Addr),DE (X.blk s H scope (compEnvC scope cl C X.env) fp) elt fe) (hs:∀ x,foldedSetIterable iter X.env x=pure x:=by intro _;rfl) (hlt:i < 40:=by first | decide | omega) :
    DS X fix (.Assign [.Name y py] (.ListComp elt [⟨tg,iter,ifs,0⟩] scope pos) spos) (cG i (gU fi fg ft fe vs)):=by
 subst hv
 exact ⟨PS.imp (LN hc hN hy hyl hsw hi.ok ok (fun s H C cl fp=>(hg s H C cl fp).ok) (fun s H C cl fp=>(ht s H C cl fp).ok) (fun s H C cl fp=>(he s H C cl fp).ok) hs) fun D σ H h=>Ek (L8 hlt hi0 h)⟩
end
section
variable {prog:Program} {w:World} {A:Around} {E:Value->Shared->Prop} {s:Shared}
theorem Oy {t sl : Addr} {items : Array Value} {vl vu : Value} {lo hi : Option Int} {Q : Value -> Shared -> Prop} (ht : IsTup s.heap t items) (hs : s.heap.IsSliceOf sl vl vu .none) (pl : IsPart vl lo) (pu : IsPart vu hi)
    (hw:HT.sIx items.size 0 lo=0 /\ HT.sIx items.size items.size hi=items.size) (h:Q (.ref t) s):wpAny (model prog w) A (getItem (.ref t) (.ref sl)) Q E s:=by
 obtain ⟨os,hos,hcs,hds⟩:=id hs
 have hTs:s.TypeIs (.ref sl) "slice" := ⟨os,hos,hcs⟩
 unfold getItem
 try with_reducible refine wpAny_holding ?_
 first | refine wpAny_bind (wpAny_pure ?_) | skip
 refine wpAny_bind (wpAny_sequenceKey ht.typeIs (by decide) ?_)
 refine wpAny_bind (wpAny_callSpecial?_slot (name:=Str.ofString "__getitem__") ht.typeIs PyProof.Rows.slot_tuple_getitem
  (wpAny_call_entry PyProof.Rows.slot_tuple_getitem ht.typeIs entry_tuple_getitem ?_ (args_tuple_getitem _ _)))
 show wpAny _ _ (Builtin.Tuple.tupleItemsOf (.ref t) >>= _) _ _ s
 refine wpAny_bind (tupleItemsOf_ ht ?_)
 refine wpAny_bind (wpAny_typeOf hTs ?_)
 rw [if_pos (by decide)]
 refine wpAny_bind (HT.nS hs pl pu ?_)
 have yes:(((HT.sIx items.size 0 lo:Nat):Int) == 0 && (1:Int) == 1 && (HT.sIx items.size items.size hi - HT.sIx items.size 0 lo) == items.size)=true:=by
  rw [hw.1,hw.2];simp
 show wpAny _ _ (if (((HT.sIx items.size 0 lo:Nat):Int) == 0 && (1:Int) == 1 && (HT.sIx items.size items.size hi - HT.sIx items.size 0 lo) == items.size)=true then _ else _) _ _ s
 rw [if_pos yes]
 unfold Builtin.Tuple.tupleIsExact
 refine wpAny_bind (wpAny_bind (wpAny_typeOf ht.typeIs (wpAny_pure ?_)))
 rw [if_pos (by decide)]
 exact wpAny_bind (wpAny_rule (wpAny_bind (wpAny_pure (wpAny_pure ⟨_,rfl,wpAny_pure h⟩))))
end
section
variable {X:Cx}
theorem Mn:SlR X (fun x lo hi H Q=>∃ a xs,x = .ref a /\ SqT X.K H a xs /\ (HT.sIx xs.length 0 lo=0 /\ HT.sIx xs.length xs.length hi=xs.length) /\ Q (.ref a) H):=by
 intro pins s σ H x v vl vu lo hi sl Q I rx hs pl pu h
 obtain ⟨a,xs,rfl,hx,hw,q⟩:=h
 cases rx
 obtain ⟨its,r,ht,hz⟩:=I.tuple hx
 have hlen:its.toArray.size=xs.length:=by rw [List.size_toArray];exact r.length.symm
 exact ⟨"tuple",_,PyProof.Rows.slot_tuple_getitem.lookup,ht.typeIs,Oy ht hs pl pu (by rw [hlen];exact hw) ⟨.ref a,H,I,rfl,q⟩⟩
def SH(K:PySem.W.Frag):V->Option Int->Option Int->Hp->VK->Prop:=fun x lo hi H Q=>R7 K x lo hi H Q \/ (∃ a xs,x = .ref a /\ SqT K H a xs /\ (HT.sIx xs.length 0 lo=0 /\ HT.sIx xs.length xs.length hi=xs.length) /\ Q (.ref a) H) \/ Sd K x lo hi H Q \/ Sq x lo hi H Q
theorem TY:SlR X (SH X.K):=Qo.or (Mn.or (NM.or QC))
def cutD(xs:List D)(lo hi:Option Int):List D:=(xs.drop (HT.sIx xs.length 0 lo)).take (HT.sIx xs.length xs.length hi - HT.sIx xs.length 0 lo)
def gSl:D->Option Int->Option Int->Option W
 | .tuple xs,lo,hi=>some (.d (.tuple (cutD xs lo hi)))
 | .list xs,lo,hi=>some (.fr (cutD xs lo hi))
 | .str z,lo,hi=>if z.length <= 16777216 then some (.d (.str (NZ z lo hi))) else none
 | _,_,_=>none
theorem Mo{K:PySem.W.Frag}{Fz:Addr->Prop}{H:Hp}{us:List V}{xs:List D}(d:aD K Fz H us xs)(lo hi:Option Int):aD K Fz H (FQ us lo hi) (cutD xs lo hi):=by
 unfold FQ cutD
 rw [d.length]
 exact (d.drop _).take _
theorem HL{xs:List D}{lo hi:Option Int}(h:HT.sIx xs.length 0 lo=0 /\ HT.sIx xs.length xs.length hi=xs.length):cutD xs lo hi=xs:=by
 unfold cutD
 rw [h.1,h.2];simp
theorem Oz{K:PySem.W.Frag}{Fz:Addr->Prop}{H:Hp}{v:V}{x:D}{lo hi:Option Int}{w:W}{Q:VK}(l:∀ q,Fz q->H q ≠ none)(h:Rdg K Fz H v x)(e:gSl x lo hi=some w)(k:∀ v H' Fz',Made K Fz Fz' H H' w v->Q v H'):SH K v lo hi H Q:=by
 unfold gSl at e
 split at e
 . cases e
   obtain ⟨a,us,rfl,s1,d1⟩:=h.tup
   have hl:=d1.length
   by_cases hw:HT.sIx us.length 0 lo=0 /\ HT.sIx us.length us.length hi=us.length
   . refine .inr (.inl ⟨a,us,rfl,s1,hw,k _ _ _ (.val l ?_)⟩)
     rw [HL (by rw [<- hl];exact hw)]
     rcases h with h | ⟨_,_,_,_,e,_⟩
     . exact h
     . cases e
   . exact .inl ⟨a,us,rfl,s1,hw,fun p hp=>k _ _ _ (.Eb l hp (Mo d1 lo hi))⟩
 . cases e
   obtain ⟨a,us,rfl,s1,d1⟩:=h.lst
   exact .inr (.inr (.inl ⟨a,us,rfl,SqL.of s1,fun p hp=>k _ _ _ (.Hr l hp (Mo d1 _ _))⟩))
 . obtain ⟨hc,rfl⟩:=bc e
   rw [h.str]
   exact .inr (.inr (.inr ⟨_,rfl,by rw [sizeLine_eq];exact hc,k _ _ _ (.val l (.str _))⟩))
 . cases e
abbrev Fo:=Rho->Option (Option Int × Rho)
def tO(K:PySem.W.Frag)(f:Fo):TO:=fun σ H Q=>∃ Fz ρ o ρ',Rel K Fz ρ σ H /\ f ρ=some (o,ρ') /\ ∀ H' Fz',aP K Fz Fz' ρ ρ' σ H H' [] []->Q o H'
structure DO (X:Cx) (e:Option Expr) (f:Fo):Prop where
 ok:PO X e (tO X.K f)
theorem PO.imp{e:Option Expr}{t t':TO}(h:PO X e t)(i:∀ σ H Q,t' σ H Q->t σ H Q):PO X e t':=fun pins s σ H Q I q=>h pins s σ H Q I (i σ H Q q)
def foN:Fo:=fun ρ=>some (none,ρ)
def foS(fe:Fe):Fo:=fun ρ=>(fe ρ).bind fun p=>match p.1 with
 | .d (.int i)=>some (some i,p.2)
 | _=>none
theorem mC:DO X none foN:=⟨PO.imp NI fun σ H Q h=>by
 obtain ⟨Fz,ρ,o,ρ',r,e,q⟩:=h
 cases e
 exact q H Fz (.nil r)⟩
theorem mD{e:Expr}{fe:Fe}(h:DE X e fe):DO X (some e) (foS fe):=⟨PO.imp (NJ h.ok) fun σ H Q h=>by
 obtain ⟨Fz,ρ,o,ρ',r,e,q⟩:=h
 unfold foS at e
 cases e1:fe ρ with
 | none=>rw [e1] at e;cases e
 | some z =>
  obtain ⟨w,ρ1⟩:=z
  simp only [e1,Option.bind_some] at e
  split at e
  . cases e
    refine ⟨Fz,ρ,_,ρ',r,e1,fun v H1 Fz1 p1=>?_⟩
    rename_i i
    have hv:Dr X.K Fz1 H1 v (.int i):=p1.rep1
    cases hv
    exact ⟨i,rfl,q H1 Fz1 p1.drop⟩
  . cases e⟩
def yy(fe:Fe)(fl fh:Fo):Fe:=fun ρ=>(fe ρ).bind fun p=>(fl p.2).bind fun l=>(fh l.2).bind fun u=>(rdW u.2 p.1).bind fun x=>(gSl x l.1 u.1).bind fun w=>some (w,u.2)
theorem j9{e:Expr}{lo hi:Option Expr}{p2 pos:Pos}{fe:Fe}{fl fh:Fo}(he:DE X e fe)(hl:DO X lo fl)(hu:DO X hi fh):DE X (.Subscript e (.Slice lo hi none p2) pos) (yy fe fl fh) :=
 ⟨PE.imp (LC TY he.ok hl.ok hu.ok) fun σ H Q h=>by
  obtain ⟨Fz,ρ,w,ρ',r,e,q⟩:=h
  unfold yy at e
  cases e1:fe ρ with
  | none=>rw [e1] at e;cases e
  | some z1 =>
   obtain ⟨w1,ρ1⟩:=z1
   simp only [e1,Option.bind_some] at e
   cases e2:fl ρ1 with
   | none=>rw [e2] at e;cases e
   | some z2 =>
    obtain ⟨l,ρ2⟩:=z2
    simp only [e2,Option.bind_some] at e
    cases e3:fh ρ2 with
    | none=>rw [e3] at e;cases e
    | some z3 =>
     obtain ⟨u,ρ3⟩:=z3
     simp only [e3,Option.bind_some] at e
     cases e4:rdW ρ3 w1 with
     | none=>rw [e4] at e;cases e
     | some x =>
      simp only [e4,Option.bind_some] at e
      cases e5:gSl x l u with
      | none=>rw [e5] at e;cases e
      | some w5 =>
       simp only [e5,Option.bind_some] at e
       cases e
       refine ⟨Fz,ρ,w1,ρ1,r,e1,fun v H1 Fz1 p1=>⟨Fz1,ρ1,l,ρ2,p1.rel,e2,fun H2 Fz2 p2=>⟨Fz2,ρ2,u,ρ',p2.rel,e3,fun H3 Fz3 p3=>?_⟩⟩⟩
       have p13:=p1.cons (p2.seq p3)
       exact Oz p13.rel.fzl (p13.rel.rdg p13.rep1 e4) e5 fun v4 H4 Fz4 m=>q v4 H4 Fz4 (p13.made m)⟩
end
section
variable {X:Cx}
def cw:D->String
 | .none => "NoneType"
 | .bool _ => "bool"
 | .int _ => "int"
 | .str _ => "str"
 | .list _ => "list"
 | .tuple _ => "tuple"
 | .dict _ => "dict"
def fS(a b:String):Bool:=a == b || (a == "bool" && b == "int")
structure CS (K:PySem.W.Frag) (n:String):Prop where
 ok:∀ a,a ∈ ["NoneType", "bool", "int", "str", "list", "tuple", "dict"]->PySem.W.kitOne K (.type a) (.type n)=some (fS a n)
theorem QU {pins : List (Addr × Obj)} {σ : St} {H : Hp} {s : Shared} {A : Around} {E : Value -> Shared -> Prop} {Q : Value -> Shared -> Prop} {Fz : Addr -> Prop} {n : String} {x : D} {v : V} {u : Value} (I : Inv X pins σ H s) (rv : RelV v u) (ok : CS X.K n) (ns : (∀ ys, x ≠ .dict [(.none, .list ys)]) /\ ∀ ks ys, x ≠ .dict [(.tuple ks, .list ys)])
    (h:Rdg X.K Fz H v x) (q:∀ tk,Q (.bool (fS (cw x) n)) { s with toks:=tk }):wpAny (model X.prog X.w) A (call (.builtin "isinstance") [u,.type n]) Q E s:=by
 rcases h with h | ⟨p,vs,xs,rfl,rfl,e,_⟩
 . cases h with
   | non=>exact eW I rv .non (ok.ok "NoneType" (by simp)) q
   | bl b=>exact eW I rv (.bl b) (ok.ok "bool" (by simp)) q
   | int i=>exact eW I rv (.int i) (ok.ok "int" (by simp)) q
   | str z=>exact eW I rv (.str z) (ok.ok "str" (by simp)) q
   | lst hf hs ha=>exact eW I rv (.lst hs) (ok.ok "list" (by simp)) q
   | tup hf hs ha=>exact eW I rv (.tup hs) (ok.ok "tuple" (by simp)) q
   | tuk hs ha =>
    obtain ⟨o,its,m,h1,h2,_⟩:=QD hs
    cases (show u=Value.ref _ from rv)
    exact PySem.W.kia_one PySem.W.kitx_tuple I.kIn ⟨o,I.kIn _ o h1,h2⟩ (ok.ok "tuple" (by simp)) (fun z=>nomatch z) q
   | dct hf hs ha=>exact eW I rv (.dK hs) (ok.ok "dict" (by simp)) q
   | dki hf hs e=>exact eW I rv (.dK hs) (ok.ok "dict" (by simp)) q
   | dkb hf hs e=>exact eW I rv (.dK hs) (ok.ok "dict" (by simp)) q
   | dkn hf hs e hk hv hd=>exact eW I rv (.dN hs) (ok.ok "dict" (by simp)) q
   | scr hs ha=>exact absurd rfl (ns.1 _)
   | obj _ _ _ _ _ _=>exact absurd rfl (ns.2 _ _)
   | sts _ _ _ _ _ _ _=>exact absurd rfl (ns.2 _ _)
 . exact eW I rv (.lst e) (ok.ok "list" (by simp)) q
def wF(n:String):D->Option Bool
 | .dict [(.none,.list _)]=>none
 | .dict [(.tuple _,.list _)]=>none
 | x=>some (fS (cw x) n)
theorem Kh{n:String}{x:D}{b:Bool}(h:wF n x=some b):((∀ ys,x ≠ .dict [(.none,.list ys)]) /\ ∀ ks ys,x ≠ .dict [(.tuple ks,.list ys)]) /\ b=fS (cw x) n:=by
 unfold wF at h
 split at h
 . cases h
 . cases h
 . rename_i hx hy
   cases h
   exact ⟨⟨fun ys e=>hx ys e,fun ks ys e=>hy ks ys e⟩,rfl⟩
def mE(n:String)(fe:Fe):Fe:=fun ρ=>(fe ρ).bind fun p=>(rdW p.2 p.1).bind fun x=>(wF n x).bind fun b=>some (.d (.bool b),p.2)
theorem nB {e : Expr} {fe : Fe} {y : Str} {n : String} {p p2 pos : Pos} (he : DE X e fe) (ok : CS X.K n) (hg : Gl X "isinstance") (hm : X.mg "isinstance" = none) (hg2 : Gl X y) (hm2 : X.mg y = none) (hv2 : bootBuiltins y = some (.type n))
    (hn2:y ≠ "__name__" := by decide) (hd2:(y == ("__debug__" : Str))=false:=by decide)
    (hs:starEach [e,.Name y p2] X.env=(false,eval e X.env) :: starEach [.Name y p2] X.env:=by rfl) (hs2:starEach [.Name y p2] X.env = [(false,eval (.Name y p2) X.env)]:=by rfl) (hpl:(backTo pos (starEach [.Name y p2] X.env)).any (·.1)=false:=by rfl) :
    DE X (.Call (.Name "isinstance" p) [e,.Name y p2] [] pos) (mE n fe):=by
 refine ⟨fun pins s σ H Q I h=>?_⟩
 obtain ⟨Fz,ρ,w,ρ',r,ee,q⟩:=h
 unfold mE at ee
 cases e1:fe ρ with
 | none=>rw [e1] at ee;cases ee
 | some z =>
  obtain ⟨w1,ρ1⟩:=z
  simp only [e1,Option.bind_some] at ee
  cases e2:rdW ρ1 w1 with
  | none=>rw [e2] at ee;cases ee
  | some x =>
   simp only [e2,Option.bind_some] at ee
   cases e3:wF n x with
   | none=>rw [e3] at ee;cases ee
   | some b =>
    simp only [e3,Option.bind_some] at ee
    cases ee
    obtain ⟨ns,rfl⟩:=Kh e3
    refine wpAny_Call_Name_kw (jB I hg hm (u:=.builtin "isinstance") (by decide +kernel) ?_)
    have tt:Ly (tE X.K fe) (Ly (tC (.ty n)) R5) σ H fun vs H1=>∃ v Fz1,vs = [v,.ty n] /\ aP X.K Fz Fz1 ρ ρ' σ H H1 [w1] [v]:=⟨Fz,ρ,w1,ρ',r,e1,fun v H1 Fz1 p1=>⟨v,Fz1,rfl,p1⟩⟩
    have pa:=yD he.ok (yD (Np (v:=.ty n) hg2 hm2 hv2 rfl hn2 hd2) Hj (hs:=hs2)) hs
    exact PyProof.Rows.callWith_builtin1 (thn (pa pos pins s σ H _ I tt) fun us s1 hh=>by
     obtain ⟨vs,H1,I1,r1,v,Fz1,ev,p1⟩:=hh
     subst ev
     cases r1 with
     | cons ra rb =>
      cases rb with
      | cons rc rd =>
       cases rd
       cases rc
       exact QU I1 ra ok ns (p1.rel.rdg p1.rep1 e2) fun tk=>⟨.bl _,H1,I1.tok _,rfl,q _ H1 Fz1 (p1.made (.val p1.rel.fzl (.bl _)))⟩) hs hpl
end
end
section
theorem vK{A:Around}{k:Nat}(hr:bZ k A):A.units + 64 < cLine:=hr.units
theorem SM{A:Around}{k:Nat}(hr:bZ k A):A.units + 65 < cLine:=by have:=hr.un;omega
def pH:List D->Option W
 | [.int i]=>some (.d (.int (-i)))
 | _=>none
section
variable {X:Cx} {a:Expr} {fa:Fe} {pos:Pos}
theorem lq(ha:DE X a fa):DE X (.UnaryOp .USub a pos) (fe1 pH fa) :=
 ⟨PE.imp (O3 Lu ha.ok) fun σ H Q h=>F5 (r:=rU fun i=>.int (-i)) (fun Fz H vs xs w Q l h e k=>by
  unfold pH at e
  split at e
  . cases e
    obtain ⟨v,rfl,h1⟩:=dh h
    rw [h1.int]
    exact ⟨_,rfl,k _ _ _ (.val l (.int _))⟩
  . cases e) h⟩
end
structure Cal (P:Program) (w:World) (K:PySem.W.Frag) (mg:Str->Option Value) (base:Heap) (k:Nat) (x:Str) (np:Nat) (F:Fn):Prop where
 ex:∃ f fd ps,jd P w K mg base CX0 k f fd ps (spF K np F) /\ mg x=some (.ref f) /\ PySem.W.keepIn K (.ref f)=true /\ Binds K fd ps []
structure Dfn (K:PySem.W.Frag) (mg:Str->Option Value) (x:Str) (st:Stmt):Prop where
 ex:∃ f fd,Fun K x x st f fd /\ mg x=some (.ref f)
section
variable {X:Cx} {k np:Nat} {F:Fn} {x:Str} {p pos:Pos} {e:Expr} {es:List Expr} {fa:Fa}
theorem ij (C : Cal X.prog X.w X.K X.mg X.base k x np F) (hr : bZ k X.A) (hg : Gl X x) (ha : DAn X (e :: es) fa np) (hdb : (x == ("__debug__" : Str)) = false := by decide)
    (he:starEach (e :: es) X.env=(false,eval e X.env) :: starEach es X.env:=by rfl) (hpl:(backTo pos (starEach es X.env)).any (·.1)=false:=by rfl):DE X (.Call (.Name x p) (e :: es) [] pos) (aw F fa):=by
 obtain ⟨f,fd,ps,h1,h2,h3,h4⟩:=C.ex
 exact Of h1 hr hg h2 h3 h4 Sr ha hdb he hpl
end
section
variable {P:Program} {w:World} {K:PySem.W.Frag} {mg:Str->Option Value} {base:Heap}
theorem dj {x : Str} {st : Stmt} {N ps : List Str} {k np : Nat} {fx : List Bool} {fs : Fs} (d : Dfn K mg x st) (S : aN N ps (ah st)) (hp : ps.length = fx.length) (hn : fx.length <= N.length) (hnp : fx.length = np)
    (hb:∀ (kV doc pm:Value) (an:Option Addr) (cdv ct:Value) (us:List Value),us.length=ps.length->bindArgs (PySem.W.fnOf x x (aM st) (aG st) (ah st) .none kV doc pm an cdv ct) ⟨us,[]⟩=pure (ps.zip us))
    (hbody:∀ (f:Addr) (cdv:Value) (A:Around) (outer:List Env) (s:Shared) (H:Hp) (E:XK),bZ k (A.deeper (envOfC x (ah st) s.heap.objs.size f cdv)) ->
     DSs (ja CX0 P w K mg base N x (ah st) f cdv A outer s H E).nox (rS fx) (aG st) fs):Cal P w K mg base (k + 1) x np (fnOf fx N.length fs):=by
 obtain ⟨f,fd,F,h⟩:=d.ex
 subst hnp
 exact ⟨f,fd,ps,Ma F S hp hn (hbody f),h,F.kp,F.binds hb⟩
theorem Cal.fn{k np:Nat}{x:Str}{F G:Fn}(C:Cal P w K mg base k x np F)(i:∀ ws r,G ws=some r->F ws=some r):Cal P w K mg base k x np G:=by
 obtain ⟨f,fd,ps,h1,h2⟩:=C.ex
 exact ⟨f,fd,ps,jd.fn h1 i,h2⟩
end
end
end L2.Q3
end
section
namespace PySem
open Sem (wp)
section
theorem Kj(t:SetTable)(n:Nat):(t.orStandIn n).led=t.led /\ ((t.orStandIn n).plain=t.plain \/ (t.orStandIn n).plain=false):=by
 unfold SetTable.orStandIn
 split
 . exact ⟨rfl,.inl rfl⟩
 . exact ⟨rfl,.inr rfl⟩
theorem Mu(t:SetTable)(es:Array (Int × Value))(h:Int)(x:Value):(layNew t es h x).2.1.led=t.led:=by
 unfold layNew
 cases t.freeSlot h with
 | none=>rfl
 | some p =>
  obtain ⟨slot,wd⟩:=p
  exact (Kj (t.put slot).1 _).1
theorem QX{mask finger moves:Nat}{led plain:Bool}{hs:Array Int}{r:SetTable × Array Nat}(h:SetTable.laid mask finger moves led plain hs=some r):r.1.led=led /\ r.1.plain=plain:=by
 unfold SetTable.laid at h
 cases e:SetTable.layClean mask hs with
 | none=>rw [e] at h;cases h
 | some ow=>rw [e] at h;cases h;exact ⟨rfl,rfl⟩
theorem HQ(t:SetTable)(es:Array (Int × Value))(n:Nat):(relayAll t es n).2.1.led=t.led /\ ((relayAll t es n).2.1.plain=t.plain \/ (relayAll t es n).2.1.plain=false):=by
 unfold relayAll
 cases e:t.relaid (es.map (·.1)) n with
 | none=>exact ⟨rfl,.inr rfl⟩
 | some r =>
  obtain ⟨t',order⟩:=r
  have:=QX (h:=e)
  dsimp only
  split
  . exact ⟨this.1,.inl this.2⟩
  . exact ⟨rfl,.inr rfl⟩
def nE(e:Int × Value):Str:=match e.2 with
 | .str k _=>k
 | _ => ""
def sV(prog:Program)(w:World)(h:Heap)(a:Addr)(b:Bool)(ks:List Str):Prop :=
 ∃ o es ep t,h.get? a=some o /\ o.ExactSet /\ o.data = .set es ep t /\ ElemsOf (strKind prog w) es.toList /\ es.size < scanBound /\ t.fits es.size=true /\ es.toList.map nE=ks /\ ks.Nodup /\ t.led=b /\ (ks = [] \/ t.plain=false)
theorem sV.keeps{prog:Program}{w:World}{h h':Heap}{a:Addr}{b:Bool}{ks:List Str}(x:sV prog w h a b ks)(k:∀ o,h.get? a=some o->h'.get? a=some o):sV prog w h' a b ks:=by
 obtain ⟨o,es,ep,t,ho,r⟩:=x
 exact ⟨o,es,ep,t,k o ho,r⟩
theorem I0{prog:Program}{w:World}{k:Str}{v:Value}(h:(strKind prog w).is k v=true):∃ t,v = .str k t:=Value.isStrOf_shape (x:=k) (v:=v) h
theorem HR{prog:Program}{w:World}{k:Str}{e:Int × Value}(h:(strKind prog w).is k e.2=true):nE e=k:=by
 obtain ⟨t,ht⟩:=I0 h
 unfold nE;rw [ht]
section
variable {prog:Program} {w:World} {A:Around} {E:Value->Shared->Prop} {s:Shared}
theorem SQ {a : Addr} {b : Bool} {ks : List Str} {x : Str} {tk : Tok} {Q : Bool -> Shared -> Prop} (hS : sV prog w s.heap a b ks) (hroom : ks.length + 1 < scanBound)
    (h:∀ h' ks',Heap.SameBut a s.heap h'->(if x ∈ ks then ks'=ks else ks'.Perm (ks ++ [x]))->sV prog w h' a b ks'->Q (!decide (x ∈ ks)) { s with heap:=h' }) :
    wpAny (model prog w) A (setAddHashed a (.str x tk) ((strKind prog w).hash x)) Q E s:=by
 obtain ⟨o,es,ep,t,ho,hex,hd,hel,hb,hf,hks,hnd,hled,hpl⟩:=id hS
 have hkey:(strKind prog w).is x (.str x tk)=true:=strKind_is prog w x tk
 have hsc:(Value.str x tk).scannable=true:=rfl
 have hlen:es.size=ks.length:=by rw [<- hks,List.length_map,Array.length_toList]
 unfold setAddHashed setAddHashedIn
 refine wpAny_holding (wpAny_bind (wpAny_setState_of ho hd hf ?_))
 dsimp only
 rw [byScan_of hsc hb hel]
 simp only [↓reduceIte]
 unfold setAddByScan
 refine wpAny_bind (wpAny_bind (wpAny_rule (wpAny_bind (wpAny_setScan_of hkey ho hd hf hel ?_))))
 cases hr:List.findIdx? (fun e=>(strKind prog w).is x e.2) es.toList with
 | some j =>
  dsimp only
  obtain ⟨hj,hpj,_⟩:=List.findIdx?_eq_some_iff_getElem.mp hr
  have hmem:x ∈ ks:=by
   rw [<- hks,<- HR hpj]
   exact List.mem_map.mpr ⟨_,List.getElem_mem hj,rfl⟩
  refine wpAny_pure (wpAny_pure ?_)
  have:=h s.heap ks (Heap.SameBut.refl a s.heap) (by rw [if_pos hmem]) hS
  rw [decide_eq_true hmem] at this
  exact this
 | none =>
  dsimp only
  have hmem:x ∉ ks:=by
   rw [<- hks]
   intro hx
   obtain ⟨e,he,hk⟩:=List.mem_map.mp hx
   obtain ⟨⟨k',hk',_⟩,_⟩:=hel e he
   have e1:=HR hk'
   rw [hk] at e1
   subst e1
   have:=List.findIdx?_eq_none_iff.mp hr e he
   rw [hk'] at this;exact Bool.noConfusion this
  have hperm:=layNew_perm t es ((strKind prog w).hash x) (.str x tk)
  have hfits:=layNew_fits t es ((strKind prog w).hash x) (.str x tk)
  have hl1:=Mu t es ((strKind prog w).hash x) (.str x tk)
  generalize hL:layNew t es ((strKind prog w).hash x) (.str x tk)=L at hperm hfits hl1 ⊢
  obtain ⟨es1,t1,wasDummy,gave⟩:=L
  dsimp only at hperm hfits hl1 ⊢
  rw [Array.toList_push] at hperm
  have hel1:ElemsOf (strKind prog w) es1.toList:=(hel.push hkey hsc).perm hperm
  have hb1:es1.size < scanBound:=by rw [<- Array.length_toList,hperm.length_eq,List.length_append,Array.length_toList,hlen];exact hroom
  have hp1:(es1.toList.map nE).Perm (ks ++ [x]):=by
   have:=hperm.map nE
   rw [List.map_append,hks] at this
   exact this
  have hnd':(ks ++ [x]).Nodup:=by
   rw [List.nodup_append]
   exact ⟨hnd,by simp,fun y hy z hz=>by rw [List.mem_singleton.mp hz];exact fun e=>hmem (e ▸ hy)⟩
  refine wpAny_bind ?_
  have go : ∀ {t2 : SetTable}, t2.fits es1.size = true -> t2.led = b -> t2.plain = false -> wpAny (model prog w) A (do
      storeSet a es1 t2
      if (!wasDummy && t2.tooFull) = true then do
          (match (relayAll t2 es1 (SetTable.grown es1.size)).2.2 with | true=>rule "set.scan.the-table-gave-way" | false=>pure ())
          storeSet a (relayAll t2 es1 (SetTable.grown es1.size)).1 (relayAll t2 es1 (SetTable.grown es1.size)).2.1
          pure (some true)
       else pure (some true)) (fun r s'=>r=some true /\ Q true s') E s:=by
   intro t2 f2 l2 p2
   refine wpAny_bind (wpAny_storeSet_of ho hd ?_ (fits_of_scanBound hb1))
   have hg:(s.heap.update a (Obj.putSet es1 t2)).get? a=some { o with data:=.set es1 (ep + 1) t2 }:=by
    have:=Heap.get?_update_self (Obj.putSet es1 t2) ho (by rw [putSet_of es1 t2 hd];rfl)
    rw [putSet_of es1 t2 hd] at this;exact this
   have hsb1:=Heap.SameBut.update s.heap a (Obj.putSet es1 t2)
   split
   . have hp:=relayAll_perm t2 es1 (SetTable.grown es1.size)
     have hfr:=relayAll_fits t2 es1 (SetTable.grown es1.size)
     have hlr:=HQ t2 es1 (SetTable.grown es1.size)
     generalize hRl:relayAll t2 es1 (SetTable.grown es1.size)=Rl at hp hfr hlr ⊢
     obtain ⟨es2,t3,gave2⟩:=Rl
     dsimp only at hp hfr hlr ⊢
     have hsz:es2.size=es1.size:=by rw [<- Array.length_toList,hp.length_eq,Array.length_toList]
     refine wpAny_bind ?_
     have nxt : wpAny (model prog w) A (do
         storeSet a es2 t3
         pure (some true)) (fun r s'=>r=some true /\ Q true s') E { s with heap:=s.heap.update a (Obj.putSet es1 t2) }:=by
      refine wpAny_bind (wpAny_storeSet_of hg rfl ?_ (fits_of_scanBound (by rw [hsz];exact hb1)))
      have hg2:=Heap.get?_update_self (Obj.putSet es2 t3) hg rfl
      have:=h _ (es2.toList.map nE) (hsb1.trans (Heap.SameBut.update _ a (Obj.putSet es2 t3))) (by rw [if_neg hmem];exact (hp.map nE).trans hp1)
       ⟨_,es2,ep + 1 + 1,t3,hg2,hex,rfl,hel1.perm hp,by rw [hsz];exact hb1,hfr,rfl,((hp.map nE).trans hp1).nodup_iff.mpr hnd',by rw [hlr.1];exact l2,.inr (by rcases hlr.2 with z | z;rw [z];exact p2;exact z)⟩
      rw [decide_eq_false hmem] at this
      exact wpAny_pure ⟨rfl,this⟩
     cases gave2 with
     | true=>exact wpAny_rule nxt
     | false=>exact wpAny_pure nxt
   . have:=h _ (es1.toList.map nE) hsb1 (by rw [if_neg hmem];exact hp1) ⟨_,es1,ep + 1,t2,hg,hex,rfl,hel1,hb1,f2,rfl,hp1.nodup_iff.mpr hnd',l2,.inr p2⟩
     rw [decide_eq_false hmem] at this
     exact wpAny_pure ⟨rfl,this⟩
  have fin : ∀ {t2 : SetTable}, t2.fits es1.size = true -> t2.led = b -> t2.plain = false -> wpAny (model prog w) A (do
      storeSet a es1 t2
      if (!wasDummy && t2.tooFull) = true then do
          (match (relayAll t2 es1 (SetTable.grown es1.size)).2.2 with | true=>rule "set.scan.the-table-gave-way" | false=>pure ())
          storeSet a (relayAll t2 es1 (SetTable.grown es1.size)).1 (relayAll t2 es1 (SetTable.grown es1.size)).2.1
          pure (some true)
       else pure (some true)) (fun a_1 s₁=>wpAny (model prog w) A (match a_1 with | some added=>pure added | none=>setAddHashedIn a (Value.str x tk) ((strKind prog w).hash x) 99999) Q E s₁) E s:=fun f2 l2 p2 =>
   wpAny_mono (go f2 l2 p2) (fun r s' hr=>by obtain ⟨rfl,hq⟩:=hr;exact wpAny_pure hq) fun _ _ z=>z
  have cont : wpAny (model prog w) A (do
      let byValue <- if t1.plain=true then hashByValue 8 (Value.str x tk) else pure true
      let t2:SetTable:=if byValue=true then t1 else { t1 with plain:=false }
      storeSet a es1 t2
      if (!wasDummy && t2.tooFull) = true then do
          (match (relayAll t2 es1 (SetTable.grown es1.size)).2.2 with | true=>rule "set.scan.the-table-gave-way" | false=>pure ())
          storeSet a (relayAll t2 es1 (SetTable.grown es1.size)).1 (relayAll t2 es1 (SetTable.grown es1.size)).2.1
          pure (some true)
       else pure (some true)) (fun a_1 s₁=>wpAny (model prog w) A (match a_1 with | some added=>pure added | none=>setAddHashedIn a (Value.str x tk) ((strKind prog w).hash x) 99999) Q E s₁) E s:=by
   by_cases hp:t1.plain=true
   . rw [if_pos hp,hashByValue_scannable 8 hsc]
     refine wpAny_bind (wpAny_pure ?_)
     exact fin (t2:={ t1 with plain:=false }) (SetTable.fits_plain_off hfits) (by rw [<- hled,<- hl1]) rfl
   . rw [if_neg hp]
     refine wpAny_bind (wpAny_pure ?_)
     exact fin (t2:=t1) hfits (by rw [hl1,hled]) (by simpa using hp)
  cases gave with
  | true=>exact wpAny_rule cont
  | false=>exact wpAny_pure cont
end
end
section
abbrev ka(w:World):Bool:=w.params.followText "set-order"
section
variable {prog:Program} {w:World} {A:Around} {E:Value->Shared->Prop} {s:Shared}
abbrev l9(w:World):Obj:={ cls:=.type "set",dict:=none,data:=.set #[] 0 (.fresh 0 0 (!ka w)) }
theorem Mv (a : Value) {Q₁ : Value -> Shared -> Prop} (h : Q₁ (.ref s.heap.objs.size) { s with heap := s.heap.push (l9 w) }) :
    codeAny (model prog w) A (.call (.builtin "set.__new__") ⟨[.type "set",a],[]⟩) (wants Q₁ E) s:=by
 refine codeAny_of_tree ?_
 show wpAny _ A.in1 (do checkBuiltinCall "set.__new__" ⟨[.type "set",a],[]⟩;again (.builtin "set.__new__" ⟨[.type "set",a],[]⟩)) _ _ s
 refine wpAny_bind (wpAny_of_eq (F.newCall_set_1 a) (wpAny_pure ⟨plainId_quiet F.plain_set_new _,codeAny_builtin F.entry_set_new ?_⟩))
 rw [Around.under_plainId F.plain_set_new _]
 unfold Builtin.«set.__new__» Builtin.Frozenset.newClass
 have hsub:=sub_set_self
 obtain ⟨hp,g,d,tk,os⟩:=s
 dsimp only
 wp_walk
 refine wpAny_askSetting (wpAny_pure ?_)
 dsimp only
 simp only [newObj]
 refine wpAny_bind (wpAny_alloc (wpAny_pure ?_))
 exact wpAny_pure h
theorem OD{h:Heap}{a:Addr}(e:h.get? a=some (l9 w)):sV prog w h a (!ka w) [] :=
 ⟨_,#[],0,_,e,⟨rfl,rfl,rfl⟩,rfl,fun e he=>by simp at he,by decide,by rfl,rfl,List.nodup_nil,rfl,.inl rfl⟩
def ma(xs:List Str):List Str:=xs.foldl (fun acc x=>if x ∈ acc then acc else acc ++ [x]) []
theorem HS(xs:List Str)(x:Str):ma (xs ++ [x])=if x ∈ ma xs then ma xs else ma xs ++ [x]:=by
 unfold ma
 rw [List.foldl_append];rfl
theorem xa(xs:List Str):(ma xs).length <= xs.length:=by
 have g:∀ (xs acc:List Str),(xs.foldl (fun acc x=>if x ∈ acc then acc else acc ++ [x]) acc).length <= acc.length + xs.length:=by
  intro xs
  induction xs with
  | nil=>intro acc;exact Nat.le_refl _
  | cons x xs ih =>
   intro acc
   rw [List.foldl_cons]
   refine Nat.le_trans (ih _) ?_
   split
   . simp
   . simp;omega
 have:=g xs []
 simpa [ma] using this
end
section
variable {prog:Program} {w:World} {A:Around} {R:Result->Shared->Prop} {I:Addr} {fp wr:List Addr} {G:Array GenState->Array GenState->Prop} {n:Nat} {P:Nat->Value->Prop} {St:Nat->Shared->Prop}
theorem Mw (W : WalksS prog w A.in1 I fp wr G n P St) (S : Addr) (hSf : S ∉ fp) (xs : List Str) (hn : xs.length = n) (hval : ∀ i v, P i v -> ∃ x t, xs[i]? = some x /\ v = .str x t) (hb : n + 1 < scanBound) (b : Bool) :
    ∀ (k i:Nat) (s:Shared) (ks:List Str),n - i=k->i <= n->St i s->ks.Perm (ma (xs.take i))->sV prog w s.heap S b ks ->
     (∀ s' ks',Moved (S :: wr) G s s'->ks'.Perm (ma xs)->sV prog w s'.heap S b ks'->R (.ok (.ret .none)) s') ->
     codeAny (model prog w) A (.builtin "set.update.loop" ⟨[.ref S,.ref I],[]⟩) R s:=by
 have hSw:S ∉ wr:=fun h=>hSf (W.sub _ h)
 have hsub:∀ b ∈ wr,b ∈ S :: wr:=fun b hb=>List.mem_cons_of_mem _ hb
 intro k
 induction k with
 | zero =>
  intro i s ks hk hi hst hp hS hR
  have hin:i=n:=by omega
  subst hin
  refine codeAny_builtin PyProof.Rows.F.entry_set_update_loop ?_
  rw [Around.under_plainId PyProof.Rows.F.plain_set_update_loop _]
  show wpAny _ A.in1 (pyNext (.ref I) >>= _) _ _ s
  refine wpAny_bind (W.done s _ _ hst fun s' hm=>?_)
  show wpAny _ A.in1 (ret Value.none) _ _ s'
  rw [<- hn,List.take_length] at hp
  exact wpAny_pure (hR s' ks (hm.mono hsub) hp (hS.keeps fun o e=>hm.heap S _ hSw e))
 | succ k ih =>
  intro i s ks hk hi hst hp hS hR
  have hlt:i < n:=by omega
  refine codeAny_builtin PyProof.Rows.F.entry_set_update_loop ?_
  rw [Around.under_plainId PyProof.Rows.F.plain_set_update_loop _]
  show wpAny _ A.in1 (pyNext (.ref I) >>= _) _ _ s
  refine wpAny_bind (W.item i s _ _ hlt hst fun v s' hP hst' hm=>?_)
  obtain ⟨x,t,hx,rfl⟩:=hval i v hP
  have hS':sV prog w s'.heap S b ks:=hS.keeps fun o e=>hm.heap S _ hSw e
  show wpAny _ A.in1 (holding [Value.str x t] (setAdd S (.str x t)) >>= _) _ _ s'
  refine wpAny_bind (wpAny_holding ?_)
  unfold setAdd
  refine wpAny_holding ?_
  refine wpAny_bind ((strKind prog w).pyHash (k:=x) (strKind_is _ _ _ _) ?_)
  have hl:=xa (xs.take i)
  rw [List.length_take] at hl
  have hroom:ks.length + 1 < scanBound:=by rw [hp.length_eq];omega
  refine SQ (s:={ s' with toks:=s'.toks + 1 }) hS' hroom fun h' ks' hsb hpk hS2=>?_
  have htake:xs.take (i + 1)=xs.take i ++ [x]:=by
   rw [List.take_succ,hx];rfl
  have hp':ks'.Perm (ma (xs.take (i + 1))):=by
   rw [htake,HS]
   by_cases hm':x ∈ ks
   . rw [if_pos hm'] at hpk
     rw [if_pos (hp.mem_iff.mp hm'),hpk];exact hp
   . rw [if_neg hm'] at hpk
     rw [if_neg (fun z=>hm' (hp.mem_iff.mpr z))]
     exact hpk.trans (hp.append_right [x])
  refine wpAny_pure ⟨plainId_quiet PyProof.Rows.F.plain_set_update_loop _,ih (i + 1) _ ks' (by omega) hlt (W.frame _ s' _ _ hst' (Nat.le_succ _) fun b hb o e=>?_) hp' hS2 fun s'' ks'' hm'' hp'' hS''=>?_⟩
  . rw [hsb.2 b (fun h:b=S=>hSf (by rw [<- h];exact hb))];exact e
  . refine hR s'' ks'' (Moved.trans W.gtrans ((hm.mono hsub).then_heap (Nat.le_succ _) fun b o hb e=>?_) hm'') hp'' hS''
    rw [hsb.2 b (fun h:b=S=>hb (by rw [h];exact List.mem_cons_self))];exact e
end
section
variable {prog:Program} {w:World} {A:Around} {E:Value->Shared->Prop} {s:Shared}
theorem SR {l : Addr} {items : Array Value} {xs : List Str} {Q : Value -> Shared -> Prop} (hh : A.handled = none) (hl : s.heap.IsList l items) (hn : xs.length = items.size) (hi : ∀ (i : Nat) (v : Value), items[i]? = some v -> ∃ x t, xs[i]? = some x /\ v = .str x t) (hb : items.size + 1 < scanBound)
    (h:∀ (h':Heap) (tk:Nat) (ks:List Str),ks.Perm (ma xs)->sV prog w h' s.heap.objs.size (!ka w) ks->(∀ b o,b < s.heap.objs.size->s.heap.get? b=some o->h'.get? b=some o)->Q (.ref s.heap.objs.size) { s with heap:=h',toks:=tk }) :
    wpAny (model prog w) A (call (.type "set") [.ref l]) Q E s:=by
 obtain ⟨c,tl,hmro⟩:=F.called_set.mro
 have hmade:=F.called_set.made
 have hsub:=F.called_set.sub
 refine wpAny_call (codeAny_of_tree ?_)
 show wpAny _ _ (callAny (.type "set") _) _ _ _
 refine wpAny_pure ⟨Code.quiet_builtin _ (by decide +kernel),codeAny_builtin F.entry_type_call ?_⟩
 rw [Around.under_plain (weight_type_call_type "set" [.ref l] []) rfl]
 have h1:=F.called_set.notType
 have h2:=F.called_set.canCreate
 have hct:=F.typeCall_set_1 (.ref l)
 repeat (any_goals (first | assumption | wp_step))
 refine codeAny_mono (Mv (.ref l) (E:=E) (Q₁:=fun obj s₁=>obj = .ref s.heap.objs.size /\ s₁={ s with heap:=s.heap.push (l9 w) }) ⟨rfl,rfl⟩) fun r s₁ hr=>?_
 cases r with
 | error e=>exact hr
 | ok fl =>
  cases fl with
  | ret obj =>
   obtain ⟨rfl,rfl⟩:=hr
   have hS:(s.heap.push (l9 w)).get? s.heap.objs.size=some (l9 w):=Heap.get?_push_size _ rfl
   have hT:Shared.TypeIs { s with heap:=s.heap.push (l9 w) } (.ref s.heap.objs.size) "set" := ⟨_,hS,rfl⟩
   have hli:=F.called_set.init.lookup
   have hbi:=F.called_set.init.bind (.ref s.heap.objs.size)
   repeat (any_goals (first | assumption | wp_step))
   refine codeAny_mono (codeAny_call_builtin (R := wants (fun r s₂ => r = .none /\ ∃ h' tk ks, s₂ = { s with heap := h', toks := tk } /\ ks.Perm (ma xs) /\ sV prog w h' s.heap.objs.size (!ka w) ks /\
       (∀ b o,b < s.heap.objs.size->s.heap.get? b=some o->h'.get? b=some o)) E) F.called_set.init.plain F.entry_set_init (check_set_init_1 hT ?_)) fun r₂ s₂ hr₂=>?_
   . obtain ⟨ol,hol,hcl,nl,hdl⟩:=hl
     obtain ⟨ocls,odict,odata,oslots⟩:=ol
     simp only at hcl hdl
     subst hcl;subst hdl
     have hol':(s.heap.push (l9 w)).get? l=some { cls:=.type "list",dict:=odict,data:=.seq items nl,slots:=oslots }:=Heap.get?_push_of_some _ hol
     have hsls:=F.sub_list_set
     have hslf:=F.sub_list_frozenset
     have hne:(Value.type "list" == Value.type "dict")=false:=by decide
     have hl1:(s.heap.push (l9 w)).IsList l items:=⟨_,hol',rfl,nl,rfl⟩
     unfold Builtin.«set.__init__» noKeywords Builtin.Frozenset.updateFrom
     generalize hPI:pyIter=PI
     wp_walk
     subst hPI
     refine wpAny_pyIter_list hl1 ?_
     refine wpAny_bind (wpAny_runValue ?_)
     have hlS:l < s.heap.objs.size:=Heap.lt_size hol
     have hh3:A.in1.in1.in1.handled=none:=by simp [hh]
     have hneI:l ≠ (s.heap.push (l9 w)).objs.size:=by
      rw [Heap.size_push];exact Nat.ne_of_lt (Nat.lt_succ_of_lt hlS)
     have hSf:s.heap.objs.size ∉ [(s.heap.push (l9 w)).objs.size,l]:=by
      rw [Heap.size_push];simp only [List.mem_cons,List.mem_singleton,List.not_mem_nil,or_false,not_or]
      exact ⟨Nat.ne_of_lt (Nat.lt_succ_self _),Nat.ne_of_gt hlS⟩
     refine Mw ((Walks.list hh3 _ l hneI items).toS) s.heap.objs.size hSf xs hn hi hb (!ka w) (items.size - 0) 0 _ [] (by omega) (Nat.zero_le _)
      ⟨⟨_,Heap.get?_push_size _ rfl,rfl,rfl⟩,(hl1.push _)⟩ (by simp [ma]) (OD (Heap.get?_push_of_some _ hS)) ?hR
     intro s' ks' hm hp' hS'
     obtain ⟨h',g',d',tk',os'⟩:=s'
     have eg:g'=s.gens:=hm.gens
     have ed:d'=s.drawn:=hm.drawn
     have eo:os'=s.os:=hm.os
     subst eg;subst ed;subst eo
     show wpAny _ _ _ _ _ _
     refine wpAny_pure ?_
     show wpAny _ _ (ret Value.none) _ _ _
     refine wpAny_pure ⟨rfl,h',tk',ks',rfl,hp',hS',fun b o hb e=>?_⟩
     have hb1:b ≠ s.heap.objs.size:=Nat.ne_of_lt hb
     have hb2:b ≠ (s.heap.push (l9 w)).objs.size:=by
      rw [Heap.size_push];exact Nat.ne_of_lt (Nat.lt_succ_of_lt hb)
     exact hm.heap b o (by simp only [List.mem_cons,List.mem_singleton,List.not_mem_nil,or_false,not_or];exact ⟨hb1,hb2⟩) (Heap.get?_push_of_some _ (Heap.get?_push_of_some _ e))
   . cases r₂ with
     | error e=>exact hr₂
     | ok fl₂ =>
      cases fl₂ with
      | ret r =>
       obtain ⟨rfl,h',tk,ks,rfl,hp,hS',hk'⟩:=hr₂
       repeat (any_goals (first | assumption | wp_step))
       exact h _ _ _ hp hS' hk'
      | _=>exact hr₂.elim
  | _=>exact hr.elim
end
end
end PySem
end
section
namespace PySem
open Sem (wp)
namespace F
theorem bR:Slot "set_iterator" "__next__" "set_iterator.__next__" :=
 .of (owner := "set_iterator") (n := "__next__") (by rw [typeLookup_type,builtinLookup_eq_fast];kernel_rfl) (by decide +kernel) (by decide +kernel) (by decide +kernel) (by first | exact .inl (by decide +kernel) | exact .inr (by decide +kernel)) (by rw [isSubtype_type];kernel_rfl)
theorem lr:entryFor table "set_iterator.__next__" = some Builtin.«set_iterator.__next__» := entryFor_of_tree (by kernel_rfl)
theorem Ja:Manifest.owners.lookup (String.ofList "rotareti_tes".toList.reverse)=some Manifest.sig_set_iterator:=by kernel_rfl
theorem mF(a:Value):argsOk "set_iterator.__next__" ⟨[a],[]⟩:=by
 unfold argsOk;rw [signature?_of (id := "set_iterator.__next__") (n:=['_','_','t','x','e','n','_','_']) (o := "rotareti_tes".toList) (by kernel_rfl) Ja];kernel_rfl
theorem Ep:entryFor table "set.__iter__" = some Builtin.«frozenset.__iter__» :=
 entryFor_alias (id' := "frozenset.__iter__") (by kernel_rfl) (by first | rfl | decide +kernel | (unfold String.splitOn;simp +decide [String.splitOnAux])) (by decide +kernel) (by kernel_rfl)
end F
abbrev qIt(first:Value)(i:Nat)(a:Addr)(n ep:Nat):Obj:={ cls:=.type "set_iterator",dict:=none,data:=.fields #[first,rawInt i,.ref a,rawInt n,rawInt ep],slots:=#[] }
section
variable {prog:Program} {w:World} {A:Around} {E:Value->Shared->Prop} {s:Shared}
theorem OE {I T a : Addr} {i n ep j : Nat} {o oT : Obj} {es : Array (Int × Value)} {t : SetTable} {places : Array Value} {c : Nat} {v : Value} {hv : Int} {Q : Option Value -> Shared -> Prop}
    (hI:s.heap.get? I=some (qIt (.ref T) i a n ep)) (hT:s.heap.get? T=some oT) (hTd:oT.data = .seq places c) (ho:s.heap.get? a=some o) (hd:o.data = .set es ep t) (hf:t.fits es.size=true) (hn:es.size=n)
    (hp:places[i]? = some (rawInt j)) (he:es[j]? = some (hv,v))
    (hQ:∀ h',h'.get? I=some (qIt (.ref T) (i + 1) a n ep)->Heap.SameBut I s.heap h'->Q (some v) { s with heap:=h' }):wpAny (model prog w) A (pyNext (.ref I)) Q E s:=by
 have hTy:s.TypeIs (.ref I) "set_iterator" := ⟨_,hI,rfl⟩
 unfold pyNext
 refine wpAny_bind (wpAny_attempt (wpAny_callSpecial?_slot (name:=Str.ofString "__next__") hTy F.bR (wpAny_call_entry F.bR hTy F.lr ?_ (F.mF _))))
 show wpAny _ _ (fieldsOf (.ref I) >>= _) _ _ s
 refine wpAny_bind (wpAny_fieldsOf hI rfl ?_)
 show wpAny _ _ (setEntries a >>= _) _ _ s
 refine wpAny_bind (wpAny_setEntries_of ho hd hf ?_)
 rw [if_neg (by rw [hn];simp [rawInt])]
 show wpAny _ _ (seqItems? (.ref T) >>= _) _ _ s
 refine wpAny_bind (wpAny_seqItems hT hTd ?_)
 dsimp only
 simp only [Int.toNat_natCast,hp]
 show wpAny _ _ (setNextDrawn a _ _ >>= _) _ _ s
 unfold setNextDrawn
 refine wpAny_bind (wpAny_bind (wpAny_setState_of ho hd hf ?_))
 dsimp only
 rw [if_neg (by simp)]
 simp only [Int.toNat_natCast,he]
 refine wpAny_pure ?_
 refine wpAny_bind (wpAny_setField_rec hI (by simp) fun h₁ hI₁ hs₁=>?_)
 exact wpAny_pure ⟨v,rfl,wpAny_pure (hQ h₁ hI₁ hs₁)⟩
theorem QY {I T a : Addr} {i n ep : Nat} {o oT : Obj} {es : Array (Int × Value)} {t : SetTable} {places : Array Value} {c : Nat} {Q : Option Value -> Shared -> Prop} (hh : A.handled = none)
    (hI:s.heap.get? I=some (qIt (.ref T) i a n ep)) (hT:s.heap.get? T=some oT) (hTd:oT.data = .seq places c) (ho:s.heap.get? a=some o) (hd:o.data = .set es ep t) (hf:t.fits es.size=true) (hn:es.size=n)
    (hp:places[i]? = none) (hQ:∀ h',Heap.ExtBut I s.heap h'->Q none { s with heap:=h' }):wpAny (model prog w) A (pyNext (.ref I)) Q E s:=by
 have hTy:s.TypeIs (.ref I) "set_iterator" := ⟨_,hI,rfl⟩
 unfold pyNext
 refine wpAny_bind (wpAny_attempt (wpAny_callSpecial?_slot (name:=Str.ofString "__next__") hTy F.bR (wpAny_call_entry F.bR hTy F.lr ?_ (F.mF _))))
 show wpAny _ _ (fieldsOf (.ref I) >>= _) _ _ s
 refine wpAny_bind (wpAny_fieldsOf hI rfl ?_)
 show wpAny _ _ (setEntries a >>= _) _ _ s
 refine wpAny_bind (wpAny_setEntries_of ho hd hf ?_)
 rw [if_neg (by rw [hn];simp [rawInt])]
 show wpAny _ _ (seqItems? (.ref T) >>= _) _ _ s
 refine wpAny_bind (wpAny_seqItems hT hTd ?_)
 dsimp only
 simp only [Int.toNat_natCast,hp]
 refine wpAny_bind (wpAny_setField_rec hI (by simp) fun h₁ hI₁ hs₁=>?_)
 refine wpAny_bind (wpAny_setField_rec hI₁ (by simp) fun h₂ hI₂ hs₂=>?_)
 show wpAny _ _ (newExc (.type "StopIteration") [] >>= _) _ _ _
 refine wpAny_bind ?_
 simp only [newExc,newTuple]
 refine wpAny_bind (wpAny_newObj_type ?_ (by size_fits))
 refine wpAny_bind (m:=firstArgMember _ _) (wpAny_of_eq (a:=Value.none) (by first | rfl | (simp only [firstArgMember];rfl)) ?_)
 refine wpAny_newObj_type ?_ (by size_fits)
 simp only [raiseNew]
 refine wpAny_bind (wpAny_handled ?_)
 first | rw [show A.in1.handled=none from hh] | rw [hh]
 refine wpAny_bind (wpAny_pure (wpAny_throw ?_))
 refine wpAny_bind (wpAny_isInstance (T := "StopIteration") (b:=true) ⟨_,Heap.get?_push_size _ rfl,rfl⟩ isSubtype_stop ?_)
 exact wpAny_pure (hQ _ (((hs₁.trans hs₂).extBut.push _).push _))
theorem Jc {I a : Addr} {sl sl' i n ep : Nat} {o : Obj} {es : Array (Int × Value)} {t : SetTable} {v : Value} {Q : Option Value -> Shared -> Prop}
    (hI:s.heap.get? I=some (qIt (rawInt sl) i a n ep)) (ho:s.heap.get? a=some o) (hd:o.data = .set es ep t) (hf:t.fits es.size=true) (hn:es.size=n)
    (hx:∀ {A:Around} {E:Value->Shared->Prop} {R:Option (Value × Nat)->Shared->Prop},R (some (v,sl')) s->wpAny (model prog w) A (setNext a sl i ep) R E s)
    (hQ:∀ h',h'.get? I=some (qIt (rawInt sl') (i + 1) a n ep)->Heap.SameBut I s.heap h'->Q (some v) { s with heap:=h' }):wpAny (model prog w) A (pyNext (.ref I)) Q E s:=by
 have hTy:s.TypeIs (.ref I) "set_iterator" := ⟨_,hI,rfl⟩
 unfold pyNext
 refine wpAny_bind (wpAny_attempt (wpAny_callSpecial?_slot (name:=Str.ofString "__next__") hTy F.bR (wpAny_call_entry F.bR hTy F.lr ?_ (F.mF _))))
 show wpAny _ _ (fieldsOf (.ref I) >>= _) _ _ s
 refine wpAny_bind (wpAny_fieldsOf hI rfl ?_)
 show wpAny _ _ (setEntries a >>= _) _ _ s
 refine wpAny_bind (wpAny_setEntries_of ho hd hf ?_)
 rw [if_neg (by rw [hn];simp [rawInt])]
 show wpAny _ _ (setNext a ((sl:Int).toNat) ((i:Int).toNat) ((ep:Int).toNat) >>= _) _ _ s
 simp only [Int.toNat_natCast]
 refine wpAny_bind (hx ?_)
 dsimp only
 refine wpAny_bind (wpAny_setField_rec hI (by simp) fun h₁ hI₁ hs₁=>?_)
 refine wpAny_bind (wpAny_setField_rec hI₁ (by simp) fun h₂ hI₂ hs₂=>?_)
 exact wpAny_pure ⟨v,rfl,wpAny_pure (hQ h₂ hI₂ (hs₁.trans hs₂))⟩
theorem Mx {I a : Addr} {sl i n ep : Nat} {o : Obj} {es : Array (Int × Value)} {t : SetTable} {Q : Option Value -> Shared -> Prop} (hh : A.handled = none)
    (hI:s.heap.get? I=some (qIt (rawInt sl) i a n ep)) (ho:s.heap.get? a=some o) (hd:o.data = .set es ep t) (hf:t.fits es.size=true) (hn:es.size=n)
    (hx:∀ {A:Around} {E:Value->Shared->Prop} {R:Option (Value × Nat)->Shared->Prop},R none s->wpAny (model prog w) A (setNext a sl i ep) R E s)
    (hQ:∀ h',Heap.ExtBut I s.heap h'->Q none { s with heap:=h' }):wpAny (model prog w) A (pyNext (.ref I)) Q E s:=by
 have hTy:s.TypeIs (.ref I) "set_iterator" := ⟨_,hI,rfl⟩
 unfold pyNext
 refine wpAny_bind (wpAny_attempt (wpAny_callSpecial?_slot (name:=Str.ofString "__next__") hTy F.bR (wpAny_call_entry F.bR hTy F.lr ?_ (F.mF _))))
 show wpAny _ _ (fieldsOf (.ref I) >>= _) _ _ s
 refine wpAny_bind (wpAny_fieldsOf hI rfl ?_)
 show wpAny _ _ (setEntries a >>= _) _ _ s
 refine wpAny_bind (wpAny_setEntries_of ho hd hf ?_)
 rw [if_neg (by rw [hn];simp [rawInt])]
 show wpAny _ _ (setNext a ((sl:Int).toNat) ((i:Int).toNat) ((ep:Int).toNat) >>= _) _ _ s
 simp only [Int.toNat_natCast]
 refine wpAny_bind (hx ?_)
 dsimp only
 refine wpAny_bind (wpAny_setField_rec hI (by simp) fun h₁ hI₁ hs₁=>?_)
 show wpAny _ _ (newExc (.type "StopIteration") [] >>= _) _ _ _
 refine wpAny_bind ?_
 simp only [newExc,newTuple]
 refine wpAny_bind (wpAny_newObj_type ?_ (by size_fits))
 refine wpAny_bind (m:=firstArgMember _ _) (wpAny_of_eq (a:=Value.none) (by first | rfl | (simp only [firstArgMember];rfl)) ?_)
 refine wpAny_newObj_type ?_ (by size_fits)
 simp only [raiseNew]
 refine wpAny_bind (wpAny_handled ?_)
 first | rw [show A.in1.handled=none from hh] | rw [hh]
 refine wpAny_bind (wpAny_pure (wpAny_throw ?_))
 refine wpAny_bind (wpAny_isInstance (T := "StopIteration") (b:=true) ⟨_,Heap.get?_push_size _ rfl,rfl⟩ isSubtype_stop ?_)
 exact wpAny_pure (hQ _ ((hs₁.extBut.push _).push _))
theorem Au {a : Addr} {sl i ep : Nat} {o : Obj} {es : Array (Int × Value)} {t : SetTable} {R : Option (Value × Nat) -> Shared -> Prop} (hw : ka w = true) (ho : s.heap.get? a = some o) (hd : o.data = .set es ep t) (hf : t.fits es.size = true)
    (h:R (((pickOrder (w.params.setOrder a ep) es)[i]?).map fun e=>(e.2,sl)) s):wpAny (model prog w) A (setNext a sl i ep) R E s:=by
 unfold setNext
 refine wpAny_bind (wpAny_setState_of ho hd hf ?_)
 dsimp only
 unfold setsByText
 refine wpAny_bind (wpAny_bind (wpAny_askSetting (wpAny_pure ?_)))
 refine wpAny_ite_split (fun _=>?_) (fun z=>absurd hw z)
 rw [if_neg (by simp)]
 refine wpAny_bind ?_
 unfold setWalk setsByText
 refine wpAny_bind (wpAny_setState_of ho hd hf ?_)
 dsimp only
 refine wpAny_bind (wpAny_bind (wpAny_askSetting (wpAny_pure ?_)))
 refine wpAny_ite_split (fun _=>?_) (fun z=>absurd hw z)
 refine wpAny_bind (wpAny_askSetting ?_)
 exact wpAny_pure (wpAny_pure h)
theorem xt {a : Addr} {sl i ep : Nat} {o : Obj} {es : Array (Int × Value)} {t : SetTable} {R : Option (Value × Nat) -> Shared -> Prop} (hw : ka w = false) (hl : t.led = true) (hz : es.size <= 1) (ho : s.heap.get? a = some o) (hd : o.data = .set es ep t) (hf : t.fits es.size = true)
    (h:R (match es[SetTable.below t.place sl]?,t.place[SetTable.below t.place sl]? with | some (_,x),some j=>some (x,j + 1) | _,_=>none) s):wpAny (model prog w) A (setNext a sl i ep) R E s:=by
 unfold setNext
 refine wpAny_bind (wpAny_setState_of ho hd hf ?_)
 dsimp only
 unfold setsByText
 refine wpAny_bind (wpAny_bind (wpAny_askSetting (wpAny_pure ?_)))
 have hw':¬ (ka w=true):=by rw [hw];decide
 refine wpAny_ite_split (fun z=>absurd z hw') (fun _=>?_)
 refine wpAny_ite_split (fun z=>?_) (fun _=>?_)
 . change (!t.plain && decide (es.size > 1))=true at z
   rw [Bool.and_eq_true,decide_eq_true_eq] at z
   exact absurd z.2 (by omega)
 . refine wpAny_bind ?_
   show wpAny _ _ (if (!t.led && !es.isEmpty)=true then unsupported "set:maker-not-led" else pure ()) _ _ _
   rw [if_neg (by rw [hl];simp)]
   exact wpAny_pure (wpAny_pure h)
end
end PySem
end
section
namespace PySem
open Sem (wp)
theorem Es{α:Type}:∀ (l:List α) (i:Nat) (x:α),l[i]? = some x->(x :: l.eraseIdx i).Perm l
 | [],_,_,h=>by simp at h
 | a :: l,0,x,h=>by simp at h;subst h;exact List.Perm.refl _
 | a :: l,i + 1,x,h=>by
  have ih:=Es l i x (by simpa using h)
  exact (List.Perm.swap a x _).trans (ih.cons a)
theorem My{α:Type}(next:Nat->Nat):∀ (fuel k:Nat) (left:List α) (out:Array α),left.length=fuel->(pickOrder.go next fuel k left out).toList.Perm (out.toList ++ left)
 | 0,k,left,out,h=>by
  unfold pickOrder.go
  rw [List.length_eq_zero_iff.mp h,List.append_nil]
 | fuel + 1,k,left,out,h=>by
  unfold pickOrder.go
  have hlt:next k % left.length < left.length:=Nat.mod_lt _ (by omega)
  rw [List.getElem?_eq_getElem hlt]
  dsimp only
  refine (My next fuel (k + 1) _ _ (by rw [List.length_eraseIdx_of_lt hlt];omega)).trans ?_
  rw [Array.toList_push,List.append_assoc]
  exact (Es left _ _ (List.getElem?_eq_getElem hlt)).append_left _
theorem rV{α:Type}(next:Nat->Nat)(xs:Array α):(pickOrder next xs).toList.Perm xs.toList:=by
 have:=My next xs.size 0 xs.toList #[] (by simp)
 simpa [pickOrder] using this
section
variable {prog:Program} {w:World} {A:Around} {E:Value->Shared->Prop}
theorem Mz{s:Shared}{src:Source}{n:Nat}{Q:Nat->Shared->Prop}(hn:n ≠ 0)(h:∀ i d,i < n->Q i { s with drawn:=d }):wpAny (model prog w) A (choose src n) Q E s:=fun Γ p hΓ=>by
 show wp _ Γ (.choose src n .pure) _ _ _ _
 rw [Sem.wp_choose]
 exact ⟨hn,h _ _ (Nat.mod_lt _ (Nat.pos_of_ne_zero hn))⟩
theorem MA{α:Type}:∀ (n:Nat) (xs:List α) (s:Shared) (Q:List α->Shared->Prop),xs.length=n->(∀ ys d,ys.Perm xs->Q ys { s with drawn:=d })->wpAny (model prog w) A (drawOrder n xs) Q E s
 | 0,xs,s,Q,hl,h=>by
  have:xs = []:=List.length_eq_zero_iff.mp hl
  subst this
  unfold drawOrder
  exact wpAny_pure (h [] s.drawn (List.Perm.refl _))
 | n + 1,[],s,Q,hl,h=>by simp at hl
 | n + 1,x :: xs,s,Q,hl,h=>by
  unfold drawOrder
  refine wpAny_bind (Mz (by simp) fun i d hi=>?_)
  obtain ⟨y,hy⟩:∃ y,(x :: xs)[i]? = some y:=⟨(x :: xs)[i],List.getElem?_eq_getElem hi⟩
  rw [hy]
  dsimp only
  refine wpAny_bind (MA n _ _ _ (by rw [List.length_eraseIdx_of_lt hi];simp at hl ⊢;omega) fun ys d' hp=>wpAny_pure ?_)
  exact h _ d' ((hp.cons y).trans (Es _ _ _ hy))
end
namespace F
theorem i9:Slot "set_iterator" "__iter__" "set_iterator.__iter__" :=
 .of (owner := "set_iterator") (n := "__iter__") (by rw [typeLookup_type,builtinLookup_eq_fast];kernel_rfl) (by decide +kernel) (by decide +kernel) (by decide +kernel) (by first | exact .inl (by decide +kernel) | exact .inr (by decide +kernel)) (by rw [isSubtype_type];kernel_rfl)
theorem pV:entryFor table "set_iterator.__iter__" = some Builtin.«dict_keyiterator.__iter__» :=
 entryFor_alias (id' := "dict_keyiterator.__iter__") (by kernel_rfl) (by first | rfl | decide +kernel | (unfold String.splitOn;simp +decide [String.splitOnAux])) (by decide +kernel) (by kernel_rfl)
theorem rW(a:Value):argsOk "set_iterator.__iter__" ⟨[a],[]⟩:=by
 unfold argsOk;rw [signature?_of (id := "set_iterator.__iter__") (n:=['_','_','r','e','t','i','_','_']) (o := "rotareti_tes".toList) (by kernel_rfl) Ja];kernel_rfl
end F
def qP(ord:List Str)(i:Nat)(v:Value):Prop:=∃ x t,ord[i]? = some x /\ v = .str x t
theorem QZ{prog:Program}{w:World}{es:List (Int × Value)}(hel:ElemsOf (strKind prog w) es){i:Nat}{e:Int × Value}(h:es[i]? = some e):∃ t,e.2 = .str (nE e) t:=by
 obtain ⟨⟨k,hk,_⟩,_⟩:=hel e (List.mem_of_getElem? h)
 obtain ⟨t,ht⟩:=I0 hk
 rw [HR hk]
 exact ⟨t,ht⟩
theorem OF{l:List Str}{d:Str}:(List.range l.length).map (fun j=>l.getD j d)=l:=by
 apply List.ext_getElem?
 intro i
 rw [List.getElem?_map]
 by_cases hi:i < l.length
 . rw [List.getElem?_range hi,List.getElem?_eq_getElem hi]
   simp [hi]
 . rw [List.getElem?_eq_none (by simpa using hi),List.getElem?_eq_none (by omega)];rfl
theorem MB(p:Nat):SetTable.below #[p] 0=0:=by
 simp [SetTable.below,SetTable.below.go]
theorem MC(p:Nat):SetTable.below #[p] (p + 1)=1:=by
 simp [SetTable.below,SetTable.below.go]
section
variable {prog:Program} {w:World} {A:Around}
theorem OG {I T a : Addr} {n ep : Nat} {o oT : Obj} {es : Array (Int × Value)} {t : SetTable} {c : Nat} (ps : List Nat) (hIT : I ≠ T) (hIa : I ≠ a) (hTd : oT.data = .seq (ps.map fun (i : Nat) => rawInt i).toArray c) (hd : o.data = .set es ep t) (hel : ElemsOf (strKind prog w) es.toList) (hf : t.fits es.size = true) (hn : es.size = n) (hp : ps.Perm (List.range n)) (hh : A.handled = none) :
    Walks prog w A I [I,a,T] [I] n (qP (ps.map fun j=>(es.toList.map nE).getD j "")) (fun i h=>h.get? I=some (qIt (.ref T) i a n ep) /\ h.get? T=some oT /\ h.get? a=some o) where
 sub:=by simp
 frame:=fun i h h' st k=>⟨k I (by simp) _ st.1,k T (by simp) _ st.2.1,k a (by simp) _ st.2.2⟩
 item:=fun i s Q E hi st hQ=>by
  have hlen:ps.length=n:=by rw [hp.length_eq,List.length_range]
  have hi':i < ps.length:=by omega
  obtain ⟨j,hj⟩:∃ j,ps[i]? = some j:=⟨ps[i],List.getElem?_eq_getElem hi'⟩
  have hjn:j < es.size:=by
   rw [hn]
   exact List.mem_range.mp (hp.mem_iff.mp (List.mem_of_getElem? hj))
  have hel':es.toList[j]? = some es[j]:=by simp [hjn]
  obtain ⟨tk,hv⟩:=QZ hel hel'
  refine OE (j:=j) (hv:=es[j].1) (v:=es[j].2) st.1 st.2.1 hTd st.2.2 hd hf hn ?_ (by simp [hjn]) fun h' hI' sb=>?_
  . simp [hj]
  . refine hQ _ h' s.toks ⟨nE es[j],tk,?_,hv⟩ ⟨hI',(sb.2 T hIT.symm).trans st.2.1,(sb.2 a hIa.symm).trans st.2.2⟩ fun b ob hb e=>?_
    . rw [List.getElem?_map,hj]
      simp [hjn]
    . exact (sb.2 b (by simpa using hb)).trans e
 done:=fun s Q E st hQ=>by
  have hlen:ps.length=n:=by rw [hp.length_eq,List.length_range]
  refine QY hh st.1 st.2.1 hTd st.2.2 hd hf hn (by simp [hlen]) fun h' eb=>hQ h' s.toks fun b ob hb e=>eb b ob (by simpa using hb) e
 self:=fun i s Q E st h=>wpAny_pyIter_slot (T := "set_iterator") ⟨_,st.1,rfl⟩ F.i9 (wpAny_call_entry F.i9 ⟨_,st.1,rfl⟩ F.pV (by
  show wpAny _ _ (ret (.ref I)) _ _ s
  exact wpAny_pure ⟨_,rfl, "set_iterator",_,⟨_,st.1,rfl⟩,F.bR.lookup,h⟩) (F.rW _))
theorem OH {I a : Addr} {n ep : Nat} {o : Obj} {es : Array (Int × Value)} {t : SetTable} (hw : ka w = true) (hIa : I ≠ a) (hd : o.data = .set es ep t) (hel : ElemsOf (strKind prog w) es.toList) (hf : t.fits es.size = true) (hn : es.size = n) (hh : A.handled = none) :
    Walks prog w A I [I,a] [I] n (qP ((pickOrder (w.params.setOrder a ep) es).toList.map nE)) (fun i h=>h.get? I=some (qIt (rawInt (0:Nat)) i a n ep) /\ h.get? a=some o) where
 sub:=by simp
 frame:=fun i h h' st k=>⟨k I (by simp) _ st.1,k a (by simp) _ st.2⟩
 item:=fun i s Q E hi st hQ=>by
  have hp:=rV (w.params.setOrder a ep) es
  have hsz:(pickOrder (w.params.setOrder a ep) es).size=n:=by
   have:=hp.length_eq
   simp only [Array.length_toList] at this
   omega
  obtain ⟨e,he⟩:∃ e,(pickOrder (w.params.setOrder a ep) es)[i]? = some e:=⟨_,Array.getElem?_eq_getElem (by omega)⟩
  have he':(pickOrder (w.params.setOrder a ep) es).toList[i]? = some e:=by rw [Array.getElem?_toList];exact he
  obtain ⟨tk,hv⟩:=QZ (hel.perm hp) he'
  refine Jc (v:=e.2) (sl':=0) st.1 st.2 hd hf hn (fun {A E R} hr=>Au hw st.2 hd hf (by rw [he];exact hr)) fun h' hI' sb=>?_
  refine hQ _ h' s.toks ⟨nE e,tk,by rw [List.getElem?_map,he'];rfl,hv⟩ ⟨hI',(sb.2 a hIa.symm).trans st.2⟩ fun b ob hb e=>(sb.2 b (by simpa using hb)).trans e
 done:=fun s Q E st hQ=>by
  have hp:=rV (w.params.setOrder a ep) es
  have hsz:(pickOrder (w.params.setOrder a ep) es).size=n:=by
   have:=hp.length_eq
   simp only [Array.length_toList] at this
   omega
  refine Mx hh st.1 st.2 hd hf hn (fun {A E R} hr=>Au hw st.2 hd hf (by rw [Array.getElem?_eq_none (by omega)];exact hr)) fun h' eb=>hQ h' s.toks fun b ob hb e=>eb b ob (by simpa using hb) e
 self:=fun i s Q E st h=>wpAny_pyIter_slot (T := "set_iterator") ⟨_,st.1,rfl⟩ F.i9 (wpAny_call_entry F.i9 ⟨_,st.1,rfl⟩ F.pV (by
  show wpAny _ _ (ret (.ref I)) _ _ s
  exact wpAny_pure ⟨_,rfl, "set_iterator",_,⟨_,st.1,rfl⟩,F.bR.lookup,h⟩) (F.rW _))
theorem OI {I a : Addr} {n ep : Nat} {o : Obj} {es : Array (Int × Value)} {t : SetTable} (hw : ka w = false) (hl : t.led = true) (hz : es.size <= 1) (hIa : I ≠ a) (hd : o.data = .set es ep t) (hel : ElemsOf (strKind prog w) es.toList) (hf : t.fits es.size = true) (hn : es.size = n) (hh : A.handled = none) :
    Walks prog w A I [I,a] [I] n (qP (es.toList.map nE)) (fun i h=>∃ sl:Nat,h.get? I=some (qIt (rawInt sl) i a n ep) /\ (i=0->sl=0) /\ (0 < i->∃ p,t.place = #[p] /\ sl=p + 1) /\ h.get? a=some o) where
 sub:=by simp
 frame:=fun i h h' ⟨sl,h1,h2,h3,h4⟩ k=>⟨sl,k I (by simp) _ h1,h2,h3,k a (by simp) _ h4⟩
 item:=fun i s Q E hi ⟨sl,h1,h2,h3,h4⟩ hQ=>by
  have hpl:t.place.size=es.size:=by
   simp only [SetTable.fits,Bool.and_eq_true,beq_iff_eq] at hf
   exact hf.1
  have h0:i=0:=by omega
  subst h0
  have hs:=h2 rfl
  subst hs
  obtain ⟨p,hp⟩:∃ p,t.place = #[p]:=Array.size_eq_one_iff.mp (by omega)
  obtain ⟨e,he⟩:∃ e,es[0]? = some e:=⟨es[0],Array.getElem?_eq_getElem (by omega)⟩
  have he':es.toList[0]? = some e:=by rw [Array.getElem?_toList];exact he
  obtain ⟨tk,hv⟩:=QZ hel he'
  refine Jc (v:=e.2) (sl':=p + 1) h1 h4 hd hf hn (fun {A E R} hr=>xt hw hl hz h4 hd hf (by rw [hp,MB,he];exact hr)) fun h' hI' sb=>?_
  exact hQ _ h' s.toks ⟨nE e,tk,by rw [List.getElem?_map,he'];rfl,hv⟩ ⟨p + 1,hI',fun z=>absurd z (by simp),fun _=>⟨p,hp,rfl⟩,(sb.2 a hIa.symm).trans h4⟩ fun b ob hb e=>(sb.2 b (by simpa using hb)).trans e
 done:=fun s Q E ⟨sl,h1,h2,h3,h4⟩ hQ=>by
  have hpl:t.place.size=es.size:=by
   simp only [SetTable.fits,Bool.and_eq_true,beq_iff_eq] at hf
   exact hf.1
  refine Mx hh h1 h4 hd hf hn (fun {A E R} hr=>xt hw hl hz h4 hd hf ?_) fun h' eb=>hQ h' s.toks fun b ob hb e=>eb b ob (by simpa using hb) e
  by_cases h0:n=0
  . have e1:es = #[]:=Array.size_eq_zero_iff.mp (by omega)
    rw [e1]
    simpa using hr
  . obtain ⟨p,hp,rfl⟩:=h3 (by omega)
    rw [hp,MC,Array.getElem?_eq_none (by omega)]
    exact hr
 self:=fun i s Q E ⟨sl,h1,h2,h3,h4⟩ h=>wpAny_pyIter_slot (T := "set_iterator") ⟨_,h1,rfl⟩ F.i9 (wpAny_call_entry F.i9 ⟨_,h1,rfl⟩ F.pV (by
  show wpAny _ _ (ret (.ref I)) _ _ s
  exact wpAny_pure ⟨_,rfl, "set_iterator",_,⟨_,h1,rfl⟩,F.bR.lookup,h⟩) (F.rW _))
end
end PySem
end
section
namespace PySem
open Sem (wp)
section
section
variable {prog:Program} {w:World} {A:Around} {E:Value->Shared->Prop} {s:Shared}
theorem Q0 {a : Addr} {ks : List Str} {Q : Value -> Shared -> Prop} (hS : sV prog w s.heap a (!ka w) ks)
    (h:∀ (h':Heap) (d:Drawn) (I:Addr) (fp:List Addr) (ord:List Str) (St:Nat->Heap->Prop),ord.Perm ks->(∀ b o,s.heap.get? b=some o->h'.get? b=some o)->s.heap.objs.size <= I->(∀ b ∈ fp,b < h'.objs.size /\ (b=a \/ s.heap.objs.size <= b)) ->
     (∀ A':Around,A'.handled=none->Walks prog w A' I fp [I] ks.length (qP ord) St)->St 0 h'->Q (.ref I) { s with heap:=h',drawn:=d }):wpAny (model prog w) A (pyIter (.ref a)) Q E s:=by
 obtain ⟨o,es,ep,t,ho,hex,hd,hel,hb,hf,hks,hnd,hled,hpl⟩:=id hS
 have hT:s.TypeIs (.ref a) "set" := ⟨o,ho,hex.1⟩
 have hlen:es.size=ks.length:=by rw [<- hks,List.length_map,Array.length_toList]
 have hal:a < s.heap.objs.size:=Heap.lt_size ho
 refine wpAny_pyIter_slot hT F.slot_set_iter (wpAny_call_entry F.slot_set_iter hT F.Ep ?_ (F.args_set_iter_1 _))
 show wpAny _ _ (Builtin.Frozenset.sizeOf a >>= _) _ _ s
 unfold Builtin.Frozenset.sizeOf
 refine wpAny_bind (wpAny_bind (wpAny_setEntries_of ho hd hf (wpAny_pure ?_)))
 refine wpAny_bind ?_
 unfold setDrawn setsByText
 refine wpAny_bind (wpAny_setState_of ho hd hf ?_)
 dsimp only
 refine wpAny_bind (wpAny_bind (wpAny_askSetting (wpAny_pure (wpAny_pure ?_))))
 refine wpAny_ite_split (fun z=>?_) (fun z=>?_)
 . refine wpAny_bind (MA es.size (List.range es.size) _ _ (by simp) fun ps d hp=>?_)
   refine wpAny_bind (wpAny_newTuple ?_ (by rw [List.length_map,hp.length_eq,List.length_range];exact fits_of_scanBound hb))
   have ho1:(s.heap.push { cls:=.type "tuple",data:=.seq (ps.map fun (i:Nat)=>rawInt i).toArray }).get? a=some o:=Heap.get?_push_of_some _ ho
   refine wpAny_bind (wpAny_setEpoch_of (s:={ s with heap:=s.heap.push { cls:=.type "tuple",data:=.seq (ps.map fun (i:Nat)=>rawInt i).toArray },drawn:=d }) ho1 hd hf ?_)
   refine wpAny_bind ?_
   simp only [newFields]
   refine wpAny_newObj_type ?_ (by size_fits)
   have hsz:(s.heap.push { cls:=.type "tuple",data:=.seq (ps.map fun (i:Nat)=>rawInt i).toArray }).objs.size=s.heap.objs.size + 1:=Heap.size_push ..
   have hTt:(s.heap.push { cls:=.type "tuple",data:=.seq (ps.map fun (i:Nat)=>rawInt i).toArray }).get? s.heap.objs.size=some { cls:=.type "tuple",data:=.seq (ps.map fun (i:Nat)=>rawInt i).toArray }:=Heap.get?_push_size _ rfl
   rw [hlen] at hp
   refine wpAny_pure ⟨_,rfl, "set_iterator",_,⟨_,Heap.get?_push_size _ rfl,rfl⟩,F.bR.lookup,?_⟩
   have hI:=Heap.get?_push_size (s.heap.push { cls:=.type "tuple",data:=.seq (ps.map fun (i:Nat)=>rawInt i).toArray }) (o:=qIt (.ref s.heap.objs.size) 0 a es.size ep) rfl
   rw [hsz,hlen] at hI
   rw [hsz,hlen]
   refine h _ d _ [s.heap.objs.size + 1,a,s.heap.objs.size] (ps.map fun j=>(es.toList.map nE).getD j "") (fun i h=>h.get? (s.heap.objs.size + 1)=some (qIt (.ref s.heap.objs.size) i a ks.length ep) /\ h.get? s.heap.objs.size=some { cls:=.type "tuple",data:=.seq (ps.map fun (i:Nat)=>rawInt i).toArray } /\ h.get? a=some o)
    ?_ (fun b ob e=>Heap.get?_push_of_some _ (Heap.get?_push_of_some _ e)) (Nat.le_succ _) (fun b hb'=>?_) (fun A' hh'=>?_) ⟨hI,Heap.get?_push_of_some _ hTt,Heap.get?_push_of_some _ ho1⟩
   . have:=hp.map fun j=>(es.toList.map nE).getD j ""
     rw [hks] at this ⊢
     rw [OF] at this
     exact this
   . rw [Heap.size_push,hsz]
     simp only [List.mem_cons,List.not_mem_nil,or_false] at hb'
     rcases hb' with rfl | rfl | rfl
     . exact ⟨Nat.lt_succ_self _,.inr (Nat.le_succ _)⟩
     . exact ⟨Nat.lt_succ_of_lt (Nat.lt_succ_of_lt hal),.inl rfl⟩
     . exact ⟨Nat.lt_succ_of_lt (Nat.lt_succ_self _),.inr (Nat.le_refl _)⟩
   . exact OG (T:=s.heap.objs.size) (oT:={ cls:=.type "tuple",data:=.seq (ps.map fun (i:Nat)=>rawInt i).toArray }) (o:=o) ps (Nat.ne_of_gt (Nat.lt_succ_self _)) (Nat.ne_of_gt (Nat.lt_succ_of_lt hal)) rfl hd hel hf hlen hp hh'
 . refine wpAny_bind (wpAny_pure ?_)
   refine wpAny_bind (wpAny_setEpoch_of ho hd hf ?_)
   refine wpAny_bind ?_
   simp only [newFields]
   refine wpAny_newObj_type ?_ (by size_fits)
   refine wpAny_pure ⟨_,rfl, "set_iterator",_,⟨_,Heap.get?_push_size _ rfl,rfl⟩,F.bR.lookup,?_⟩
   have hI:=Heap.get?_push_size s.heap (o:=qIt (rawInt (0:Nat)) 0 a es.size ep) rfl
   rw [hlen] at hI
   rw [hlen]
   have hfp:∀ b ∈ [s.heap.objs.size,a],b < (s.heap.push (qIt (rawInt (0:Nat)) 0 a ks.length ep)).objs.size /\ (b=a \/ s.heap.objs.size <= b):=fun b hb'=>by
    rw [Heap.size_push]
    simp only [List.mem_cons,List.not_mem_nil,or_false] at hb'
    rcases hb' with rfl | rfl
    . exact ⟨Nat.lt_succ_self _,.inr (Nat.le_refl _)⟩
    . exact ⟨Nat.lt_succ_of_lt hal,.inl rfl⟩
   by_cases hw:ka w=true
   . refine h (s.heap.push (qIt (rawInt (0:Nat)) 0 a ks.length ep)) s.drawn s.heap.objs.size [s.heap.objs.size,a] ((pickOrder (w.params.setOrder a ep) es).toList.map nE) (fun i h=>h.get? s.heap.objs.size=some (qIt (rawInt (0:Nat)) i a ks.length ep) /\ h.get? a=some o)
      ?_ (fun b ob e=>Heap.get?_push_of_some _ e) (Nat.le_refl _) hfp (fun A' hh'=>OH hw (Nat.ne_of_gt hal) hd hel hf hlen hh') ⟨hI,Heap.get?_push_of_some _ ho⟩
     have:=(rV (w.params.setOrder a ep) es).map nE
     rw [hks] at this
     exact this
   . have hw':ka w=false:=by simpa using hw
     have hz:es.size <= 1:=by
      rcases hpl with e | e
      . rw [hlen,e];simp
      . have z':¬ (!ka w && (!t.plain && decide (es.size > 1)))=true:=z
        rw [hw',e] at z'
        simpa using z'
     refine h (s.heap.push (qIt (rawInt (0:Nat)) 0 a ks.length ep)) s.drawn s.heap.objs.size [s.heap.objs.size,a] (es.toList.map nE) (fun i h=>∃ sl:Nat,h.get? s.heap.objs.size=some (qIt (rawInt sl) i a ks.length ep) /\ (i=0->sl=0) /\ (0 < i->∃ p,t.place = #[p] /\ sl=p + 1) /\ h.get? a=some o)
      (by rw [hks]) (fun b ob e=>Heap.get?_push_of_some _ e) (Nat.le_refl _) hfp (fun A' hh'=>OI hw' (by rw [hled,hw'];rfl) hz (Nat.ne_of_gt hal) hd hel hf hlen hh') ⟨0,hI,fun _=>rfl,fun z=>absurd z (by omega),Heap.get?_push_of_some _ ho⟩
end
end
end PySem
end
section
namespace PySem
open Sem (wp)
open PySem.W PySem.Calls PyProof.Rows PySem.Spec
section
section
variable {prog:Program} {w:World} {A:Around} {E:Value->Shared->Prop} {s:Shared}
theorem Pc:sizeLine=16777216:=by decide
theorem Q2{r:Addr}{Q:Bool->Shared->Prop} (hT:s.TypeIs (.ref r) "set") (h:Q false s):wpAny (model prog w) A (Builtin.List.listLengthHint (.ref r)) Q E s:=by
 unfold Builtin.List.listLengthHint
 refine wpAny_bind (wpAny_specialOf hT PySem.F.slot_set_len.lookup ?_)
 generalize hid:("set.__len__" : String)=id0
 wp_delta
 rw [show splitId id0=some ("set", "__len__") from by subst hid;decide +kernel]
 subst hid
 refine wpAny_bind (wpAny_isInstance (T := "set") (b:=true) hT (by rw [isSubtype_type];kernel_rfl) ?_)
 refine wpAny_ite_split (fun z=>absurd z (by decide)) (fun _=>wpAny_ite_split (fun _=>?_) (fun z=>absurd (by decide +kernel) z))
 exact wpAny_bind (wpAny_typeOf hT (wpAny_pure h))
theorem Gv{a:Addr}{b:Bool}{ks:List Str}(hS:sV prog w s.heap a b ks):s.TypeIs (.ref a) "set" := by
 obtain ⟨o,es,ep,t,ho,hex,_⟩:=hS
 exact ⟨o,ho,hex.1⟩
theorem MD {R : Result -> Shared -> Prop} {a S : Addr} {ks : List Str} {res : Value} {c₀ : Nat} (hh : A.handled = none) (hQ : sV prog w s.heap a (!ka w) ks) (hSa : S ≠ a) (hS : s.heap.get? S = some { cls := .type "list", data := .seq #[] c₀ }) (hn : ks.length <= sizeLine)
    (hR:∀ h' tk d acc c' ord,ord.Perm ks->(∀ b o,b ≠ S->s.heap.get? b=some o->h'.get? b=some o)->h'.get? S=some { cls:=.type "list",dict:=none,data:=.seq acc c',slots:=#[] }->ItemsOf (qP ord) acc ks.length->R (.ok (.ret res)) { s with heap:=h',drawn:=d,toks:=tk }) :
    wpAny (model prog w) A.in1 (Builtin.List.listExtendWith (.ref S) (.ref a) res)
     (fun fin s'=>match fin with | .done f=>R (.ok f) s' | .again c'=>c'.quiet=true /\ codeAny (model prog w) A c' R s') (fun e s'=>R (.error e) s') s:=by
 unfold Builtin.List.listExtendWith
 refine wpAny_bind (wpAny_typeOf (T := "set") (Gv hQ) ?_)
 have h1:Builtin.List.listSameRef (.ref S) (.ref a)=false:=by simp [Builtin.List.listSameRef,hSa]
 have h2:(Value.type "set" == Value.type "list")=false:=by decide
 have h3:(Value.type "set" == Value.type "tuple")=false:=by decide
 simp only [h1,h2,h3,Bool.or_false,Bool.false_eq_true,if_false]
 refine wpAny_bind (Q0 hQ fun h' d I fp ord St hp hk hI hfp W st=>?_)
 have hS1:=hk S _ hS
 have hSf:S ∉ fp:=fun z=>by
  rcases (hfp S z).2 with e | e
  . exact hSa e
  . exact absurd (Heap.lt_size hS) (Nat.not_lt.mpr e)
 have key : ∀ (h2 : Heap) (c₁ tk : Nat), St 0 h2 -> (∀ b o, b ≠ S -> s.heap.get? b = some o -> h2.get? b = some o) -> h2.get? S = some { cls := .type "list", data := .seq #[] c₁ } ->
     codeAny (model prog w) A (.builtin "list.extend.loop" ⟨[.ref S,.ref I,res],[]⟩) R { s with heap:=h2,drawn:=d,toks:=tk }:=fun h2 c₁ tk st2 k2 g2=>by
  refine codeAny_extend_loopS (W A.in1 hh).toS hn S hSf res ks.length 0 _ #[] c₁ rfl (Nat.zero_le _) st2 g2 (ItemsOf.nil _) fun s' acc' c' hm hS' hacc=>?_
  have e1:=Moved.eq_with hm
  rw [e1]
  refine hR s'.heap s'.toks d acc' c' ord hp (fun b o hb e=>hm.heap b o (fun z=>?_) (k2 b o hb e)) hS' hacc
  rcases List.mem_cons.mp z with e' | z
  . exact hb e'
  . exact absurd (Heap.lt_size e) (by rw [List.mem_singleton.mp z];exact Nat.not_lt.mpr hI)
 refine wpAny_bind (wpAny_holding (Q2 (Gv (hQ.keeps fun o e=>hk a o e)) ?_))
 refine wpAny_ite_split (fun _=>?_) (fun _=>wpAny_pure ⟨plainId_quiet PySem.F.plain_extend_loop _,key _ c₀ _ st (fun b o _ e=>hk b o e) hS1⟩)
 refine wpAny_bind (wpAny_rule (wpAny_bind ?_))
 show wpAny _ _ (updateSeq S (·.push .none) >>= fun _=>updateSeq S (·.pop)) _ _ _
 refine wpAny_bind (wpAny_updateSeq hS1 rfl ?_)
 have hS2:=Heap.get?_update_self (Obj.mapSeq (·.push Value.none)) hS1 rfl
 refine wpAny_updateSeq (hz:=by seq_fits) hS2 rfl ?_
 have hS3:=Heap.get?_update_self (Obj.mapSeq (·.pop)) hS2 rfl
 have oth:∀ b o,b ≠ S->h'.get? b=some o->((h'.update S (Obj.mapSeq (·.push Value.none))).update S (Obj.mapSeq (·.pop))).get? b=some o:=fun b o hb e =>
  (Heap.get?_update_other _ _ (Ne.symm hb)).trans ((Heap.get?_update_other _ _ (Ne.symm hb)).trans e)
 exact wpAny_pure ⟨plainId_quiet PySem.F.plain_extend_loop _,key _ _ _ ((W A.in1 hh).frame 0 _ _ st fun b hb o e=>oth b o (fun z=>hSf (z ▸ hb)) e) (fun b o hb e=>oth b o hb (hk b o e)) hS3⟩
theorem Kk {R : List Value -> Shared -> Prop} {a : Addr} {ks : List Str} (hh : A.handled = none) (hQ : sV prog w s.heap a (!ka w) ks) (hn : ks.length <= sizeLine)
    (h:∀ h' tk d acc ord,ord.Perm ks->s.heap.objs.size < h'.objs.size->(∀ b o,s.heap.get? b=some o->h'.get? b=some o)->ItemsOf (qP ord) acc ks.length->R acc.toList { s with heap:=h',drawn:=d,toks:=tk }) :
    wpAny (model prog w) A (collect (.ref a)) R E s:=by
 have hal:a < s.heap.objs.size:=by obtain ⟨o,es,ep,t,ho,_⟩:=hQ;exact Heap.lt_size ho
 unfold collect
 refine wpAny_bind (wpAny_runValue (codeAny_builtin entry_proto_collect' ?_))
 rw [Around.under_plainId PySem.F.plain_proto_collect _]
 show wpAny _ A.in1 (newList [] >>= fun l=>again (.builtin "list.__iadd__" ⟨[l,.ref a],[]⟩)) _ _ s
 refine wpAny_bind (wpAny_newObj_type (wpAny_pure ⟨plainId_quiet PySem.F.plain_list_iadd _,codeAny_builtin entry_list_iadd' ?_⟩))
 rw [Around.under_plainId PySem.F.plain_list_iadd _]
 have hS1:(s.heap.push { cls:=.type "list",data:=.seq ([]:List Value).toArray }).get? s.heap.objs.size=some { cls:=.type "list",data:=.seq #[] }:=Heap.get?_push_size _ rfl
 show wpAny _ A.in1 (Builtin.List.listExtendWith (.ref s.heap.objs.size) (.ref a) (.ref s.heap.objs.size)) _ _ _
 have key:=MD (A:=A) (s:={ s with heap:=s.heap.push { cls:=.type "list",data:=.seq ([]:List Value).toArray } }) (res:=.ref s.heap.objs.size) (c₀:=0)
  (R:=fun (q:Result) (s':Shared)=>∃ (h':Heap) (tk:Nat) (d:Drawn) (acc:Array Value) (c':Nat) (ord:List Str),q = .ok (.ret (.ref s.heap.objs.size)) /\ s'={ s with heap:=h',drawn:=d,toks:=tk } /\ ord.Perm ks /\
   (∀ b o,s.heap.get? b=some o->h'.get? b=some o) /\ h'.get? s.heap.objs.size=some { cls:=.type "list",dict:=none,data:=.seq acc c',slots:=#[] } /\ ItemsOf (qP ord) acc ks.length)
  hh (hQ.keeps fun o e=>Heap.get?_push_of_some _ e) (Nat.ne_of_gt hal) hS1 hn
  (fun h' tk d acc c' ord hp hk g hacc=>⟨h',tk,d,acc,c',ord,rfl,rfl,hp,fun b o e=>hk b o (Nat.ne_of_lt (Heap.lt_size e)) (Heap.get?_push_of_some _ e),g,hacc⟩)
 refine wpAny_mono key (fun f s' x=>?_) fun e s' x=>?_
 . cases f with
   | done f =>
    obtain ⟨h',tk,d,acc,c',ord,e,rfl,hp,hk,g,hacc⟩:=x
    cases e
    show wpAny _ A (load s.heap.objs.size >>= _) _ _ _
    exact wpAny_bind (wpAny_load g (wpAny_pure (h h' tk d acc ord hp (Heap.lt_size g) hk hacc)))
   | again c1 =>
    refine ⟨x.1,codeAny_mono x.2 fun q s2 y=>?_⟩
    obtain ⟨h',tk,d,acc,c',ord,rfl,rfl,hp,hk,g,hacc⟩:=y
    show wpAny _ A (load s.heap.objs.size >>= _) _ _ _
    exact wpAny_bind (wpAny_load g (wpAny_pure (h h' tk d acc ord hp (Heap.lt_size g) hk hacc)))
 . obtain ⟨_,_,_,_,_,_,e',_⟩:=x
   cases e'
theorem OJ{ord:List Str}{acc:Array Value}(h:ItemsOf (qP ord) acc ord.length):StrsAre acc.toList ord:=by
 have gen:∀ (l:List Value) (o:List Str),l.length=o.length->(∀ (i:Nat) (v:Value),l[i]? = some v->∃ x t,o[i]? = some x /\ v = .str x t)->StrsAre l o:=by
  intro l
  induction l with
  | nil =>
   intro o e _
   cases o with
   | nil=>exact .nil
   | cons _ _=>cases e
  | cons v l ih =>
   intro o e hi
   cases o with
   | nil=>cases e
   | cons x o =>
    obtain ⟨y,t,e1,rfl⟩:=hi 0 v rfl
    cases e1
    exact .cons _ t (ih o (by simpa using e) fun i u hu=>hi (i + 1) u hu)
 exact gen _ _ (by rw [Array.length_toList];exact h.1) fun i v e=>h.2 i v (by rw [<- Array.getElem?_toList];exact e)
theorem ME {a : Addr} {ks : List Str} {Q : Value -> Shared -> Prop} (hh : A.handled = none) (hQ : sV prog w s.heap a (!ka w) ks) (hn : ks.length < 64)
    (h:∀ (h':Heap) (tk:Nat) (d:Drawn) (D:Addr) (vs:List Value) (c:Nat) (ys:List Str),s.heap.objs.size <= D->(∀ b o,s.heap.get? b=some o->h'.get? b=some o)->StrsAre vs ys->ys.Perm ks->sortedS ys=true->h'.get? D=some (seqObj "list" vs.toArray c)->Q (.ref D) { s with heap:=h',drawn:=d,toks:=tk }) :
    wpAny (model prog w) A (call (.builtin "sorted") [.ref a]) Q E s:=by
 refine Calls.call_function_entry kind_sorted plain_sorted entry_sorted (args_sorted1 _) ?_
 unfold Builtin.«sorted»
 refine wpAny_bind (m:=checkCount "sorted" 1 1 _) (wpAny_pure (wpAny_bind (Kk (A:=A.in1) hh hQ (by rw [Pc];omega) fun h' tk d acc ord hp hsz hk hacc=>?_)))
 have hS:StrsAre acc.toList ord:=OJ (by rw [hp.length_eq];exact hacc)
 have hl:acc.toList.length=ks.length:=by rw [Array.length_toList];exact hacc.1
 refine wpAny_bind (wpAny_newList ?_ (by rw [hl,Pc];omega))
 have hoL:(h'.push (seqObj "list" acc.toList.toArray 0)).get? h'.objs.size=some (seqObj "list" acc.toList.toArray 0):=Heap.get?_push_size _ rfl
 refine wpAny_bind (wpAny_holding (wpAny_call_entry slot_list_sort ⟨_,hoL,rfl⟩ entry_list_sort (list_sort_treeK strKind_oneLt hoL hS.keysOf (fun v₁ v₂ rest e=>keyKind_strs (by rw [<- e];exact hS)) (by rw [hl];exact hn) fun st' a1 a2=>⟨_,rfl,?_⟩) (args_list_sort _)))
 obtain ⟨ys,b1,b2,b3⟩:=sorted_out_str hS a1 a2
 obtain ⟨c,hc⟩:=PyProof.Rows.sortedHeap_at (vs:=acc.toList) (out:=(arrOf st').map (·.2)) hoL
 refine wpAny_pure ⟨_,rfl,h _ tk d h'.objs.size ((arrOf st').map (·.2)).toList c ys (Nat.le_of_lt hsz) (fun b o e=>?_) b1 (b2.trans hp) b3 (by rw [Array.toArray_toList];exact hc)⟩
 have hb:=hk b o e
 rw [PyProof.Rows.sortedHeap_old (Nat.ne_of_lt (Heap.lt_size hb)) (Nat.lt_of_lt_of_le (Heap.lt_size hb) (by rw [Heap.size_push];exact Nat.le_succ _))]
 exact Heap.get?_push_of_some _ hb
end
end
end PySem
end
section
namespace PySem
open Sem (wp)
section
structure Nx (prog:Program) (w:World) (it:Addr) (fp:List Addr) (xs:Array Value) (S:Nat->Heap->Prop):Prop where
 frame:∀ i h h',S i h->(∀ b ∈ fp,∀ o,h.get? b=some o->h'.get? b=some o)->S i h'
 live:∀ i h,S i h->∃ o,h.get? it=some o
 item:∀ (A:Around) (i:Nat) (s:Shared) (Q:Value->Shared->Prop) (E:Value->Shared->Prop) (x:Value),xs[i]? = some x->S i s.heap->(∀ h',S (i + 1) h'->Heap.SameBut it s.heap h'->Q x { s with heap:=h' }) ->
  wpAny (model prog w) A (Builtin.SmallTypes.nextOf (.ref it)) Q E s
 done:∀ (A:Around) (i:Nat) (s:Shared) (Q:Value->Shared->Prop) (E:Value->Shared->Prop),A.handled=none->xs[i]? = none->S i s.heap ->
  (∀ h' e,Heap.ExtBut it s.heap h'->(∃ o,h'.get? e=some o /\ o.cls = .type "StopIteration")->E (.ref e) { s with heap:=h' })->wpAny (model prog w) A (Builtin.SmallTypes.nextOf (.ref it)) Q E s
structure ZA (z TI TO i1 i2:Addr) (f1 f2:List Addr):Prop where
 TIz:TI ≠ z
 TOz:TO ≠ z
 TT:TI ≠ TO
 m1:i1 ∈ f1
 m2:i2 ∈ f2
 z1:z ∉ f1
 z2:z ∉ f2
 o1:TO ∉ f1
 o2:TO ∉ f2
 t1:TI ≠ i1
 t2:TI ≠ i2
 a1:i1 ∉ f2
 a2:i2 ∉ f1
section
variable {prog:Program} {w:World} {A:Around} {E:Value->Shared->Prop} {s:Shared}
variable {z TI TO i1 i2:Addr} {f1 f2:List Addr} {xs ys:Array Value} {S1 S2:Nat->Heap->Prop} {k:Nat}
end
def SqB:Bool->Heap->Addr->Array Value->Prop
 | true,h,a,xs=>h.IsTuple a xs
 | false,h,a,xs=>h.IsList a xs
theorem SqB.push{h:Heap}{a:Addr}{xs:Array Value}(o:Obj):∀ {b:Bool},SqB b h a xs->SqB b (h.push o) a xs
 | true,q=>q.at fun _ e=>Heap.get?_push_of_some _ e
 | false,q=>Heap.IsList.push q _
section
variable {prog:Program} {w:World} {A:Around} {E:Value->Shared->Prop} {s:Shared}
end
end
end PySem
end
section
namespace L2.Q3
open PySem PySem.Spec PyProof.Rows
section
def SqV(K:PySem.W.Frag):Bool->Hp->Addr->List V->Prop
 | true,H,a,xs=>SqT K H a xs
 | false,H,a,xs=>SqL K H a xs
theorem SqV.its{X:Cx}{pins:List (Addr × Obj)}{σ:St}{H:Hp}{s:Shared}{a:Addr}{xs:List V}(I:Inv X pins σ H s):∀ {t:Bool},SqV X.K t H a xs->∃ its:List Value,Vals xs its /\ SqB t s.heap a its.toArray /\ a < s.heap.objs.size
 | true,h=>by
  obtain ⟨its,r,p,_⟩:=I.tuple h
  exact ⟨its,r,p,by obtain ⟨o,ho,_⟩:=p;exact Heap.lt_size ho⟩
 | false,h=>by
  obtain ⟨its,r,p,_⟩:=I.list h
  exact ⟨its,r,p.isList,p.lt⟩
theorem nm2{x a b:Nat}(h1:x ≠ a)(h2:x ≠ b):x ∉ ([a,b]:List Addr):=fun h=>by
 rcases List.mem_cons.mp h with h | h
 . exact h1 h
 . exact h2 (List.mem_singleton.mp h)
section
variable {X:Cx}
def SW(xs ys:List D):List D:=(xs.zip ys).map fun p=>.tuple [p.1,p.2]
def Pe(fa fb:Fe):Fi:=fun ρ=>(aa fa (aa fb aj) ρ).bind fun p=>(bw p.2 p.1).bind fun z=>match z.1 with
 | [x,y]=>(itemsOf x).bind fun xs=>(itemsOf y).bind fun ys=>some (SW xs ys,z.2)
 | _=>none
end
end
section
def pL:List D->Option W
 | [.int n]=>if n <= 16777216 /\ -16777216 <= n then some (.fr ((List.range n.toNat).map fun k=>.int ((k:Nat):Int))) else none
 | _=>none
section
variable {X:Cx}
theorem Em:∀ {n:Nat} {acc:Array Value},ItemsOf (fun i v=>∃ t,v=Value.int (0 + (i:Int) * 1) t) acc n->Vals ((List.range n).map fun k=>V.int ((k:Nat):Int)) acc.toList:=by
 intro n acc h
 obtain ⟨hl,hi⟩:=h
 have:∀ (m:Nat),m <= n->Vals ((List.range m).map fun k=>V.int ((k:Nat):Int)) (acc.toList.take m):=by
  intro m
  induction m with
  | zero=>intro _;simp;exact .nil
  | succ m ih =>
   intro hm
   have h1:=ih (by omega)
   have hv:acc[m]? = some acc[m]:=Array.getElem?_eq_getElem (by omega)
   obtain ⟨t,ht⟩:=hi m _ hv
   rw [ht] at hv
   have e2:acc.toList[m]? = some (Value.int (0 + (m:Int) * 1) t):=by rw [Array.getElem?_toList];exact hv
   rw [List.range_succ,List.map_append,List.take_succ,e2]
   have e3:Vals (List.map (fun k=>V.int ((k:Nat):Int)) [m]) (some (Value.int (0 + (m:Int) * 1) t)).toList:=.cons ⟨t,by simp⟩ .nil
   exact h1.append e3
 have:=this n (Nat.le_refl _)
 rwa [List.take_of_length_le (by rw [Array.length_toList];omega)] at this
theorem IZ{K:PySem.W.Frag}{Fz:Addr->Prop}{H:Hp}:∀ (ks:List Int),aD K Fz H (ks.map V.int) (ks.map PyData.int)
 | []=>.nil
 | k :: ks=>.cons (.int k) (IZ ks)
theorem En {a : Expr} {fa : Fa} {p p2 pos pos2 : Pos} (hc : X.calm = true) (hg : Gl X "list") (hm : X.mg "list" = none) (hg2 : Gl X "range") (hm2 : X.mg "range" = none) (ha : DA X [a] fa)
    (hs2:starEach [a] X.env = [(false,eval a X.env)]:=by rfl) (hs:starEach [.Call (.Name "range" p2) [a] [] pos2] X.env = [(false,eval (.Call (.Name "range" p2) [a] [] pos2) X.env)]:=by rfl) :
    DE X (.Call (.Name "list" p) [.Call (.Name "range" p2) [a] [] pos2] [] pos) (aI pL fa):=by
 refine ⟨fun pins s σ H Q I h=>?_⟩
 refine wpAny_Call_Name_kw (jB I hg hm (u:=.type "list") (by decide +kernel) (PyProof.Rows.callWith_type1 ?_ hs rfl))
 rw [hs]
 show wpAny _ _ (spliced ((false,eval (.Call (.Name "range" p2) [a] [] pos2) X.env) :: [])) _ _ s
 refine Calls.spliced_cons ?_
 obtain ⟨Fz,ρ,w,ρ',r,e,q⟩:=h
 obtain ⟨ws,xs,e1,e2,e3⟩:=jZ e
 unfold pL at e3
 split at e3
 . rename_i n
   obtain ⟨hb,rfl⟩:=bc e3
   have ha':=ha.ok pos2 pins s σ H (fun vs H1=>∃ Fz1,aP X.K Fz Fz1 ρ ρ' σ H H1 ws vs) I ⟨Fz,ρ,ws,ρ',r,e1,fun vs H1 Fz1 p1=>⟨Fz1,p1⟩⟩
   refine wpAny_Call_Name_kw (jB I hg2 hm2 boot_range (PyProof.Rows.callWith_type1 (thn ha' fun us s1 ⟨vs,H1,I1,r1,Fz1,p1⟩=>?_) hs2 rfl))
   obtain ⟨v,rfl,hv⟩:=dh (p1.rel.kO p1.rep e2)
   rw [hv.int] at r1
   cases r1 with
   | cons rr rn =>
    cases rn
    obtain ⟨t,rfl⟩:=rr
    refine call_range_1 ?_
    refine Calls.spliced_nil ?_
    have hn:Builtin.Range.rangeSize 0 n 1=((n.toNat:Nat):Int):=by rw [rangeSize_one];split <;> omega
    refine call_list_range (I.ok.hd hc) (IsRange.new ..) (small_one (by omega) (by omega) (by omega) (by omega)) hn (by omega) fun h' tk acc c' kp e hi=>?_
    have r5:=Em hi
    have kp':∀ b o,s1.heap.get? b=some o->h'.get? b=some o:=fun b o q=>kp b o (Heap.get?_push_of_some _ q)
    have hle:s1.heap.objs.size <= (s1.heap.push { cls:=.type "range",data:=.fields #[.int 0 s1.toks,.int n t,.int 1 (s1.toks + 1)] }).objs.size:=by rw [Heap.size_push];exact Nat.le_succ _
    refine ⟨.ref _,_,I1.laid (t':=tk) kp' hle (show cB X.prog X.w _ h' _ (.lst ((List.range n.toNat).map fun k=>V.int ((k:Nat):Int))) from ⟨by rw [List.length_map,List.length_range,sizeLine_eq];omega,acc.toList,c',r5,by simpa using e⟩),rfl,?_⟩
    have hf:=I1.hok.fresh hle
    have dd:aD X.K Fz1 H1 ((List.range n.toNat).map fun k=>V.int ((k:Nat):Int)) ((List.range n.toNat).map fun k=>PyData.int ((k:Nat):Int)):=by
     have:=IZ (K:=X.K) (Fz:=Fz1) (H:=H1) ((List.range n.toNat).map fun k=>((k:Nat):Int))
     simpa [List.map_map,Function.comp_def] using this
    exact q _ _ Fz1 (p1.made (.Hr p1.rel.fzl hf dd))
 . cases e3
end
section
variable {K:PySem.W.Frag} {Fz:Addr->Prop} {ρ:Rho} {σ:St} {H:Hp} {p:Addr} {o:HO}
theorem Rel.Pb(r:Rel K Fz ρ σ H)(hp:¬ Fz p)(ho:¬ Own ρ σ p)(ni:∀ C dx fs,H p ≠ some (.ins C dx fs)):Rel K Fz ρ σ (upd H p o):=by
 have k:∀ q u,Fz q->H q=some u->upd H p o q=some u:=fun q u z e=>by rw [aL (fun (z':q=p)=>hp (z' ▸ z))];exact e
 refine ⟨r.len,fun i w e=>?_,r.apart,r.gD,fun q z=>?_,fun i c g ns e=>(r.obj i c g ns e).upd ni,r.oba⟩
 . obtain ⟨v,hv,hr⟩:=r.val i w e
   refine ⟨v,hv,?_⟩
   cases w with
   | d x=>exact Dr.keep (fun _ z=>z) k _ _ hr
   | own xs =>
    obtain ⟨q,us,e1,e2,e3⟩:=hr
    subst e1
    refine ⟨q,us,rfl,?_,e3.keep (fun _ z=>z) k _ _⟩
    rw [aL (fun (z:q=p)=>ho (z ▸ ⟨i,xs,e,hv⟩))]
    exact e2
   | sl _=>exact hr
   | ob _ _ _=>exact hr
 . rw [aL (fun (z':q=p)=>hp (z' ▸ z))];exact r.fzl q z
theorem Rel.TZ(r:Rel K Fz ρ σ H)(ho:¬ Own ρ σ p)(hl:H p ≠ none)(ni:∀ C dx fs,H p ≠ some (.ins C dx fs)):Rel K (fun q=>Fz q \/ q=p) ρ σ H:=by
 refine ⟨r.len,fun i w e=>?_,r.apart,fun q ow z=>?_,fun q z=>?_,r.frz ni,r.oba⟩
 . obtain ⟨v,hv,hr⟩:=r.val i w e
   refine ⟨v,hv,?_⟩
   cases w with
   | d x=>exact Dr.keep (fun _ z=>.inl z) (fun _ _ _ e=>e) _ _ hr
   | own xs =>
    obtain ⟨q,us,e1,e2,e3⟩:=hr
    exact ⟨q,us,e1,e2,e3.keep (fun _ z=>.inl z) (fun _ _ _ e=>e) _ _⟩
   | sl _=>exact hr
   | ob _ _ _=>exact hr
 . rcases z with z | z
   . exact r.gD q ow z
   . exact ho (z ▸ ow)
 . rcases z with z | z
   . exact r.fzl q z
   . rw [z];exact hl
theorem Rel.Mr(r:Rel K Fz ρ σ H)(ho:Own ρ σ p):H p ≠ none:=by
 obtain ⟨i,xs,e1,e2⟩:=ho
 obtain ⟨v,hv,q,us,e3,e4,_⟩:=r.val i _ e1
 rw [e2] at hv
 cases hv
 cases e3
 rw [e4];exact fun z=>nomatch z
end
def vL(x:Str)(fe:Fe):Fe:=fun ρ=>(fe ρ).bind fun p=>(f7 p.2 p.1).bind fun z=>some (.d (.dict [(.str x,z.1)]),z.2)
section
variable {X:Cx}
theorem Ms{e:Expr}{fe:Fe}{x:Str}{j:Nat}{cpos pos:Pos}(he:DE X e fe):DE X (.Dict [some (.Constant (.str x) j cpos)] [e] pos) (vL x fe) :=
 ⟨PE.imp (NW (LP (Ll (x:=x)) he.ok NV) rfl rfl (by simp) (by simp)) fun σ H Q h=>by
  obtain ⟨Fz,ρ,w,ρ',r,e,q⟩:=h
  unfold vL at e
  cases e1:fe ρ with
  | none=>rw [e1] at e;cases e
  | some z =>
   obtain ⟨w1,ρ1⟩:=z
   simp only [e1,Option.bind_some] at e
   cases e2:f7 ρ1 w1 with
   | none=>rw [e2] at e;cases e
   | some z2 =>
    obtain ⟨dx,ρ2⟩:=z2
    simp only [e2,Option.bind_some] at e
    cases e
    intro p hp
    have nz:¬ Fz p:=fun z=>r.fzl p z hp
    have no:¬ Own ρ σ p:=fun z=>r.Mr z hp
    refine ⟨Fz,ρ,w1,ρ1,r.Pb nz no (by rw [hp];exact fun _ _ _ z=>nomatch z),e1,fun v H1 Fz1 p1=>?_⟩
    obtain ⟨Fz2,p2,d2⟩:=p1.esc (xs:=[dx]) (ρ2:=ρ') (by unfold bw;rw [e2];rfl)
    have hp1:H1 p=some (.dK []):=p1.step.keep p _ bt no
    refine ⟨hp1,[(.inr x,v)],rfl,by simp,?_⟩
    have no2:¬ Own ρ' σ p:=fun z=>no (p2.own p z)
    have nz2:¬ Fz2 p:=fun z=>by
     rcases p2.step.new p z with z | z | z
     . exact nz z
     . rw [bt] at z;cases z
     . exact no z
    show Q (.ref p) (upd H1 p (.dK [(.inr x,v)]))
    have k:∀ q u,Fz2 q->H1 q=some u->upd H1 p (.dK [(.inr x,v)]) q=some u:=fun q u z e=>by rw [aL (fun (z':q=p)=>nz2 (z' ▸ z))];exact e
    have r3:Rel X.K (fun q=>Fz2 q \/ q=p) ρ' σ (upd H1 p (.dK [(.inr x,v)])):=(p2.rel.Pb nz2 no2 (by rw [hp1];exact fun _ _ _ z=>nomatch z)).TZ no2 (by rw [bt];exact fun z=>nomatch z) (by rw [bt];exact fun _ _ _ z=>nomatch z)
    cases d2 with
    | cons dv _ =>
     refine q _ _ (fun q=>Fz2 q \/ q=p) ⟨r3,.cons (.dct (.inr rfl) bt (dv.keep (fun _ z=>.inl z) k _ _)) .nil,fun q hq=>?_,dQ,⟨r3.fzl,fun q u e n=>?_,fun q e=>?_,fun q z=>.inl (p2.step.grow q z),fun q z=>?_⟩,p2.own,p2.kept⟩
     . rw [jn] at hq;exact absurd hq (by simp [frs])
     . have hq:q ≠ p:=aQ e hp
       rw [aL hq]
       exact p2.step.keep q u (by rw [aL hq];exact e) n
     . have hq:q ≠ p:=fun z=>by rw [z,bt] at e;cases e
       rw [aL hq] at e
       have:=p2.step.live q e
       rwa [aL hq] at this
     . rcases z with z | z
       . rcases p2.step.new q z with z | z | z
         . exact .inl z
         . exact .inr (.inl (ba q z))
         . exact .inr (.inr z)
       . rw [z];exact .inr (.inl hp)⟩
end
end
section
section
variable {prog:Program} {w:World} {A:Around} {E:Value->Shared->Prop} {s:Shared}
theorem Ki(xs:Array Value):((List.range xs.size).filterMap fun (k:Nat)=>xs[(((xs.size:Int) - 1) + (k:Int) * (-1)).toNat]?).toArray=xs.toList.reverse.toArray:=by
 have e:(List.range xs.size).filterMap (fun (k:Nat)=>xs[(((xs.size:Int) - 1) + (k:Int) * (-1)).toNat]?)=((List.range xs.size).map fun k=>xs.size - 1 - k).filterMap (xs[·]?):=by
  rw [List.filterMap_map]
  have gen:∀ (l:List Nat),(∀ k ∈ l,k < xs.size)->l.filterMap (fun (k:Nat)=>xs[(((xs.size:Int) - 1) + (k:Int) * (-1)).toNat]?)=l.filterMap ((xs[·]?) ∘ fun k=>xs.size - 1 - k):=by
   intro l
   induction l with
   | nil=>intro _;rfl
   | cons k l ih =>
    intro hl
    have hk:=hl k List.mem_cons_self
    have e2:(((xs.size:Int) - 1) + (k:Int) * (-1)).toNat=xs.size - 1 - k:=by omega
    rw [List.filterMap_cons,List.filterMap_cons,ih fun j hj=>hl j (List.mem_cons_of_mem _ hj),e2]
    rfl
  exact gen _ fun k hk=>List.mem_range.mp hk
 rw [e,PySem.W.krv_range,List.filterMap_reverse,PySem.W.krv_all]
theorem QV {t sl : Addr} {items : Array Value} {vs : Value} {Q : Value -> Shared -> Prop} (ht : IsTup s.heap t items) (hs : s.heap.IsSliceOf sl .none .none vs) (ps : IsPart vs (some (-1))) (hz : items.size <= sizeLine)
    (h:Q (.ref s.heap.objs.size) { s with heap:=s.heap.push { cls:=.type "tuple",data:=.seq items.toList.reverse.toArray } }):wpAny (model prog w) A (getItem (.ref t) (.ref sl)) Q E s:=by
 obtain ⟨os,hos,hcs,hds⟩:=id hs
 have hTs:s.TypeIs (.ref sl) "slice" := ⟨os,hos,hcs⟩
 have ok:sizeOk (.seq items.toList.reverse.toArray):=by
  show items.toList.reverse.toArray.size <= sizeLine
  simpa using hz
 unfold getItem
 try with_reducible refine wpAny_holding ?_
 first | refine wpAny_bind (wpAny_pure ?_) | skip
 refine wpAny_bind (wpAny_sequenceKey ht.typeIs (by decide) (wpAny_bind (wpAny_callSpecial?_slot (name:=Str.ofString "__getitem__") ht.typeIs PyProof.Rows.slot_tuple_getitem
  (wpAny_call_entry PyProof.Rows.slot_tuple_getitem ht.typeIs entry_tuple_getitem ?_ (args_tuple_getitem _ _)))))
 show wpAny _ _ (Builtin.Tuple.tupleItemsOf (.ref t) >>= _) _ _ s
 refine wpAny_bind (tupleItemsOf_ ht (wpAny_bind (wpAny_typeOf hTs ?_)))
 rw [if_pos (by decide)]
 refine wpAny_bind ?_
 unfold Builtin.Slice.sliceApplied Builtin.Slice.sliceFields
 refine wpAny_bind (wpAny_bind (wpAny_field hos hds (x:=.none) rfl (wpAny_bind (wpAny_field hos hds (x:=.none) rfl (wpAny_bind (wpAny_field hos hds (x:=vs) rfl (wpAny_pure ?_)))))))
 refine wpAny_bind (HT.l7 ps ?_)
 show wpAny _ _ (if ((-1:Int) == 0)=true then _ else _) _ _ s
 rw [if_neg (by decide)]
 refine wpAny_bind (HT.l7 .none (wpAny_bind (HT.l7 .none (wpAny_bind (wpAny_pure ?_)))))
 have ea:Builtin.Slice.sliceAdjust none none (-1) (items.size:Int)=((items.size:Int) - 1,-1):=rfl
 have ep:Builtin.Slice.slicePlaces ((items.size:Int) - 1) (-1) (-1)=items.size:=by
  unfold Builtin.Slice.slicePlaces
  rw [if_neg (by decide)]
  split
  . rw [show (- -1:Int)=1 from rfl,Int.ediv_one];omega
  . simp;omega
 show wpAny _ _ (match Builtin.Slice.sliceAdjust none none (-1) (items.size:Int) with | (lo,hi)=>pure (lo,(-1:Int),Builtin.Slice.slicePlaces lo hi (-1))) _ _ s
 rw [ea]
 show wpAny _ _ (pure ((items.size:Int) - 1,(-1:Int),Builtin.Slice.slicePlaces ((items.size:Int) - 1) (-1) (-1))) _ _ s
 rw [ep]
 refine wpAny_pure ?_
 show wpAny _ _ (if (((items.size:Int) - 1) == 0 && (-1:Int) == 1 && items.size == items.size)=true then _ else _) _ _ s
 rw [if_neg (by simp),Ki]
 first
  | exact wpAny_bind (m:=Builtin.Tuple.tupleExact _) (wpAny_newObj_type (wpAny_pure ⟨_,rfl,wpAny_pure h⟩) ok)
  | exact wpAny_bind (m:=Builtin.Tuple.tupleExact _) (wpAny_newObj_type (wpAny_bind (wpAny_pure (wpAny_pure ⟨_,rfl,wpAny_pure h⟩))) ok)
  | exact wpAny_bind (wpAny_bind (m:=Builtin.Tuple.tupleExact _) (wpAny_newObj_type (wpAny_pure (wpAny_pure ⟨_,rfl,wpAny_pure h⟩)) ok))
  | exact wpAny_bind (wpAny_bind (m:=Builtin.Tuple.tupleExact _) (wpAny_newObj_type (wpAny_pure ⟨_,rfl,wpAny_pure h⟩) ok))
end
def Ul:D->Int->Option W
 | .tuple xs,-1=>some (.d (.tuple xs.reverse))
 | _,_=>none
def Gs(fe fs:Fe):Fe:=fun ρ=>(aa fe (aa fs aj) ρ).bind fun p=>(cu p.2 p.1).bind fun xs=>match xs with
 | [.tuple xs,.int k]=>if k = -1 then some (.d (.tuple xs.reverse),p.2) else none
 | _=>none
section
variable {X:Cx}
theorem QW{e st:Expr}{p2 pos:Pos}{fe fs:Fe}(he:DE X e fe)(hst:DE X st fs):DE X (.Subscript e (.Slice none none (some st) p2) pos) (Gs fe fs):=by
 refine ⟨fun pins s σ H Q I h=>?_⟩
 obtain ⟨Fz,ρ,w,ρ',r,ee,q⟩:=h
 unfold Gs at ee
 cases e1:aa fe (aa fs aj) ρ with
 | none=>rw [e1] at ee;cases ee
 | some z =>
  obtain ⟨ws,ρ1⟩:=z
  simp only [e1,Option.bind_some] at ee
  cases e2:cu ρ1 ws with
  | none=>rw [e2] at ee;cases ee
  | some xs =>
   simp only [e2,Option.bind_some] at ee
   split at ee
   . rename_i ds k
     obtain ⟨hk,ez⟩:=bc ee
     cases ez
     subst hk
     obtain ⟨w1,ρa,us,g1,g2,rfl⟩:=bP e1
     obtain ⟨w2,ρb,us2,g3,g4,rfl⟩:=bP g2
     cases g4
     refine Subscript_ (thn (he.ok pins s σ H (fun v H1=>∃ Fz1,aP X.K Fz Fz1 ρ ρa σ H H1 [w1] [v]) I ⟨Fz,ρ,w1,ρa,r,g1,fun v H1 Fz1 p1=>⟨Fz1,p1⟩⟩) fun v s1 ⟨x,H1,I1,r1,Fz1,p1⟩=>?_)
     refine wpAny_Slice ?_
     rw [evalPart_none]
     refine wpAny_pure (wpAny_pure ?_)
     rw [evalPart_some]
     refine thn (hst.ok pins s1 σ H1 (fun v2 H2=>∃ Fz2,aP X.K Fz1 Fz2 ρa ρ' σ H1 H2 [w2] [v2]) I1 ⟨Fz1,ρa,w2,ρ',p1.rel,g3,fun v H1 Fz1 p1=>⟨Fz1,p1⟩⟩) fun u s2 ⟨y,H2,I2,r2,Fz2,p2⟩=>?_
     have p12:=p1.cons p2
     obtain ⟨va,vb,ev,ha,hb⟩:=cH (p12.rel.kO p12.rep e2)
     cases ev
     rw [hb.int] at r2
     obtain ⟨t,rfl⟩:=r2
     obtain ⟨a,xs,rfl,sq,dd⟩:=ha.tup
     cases r1
     have I4:Inv X pins σ H2 { s2 with heap:=s2.heap.push { cls:=.type "slice",data:=.fields #[.none,.none,.int (-1) t] } }:=I2.kept (t':=s2.toks) fun b ob q=>Heap.get?_push_of_some _ q
     obtain ⟨its,rr,tt,zz⟩:=I4.tuple sq
     show wpAny (model X.prog X.w) X.A (subscriptTail e (.Slice none none (some st) _) (.ref a) (.ref s2.heap.objs.size)) (EP X pins σ Q) X.xe { s2 with heap:=s2.heap.push { cls:=.type "slice",data:=.fields #[.none,.none,.int (-1) t] } }
     have hlen:its.toArray.size=xs.length:=by rw [List.size_toArray];exact rr.length.symm
     refine tail_any (ops:=[.ref a,.ref s2.heap.objs.size]) tt.typeIs PyProof.Rows.slot_tuple_getitem.lookup (QV tt (Heap.IsSliceOf.new ..) (.int _ _) (by rw [hlen];exact zz) ?_) (by with_unfolding_all rfl)
     have hle:s2.heap.objs.size <= (s2.heap.push { cls:=.type "slice",data:=.fields #[.none,.none,.int (-1) t] }).objs.size:=by rw [Heap.size_push];exact Nat.le_succ _
     refine ⟨.ref _,_,I4.laid (t':=s2.toks) (fun b u e=>Heap.get?_push_of_some _ e) (Nat.le_refl _) (show cB X.prog X.w _ _ _ (.tup xs.reverse) from ⟨by rw [List.length_reverse];exact zz,its.reverse,rr.reverse,⟨_,Heap.get?_push_size _ rfl,rfl,_,rfl⟩⟩),rfl,?_⟩
     exact q _ _ _ (p12.made (.Eb p12.rel.fzl (I4.hok.fresh (Nat.le_refl _)) dd.reverse))
   . cases ee
end
end
section
def leS(a b:Str):Bool:=!ltCps b.cps.toList a.cps.toList
def zT(xs:List Str):List Str:=(ma xs).mergeSort leS
theorem MF{a b:Str}(h1:leS a b=true)(h2:leS b a=true):a=b:=by
 unfold leS at h1 h2
 rw [ltCps_eq] at h1 h2
 have g1:¬ b.cps.toList < a.cps.toList:=by simpa using h1
 have g2:¬ a.cps.toList < b.cps.toList:=by simpa using h2
 have e:a.cps.toList=b.cps.toList:=List.le_antisymm g1 g2
 cases a;cases b
 simp only at e
 rw [Array.toList_inj.mp e]
theorem Kl(a b:Str):(leS a b || leS b a)=true:=by
 unfold leS
 rw [ltCps_eq,ltCps_eq]
 have:=List.le_total a.cps.toList b.cps.toList
 rcases this with h | h
 . have h':¬ b.cps.toList < a.cps.toList:=h
   simp [h']
 . have h':¬ a.cps.toList < b.cps.toList:=h
   simp [h']
theorem CT(a b c:Str)(h1:leS a b=true)(h2:leS b c=true):leS a c=true:=by
 unfold leS at *
 rw [ltCps_eq] at *
 have g1:a.cps.toList <= b.cps.toList:=by
  show ¬ _
  simpa using h1
 have g2:b.cps.toList <= c.cps.toList:=by
  show ¬ _
  simpa using h2
 have g3:a.cps.toList <= c.cps.toList:=List.le_trans g1 g2
 have g3':¬ c.cps.toList < a.cps.toList:=g3
 simp [g3']
theorem CU:∀ (p:Str) (l:List Str),risingS p l=true->(p :: l).Pairwise (fun a b=>leS a b=true)
 | p,[],_=>by simp
 | p,x :: r,h=>by
  have h':leS p x=true /\ risingS x r=true:=by
   have:(leS p x && risingS x r)=true:=h
   simpa using this
  have ih:=CU x r h'.2
  refine List.pairwise_cons.mpr ⟨fun y hy=>?_,ih⟩
  rcases List.mem_cons.mp hy with rfl | hy
  . exact h'.1
  . exact CT _ _ _ h'.1 ((List.pairwise_cons.mp ih).1 y hy)
theorem Km:∀ (l:List Str),sortedS l=true->l.Pairwise (fun a b=>leS a b=true)
 | [],_=>List.Pairwise.nil
 | x :: r,h=>CU x r h
theorem MG{xs ys:List Str}(hp:ys.Perm (ma xs))(hs:sortedS ys=true):ys=zT xs:=by
 refine List.Perm.eq_of_pairwise (le:=fun a b=>leS a b=true) (fun a b _ _ h1 h2=>MF h1 h2) (Km ys hs) ?_ (hp.trans (List.mergeSort_perm _ _).symm)
 exact List.pairwise_mergeSort CT Kl _
def vg:List D->Option W
 | [.list xs]=>(strsOf xs).bind fun ss=>if ss.length < 60 then some (.fr ((zT ss).map .str)) else none
 | _=>none
theorem Kn{ys:List Str}:∀ {vs:List Value},StrsAre vs ys->Vals (ys.map V.str) vs:=by
 intro vs h
 induction h with
 | nil=>exact .nil
 | cons x t h ih=>exact .cons ⟨t,rfl⟩ ih
section
variable {X:Cx}
theorem Inv.dr{pins:List (Addr × Obj)}{σ:St}{H:Hp}{s:Shared}(I:Inv X pins σ H s)(d:Drawn):Inv X pins σ H { s with drawn:=d } :=
 ⟨I.ok,I.os,I.bare,I.base,I.loc,I.cell,I.free,I.kR,I.pin,I.hok,I.len⟩
theorem HU {a : Expr} {fa : Fa} {p p2 pos pos2 : Pos} (hc : X.calm = true) (hg : Gl X "sorted") (hm : X.mg "sorted" = none) (hg2 : Gl X "set") (hm2 : X.mg "set" = none) (ha : DA X [a] fa)
    (hs2:starEach [a] X.env = [(false,eval a X.env)]:=by rfl) (hs:starEach [.Call (.Name "set" p2) [a] [] pos2] X.env = [(false,eval (.Call (.Name "set" p2) [a] [] pos2) X.env)]:=by rfl) :
    DE X (.Call (.Name "sorted" p) [.Call (.Name "set" p2) [a] [] pos2] [] pos) (aI vg fa):=by
 refine ⟨fun pins s σ H Q I h=>?_⟩
 refine wpAny_Call_Name_kw (jB I hg hm (u:=.builtin "sorted") (by decide +kernel) (PyProof.Rows.callWith_builtin1 ?_ hs rfl))
 rw [hs]
 show wpAny _ _ (spliced ((false,eval (.Call (.Name "set" p2) [a] [] pos2) X.env) :: [])) _ _ s
 refine Calls.spliced_cons ?_
 obtain ⟨Fz,ρ,w,ρ',r,e,q⟩:=h
 obtain ⟨ws,xs,e1,e2,e3⟩:=jZ e
 unfold vg at e3
 split at e3
 . rename_i ds
   cases e4:strsOf ds with
   | none=>rw [e4] at e3;cases e3
   | some ss =>
    simp only [e4,Option.bind_some] at e3
    obtain ⟨hb,rfl⟩:=bc e3
    have ha':=ha.ok pos2 pins s σ H (fun vs H1=>∃ Fz1,aP X.K Fz Fz1 ρ ρ' σ H H1 ws vs) I ⟨Fz,ρ,ws,ρ',r,e1,fun vs H1 Fz1 p1=>⟨Fz1,p1⟩⟩
    refine wpAny_Call_Name_kw (jB I hg2 hm2 (u:=.type "set") (by decide +kernel) (PyProof.Rows.callWith_type1 (thn ha' fun us s1 ⟨vs,H1,I1,r1,Fz1,p1⟩=>?_) hs2 rfl))
    obtain ⟨v,rfl,hv⟩:=dh (p1.rel.kO p1.rep e2)
    obtain ⟨l,vl,rfl,hl,dl⟩:=hv.lst
    cases r1 with
    | cons rr rn =>
     cases rn
     cases rr
     obtain ⟨its,rv,pl,_⟩:=I1.list (SqL.of hl)
     have hvs:=Ej dl e4
     subst hvs
     have hlen:its.length=ss.length:=by rw [<- rv.length,List.length_map]
     have hit:∀ (i:Nat) (v:Value),its.toArray[i]? = some v->∃ x t,ss[i]? = some x /\ v = .str x t:=fun i v ev=>by
      have ev':its[i]? = some v:=by simpa using ev
      have hi:i < ss.length:=by rw [<- hlen];exact mB ev'
      have ex:(ss.map V.str)[i]? = some (V.str ss[i]):=by rw [List.getElem?_map,List.getElem?_eq_getElem hi];rfl
      obtain ⟨u,hu,ru⟩:=rv.get ex
      rw [ev'] at hu
      cases hu
      obtain ⟨t,rfl⟩:=ru
      exact ⟨_,t,List.getElem?_eq_getElem hi,rfl⟩
     have hbnd:ss.length + 1 < scanBound:=by
      have:(61:Nat) <= scanBound:=by decide
      omega
     refine SR (I.ok.hd hc) pl.isList (xs:=ss) (by rw [List.size_toArray,hlen]) hit (by rw [List.size_toArray,hlen];exact hbnd) fun h' tk ks hp hS kp=>?_
     have kp':∀ b o,s1.heap.get? b=some o->h'.get? b=some o:=fun b o e=>kp b o (Heap.lt_size e) e
     refine Calls.spliced_nil ?_
     have hk:ks.length <= ss.length:=by rw [hp.length_eq];exact xa ss
     have hsz1:s1.heap.objs.size <= h'.objs.size:=by
      obtain ⟨o,_,_,_,ho,_⟩:=hS
      exact Nat.le_of_lt (Heap.lt_size ho)
     refine ME (s:={ s1 with heap:=h',toks:=tk }) (I.ok.hd hc) hS (by omega) fun h2 tk2 d D vs2 c ys hD kp2 b1 b2 b3 g2=>?_
     have ey:ys=zT ss:=MG (b2.trans hp) b3
     subst ey
     have hle:s1.heap.objs.size <= D:=Nat.le_trans hsz1 hD
     have hln:(zT ss).length <= ss.length:=by rw [(b2.trans hp).length_eq];exact xa ss
     have I2:Inv X pins σ (upd H1 D (.lst ((zT ss).map V.str))) { s1 with heap:=h2,toks:=tk2 }:=I1.laid (t':=tk2) (fun b o e=>kp2 b o (kp' b o e)) hle (show cB X.prog X.w _ h2 _ (.lst ((zT ss).map V.str)) from ⟨by rw [List.length_map,sizeLine_eq];omega,vs2,c,Kn b1,g2⟩)
     exact ⟨.ref D,_,Inv.dr I2 d,rfl,q _ _ Fz1 (p1.made (.Hr p1.rel.fzl (I1.hok.fresh hle) (IT _)))⟩
 . cases e3
end
end
section
section
variable {P:Program} {w:World} {K:PySem.W.Frag} {mg:Str->Option Value} {base:Heap}
theorem Gu {x : Str} {st : Stmt} {ps : List Str} {k np : Nat} (d : Dfn K mg x st)
    (hb:∀ (kV doc pm:Value) (an:Option Addr) (cdv ct:Value) (us:List Value),us.length=ps.length->bindArgs (PySem.W.fnOf x x (aM st) (aG st) (ah st) .none kV doc pm an cdv ct) ⟨us,[]⟩=pure (ps.zip us)) :
    Cal P w K mg base k x np (fun _=>none):=by
 obtain ⟨f,fd,F,h⟩:=d.ex
 exact ⟨f,fd,ps,⟨fun vs H Q E ⟨_,Fz,ws,r,fin,a,e,q⟩=>(nomatch e),fun A outer s H args us vs Q E hr he hb hv ⟨_,Fz,ws,r,fin,a,e,q⟩=>(nomatch e)⟩,h,F.kp,F.binds hb⟩
end
def B1(ns:List Int):W:=.d (.dict [(.none,.list (ns.map .int))])
theorem HP{K:PySem.W.Frag}{Fz:Addr->Prop}{H:Hp}:∀ (ns:List Int),aD K Fz H (ns.map V.int) (ns.map PyData.int)
 | []=>.nil
 | n :: ns=>.cons (.int n) (HP ns)
theorem Jv{K:PySem.W.Frag}{H:Hp}{a:Addr}{ns:List Int}{F:Fn}{E:XK}(hS:SqL K H a (ns.map V.int))(hF:∃ fin,F [B1 ns] = some (.d (.bool true),fin))(hO:∀ u,H a ≠ some (.lst u)):spF K 1 F [.ref a] H (fun v _=>v = .bl true) E:=by
 obtain ⟨fin,e⟩:=hF
 have go:∀ (Fz:Addr->Prop),(∀ q,Fz q->H q ≠ none)->Dr K Fz H (.ref a) (.dict [(.none,.list (ns.map .int))])->spF K 1 F [.ref a] H (fun v _=>v = .bl true) E:=fun Fz l d=>by
  refine ⟨rfl,Fz,[B1 ns],.d (.bool true),fin,⟨rfl,fun k w h=>?_,fun i j xs ys p h1=>?_,fun k xs p h1=>?_,l⟩,e,fun v H' Fz' cp=>?_⟩
  . cases k with
    | zero=>cases h;exact ⟨_,rfl,d⟩
    | succ k=>cases h
  . cases i with
    | zero=>cases h1
    | succ k=>cases h1
  . cases k with
    | zero=>cases h1
    | succ k=>cases h1
  . have:=cp.rep
    cases this
    rfl
 rcases hS with (hS | ⟨o,hS⟩) | hS
 . exact absurd hS (hO _)
 . exact go (fun q=>q=a) (fun q z=>by rw [z,hS];exact fun e=>nomatch e) (.scr (.inl ⟨rfl,o,hS⟩) (HP ns))
 . exact go (fun _=>False) (fun _ z=>z.elim) (.scr (.inr hS) (HP ns))
theorem M4{H:Hp}{a:Addr}(h:LR H):∀ u,H a ≠ some (.lst u):=fun u e=>by
 rcases h a with z | ⟨o,xs,z⟩ | ⟨fl,z⟩
 . rw [z] at e;cases e
 . rw [z] at e;cases e
 . rw [z] at e;cases e
section
variable {X:Cx}
def Eo(K:PySem.W.Frag):R2:=fun x y H Q=>∃ a b xs ys,x = .ref a /\ y = .ref b /\ SqL K H a xs /\ SqL K H b ys /\ xs.length ≠ ys.length /\ Q (.bl false) H
theorem Mt(hu:X.A.units + 64 < cLine):OpR X (compareOp .Eq) (Eo X.K):=by
 intro pins s σ H x y v u Q I rx ry h
 obtain ⟨a,b,xs,ys,rfl,rfl,h1,h2,hn,q⟩:=h
 cases rx
 cases ry
 obtain ⟨i1,r1,p1,_⟩:=I.list h1
 obtain ⟨i2,r2,p2,_⟩:=I.list h2
 refine SeqAt.eq_list_lengthsAt p1.isList p2.isList ?_ (by omega) ⟨.bl false,H,I,rfl,q⟩
 have e1:=r1.length
 have e2:=r2.length
 simp only [List.size_toArray,bne_iff_ne,ne_eq]
 omega
theorem kP(hu:X.A.units + 64 < cLine):OpR X (compareOp .Eq) (fun x y H Q=>LJ X.K x y H Q \/ Eo X.K x y H Q):=(Qx hu).or (Mt hu)
end
def lZ:List D->Option W
 | [.list xs,.list ys]=>if xs.length=ys.length then gEq false [.list xs,.list ys] else some (.d (.bool false))
 | xs=>gEq false xs
theorem fJ{K:PySem.W.Frag}:Atom K (r2 fun x y H Q=>LJ K x y H Q \/ Eo K x y H Q) lZ:=by
 have old:∀ (Fz:Addr->Prop) (H:Hp) (vs:List V) (xs:List D) (w:W) (Q:VK),(∀ q,Fz q->H q ≠ none)->Paired (Rdg K Fz H) vs xs->gEq false xs=some w->(∀ v H' Fz',Made K Fz Fz' H H' w v->Q v H')->r2 (fun x y H Q=>LJ K x y H Q \/ Eo K x y H Q) vs H Q:=by
  intro Fz H vs xs w Q l h e k
  have:=N4 (K:=K) Fz H vs xs w Q l h e k
  unfold r2 at this ⊢
  split at this
  . exact .inl this
  . exact this.elim
 intro Fz H vs xs w Q l h e k
 unfold lZ at e
 split at e
 . rename_i xs ys
   split at e
   . exact old Fz H vs _ w Q l h e k
   . rename_i hn
     cases e
     obtain ⟨v,u,rfl,h1,h2⟩:=cH h
     obtain ⟨a,us,rfl,s1,d1⟩:=h1.lst
     obtain ⟨b,us',rfl,s2,d2⟩:=h2.lst
     exact .inr ⟨a,b,us,us',rfl,rfl,SqL.of s1,SqL.of s2,by rw [d1.length,d2.length];exact hn,k _ _ _ (.val l (.bl false))⟩
 . exact old Fz H vs _ w Q l h e k
end
section
def tP(j:Nat)(fg:Fg)(ft:Ft)(fe:Fe)(vs:List Nat):Nat->Nat->Rho->List D->Option (List D × Rho)
 | 0,_,_,_=>none
 | n + 1,i,ρ,acc=>(kF ρ j).bind fun cur=>match cur[i]? with
  | none=>some (acc,ρ)
  | some x=>(fg x (ar ρ vs)).bind fun ρ1=>(ft ρ1).bind fun p=>if p.1=true then (fe p.2).bind fun q=>(f7 q.2 q.1).bind fun z=>if acc.length < 16777216 then tP j fg ft fe vs n (i + 1) z.2 (acc ++ [z.1]) else none
   else tP j fg ft fe vs n (i + 1) p.2 acc
def lh(j:Nat)(fg:Fg)(ft:Ft)(fe:Fe)(vs:List Nat):Fe:=fun ρ=>match kF ρ j with
 | some xs=>if j ∉ vs /\ vs.all (fun i=>(sT ρ i).isNone)=true then (tP j fg ft fe vs (xs.length + 1) 0 ρ []).bind fun q=>some (.fr q.1,b8 ρ q.2 vs) else none
 | none=>gU (jg (ag j)) fg ft fe vs ρ
def SI(K:PySem.W.Frag)(fe:Fe):TI:=fun σ H R=>tE K fe σ H fun x H1=>∃ a,x = .ref a /\ ((∃ xs,SqL K H1 a xs /\ R (Itl K a) H1) \/ ∃ xs,SqT K H1 a xs /\ R (Itt K a) H1)
theorem OA{K:PySem.W.Frag}{fe:Fe}{σ:St}{H:Hp}{R:It->Hp->Prop}(h:tI K (jg fe) σ H R):SI K fe σ H R:=by
 obtain ⟨Fz,ρ,items,ρ',r,e,q⟩:=h
 refine so (w8 (R:=fun x v H1=>∃ a,v = .ref a /\ ((∃ xs,SqL K H1 a xs /\ R (Itl K a) H1) \/ ∃ xs,SqT K H1 a xs /\ R (Itt K a) H1)) ⟨Fz,ρ,items,ρ',r,e,fun v x H1 Fz1 hi p1 d=>?_⟩) fun v H1 ⟨_,z⟩=>z
 cases x with
 | list xs =>
  cases hi
  obtain ⟨a,us,rfl,s1,d1⟩:=Rdg.lst (Fz:=Fz1) (H:=H1) (K:=K) (v:=v) (ds:=items) (.inl d)
  exact ⟨a,rfl,.inl ⟨us,SqL.of s1,q _ H1 Fz1 p1 (CO d)⟩⟩
 | tuple xs =>
  cases hi
  obtain ⟨a,us,rfl,s1,d1⟩:=Rdg.tup (Fz:=Fz1) (H:=H1) (K:=K) (v:=v) (ds:=items) (.inl d)
  exact ⟨a,rfl,.inr ⟨us,s1,q _ H1 Fz1 p1 (Gm d)⟩⟩
 | _=>cases hi
section
variable {X:Cx} {tg iter elt:Expr} {fg:Fg} {ft:Ft} {fe:Fe}
theorem Mp{K:PySem.W.Frag}{j:Nat}{vs:List Nat}{σ:St}{H:Hp}{Q:VK}(h:tE K (lh j fg ft fe vs) σ H Q):tLc (SI K (ag j)) (tG K (bF vs) fg) (tT K ft) (tE K fe) vs σ H Q:=by
 obtain ⟨Fz,ρ,w,ρ',r,e,q⟩:=h
 unfold lh at e
 cases e1:kF ρ j with
 | none =>
  rw [e1] at e
  exact OA (Ek (fi:=jg (ag j)) ⟨Fz,ρ,w,ρ',r,e,q⟩)
 | some items =>
  simp only [e1] at e
  by_cases hv0:j ∉ vs /\ vs.all (fun i=>(sT ρ i).isNone)=true
  . rw [if_pos hv0] at e
    obtain ⟨hjv,hv⟩:=hv0
    cases e2:tP j fg ft fe vs (items.length + 1) 0 ρ [] with
    | none=>rw [e2] at e;cases e
    | some z =>
     obtain ⟨ys,ρ2⟩:=z
     simp only [e2,Option.bind_some] at e
     cases e
     have ej:=nX e1
     obtain ⟨va,hva,a,usa,rfl,hla,dla⟩:=r.val j _ ej
     refine ⟨Fz,ρ,.sl j,ρ,r,by unfold ag;rw [ej],fun v H1 Fz1 p1v=>?_⟩
     have hvv:σ[j]? = some (some v):=p1v.rep1
     rw [hva] at hvv
     cases hvv
     have p1:=p1v.drop
     obtain ⟨vb,hvb,b,usb,eb,hlb,dlb⟩:=p1.rel.val j _ ej
     rw [hva] at hvb
     cases hvb
     cases eb
     refine ⟨a,rfl,.inl ⟨usb,SqL.of hlb,fun D hD=>?_⟩⟩
     have hsl:∀ {ρi:Rho} {Fzi:Addr->Prop} {Hi:Hp} {cur:List PyData},Rel K Fzi (ar ρi vs) (wipe σ vs) Hi->kF ρi j=some cur->∃ us,Hi a=some (.lst us) /\ aD K Fzi Hi us cur:=fun {ρi Fzi Hi cur} ri ec=>by
      obtain ⟨v,hv1,p,us,e1,e2,e3⟩:=ri.val j (.fr cur) (by rw [aF hjv];exact nX ec)
      rw [bj hjv,hva] at hv1
      cases hv1
      cases e1
      exact ⟨us,e2,e3⟩
     obtain ⟨rw1,ow1⟩:=p1.rel.qu vs
     have vw:∀ i xs,i ∈ vs->ρ[i]? ≠ some (some (W.own xs)):=fun i xs hi z=>by
      have:=List.all_eq_true.mp hv i hi
      unfold sT at this
      rw [z] at this
      cases this
     have ownEq:∀ p,Own ρ σ p->Own (ar ρ vs) (wipe σ vs) p:=fun p ⟨i,xs,z1,z2⟩=>by
      have hi:i ∉ vs:=fun hi=>vw i xs hi z1
      exact ⟨i,xs,by rw [aF hi];exact z1,by rw [bj hi];exact z2⟩
     have nfD:¬ Fz1 D:=fun z=>p1.rel.fzl D z hD
     have k0:=vC (o:=HO.lst []) hD
     have st0:Step (Own (ar ρ vs) (wipe σ vs)) Fz1 Fz1 H1 (upd H1 D (.lst [])):=⟨fun q z e=>p1.rel.fzl q z (ba q e),fun q o e _=>k0 q o e,ba,fun _ z=>z,fun _ z=>.inl z⟩
     refine ⟨fun i m Hi=>∃ Fzi ρi acc us,Rel K Fzi (ar ρi vs) (wipe σ vs) Hi /\ Step (Own (ar ρ vs) (wipe σ vs)) Fz1 Fzi H1 Hi /\ (∀ p,Own (ar ρi vs) (wipe σ vs) p->Own (ar ρ vs) (wipe σ vs) p) /\
      Kp (ar ρ vs) (ar ρi vs) /\ ρi.length=ρ.length /\ Hi D=some (.lst us) /\ aD K Fzi Hi us acc /\ ¬ Fzi D /\ tP j fg ft fe vs m i ρi acc=some (ys,ρ2),⟨items.length + 1,Fz1,ρ,[],[],?_,st0,fun _ z=>z,.refl,rfl,bt,.nil,nfD,e2⟩,?_⟩
     . exact rw1.rP ⟨st0.fzl,fun q o e _=>k0 q o e,ba,fun _ z=>z,fun _ z=>.inl z⟩ fun _ z=>.inl z
     rintro i m Hi ⟨Fzi,ρi,acc,us,ri,sti,owi,kpi,lni,hDi,dai,nfi,ei⟩
     have nown:∀ {ρ':Rho} {σ':St},(∀ p,Own ρ' σ' p->Own (ar ρi vs) (wipe σ vs) p)->¬ Own ρ' σ' D:=fun sub z=>by
      obtain ⟨j,xs,z1,z2⟩:=owi D (sub D z)
      obtain ⟨u,hu,p',us',y1,y2,_⟩:=rw1.val j _ z1
      rw [z2] at hu;cases hu;cases y1
      rw [hD] at y2;cases y2
     cases m with
     | zero=>cases ei
     | succ m =>
     unfold tP at ei
     cases ec:kF ρi j with
     | none=>rw [ec] at ei;cases ei
     | some cur =>
     simp only [ec,Option.bind_some] at ei
     obtain ⟨uc,huc,dcc⟩:=hsl ri ec
     cases hx:cur[i]? with
     | some x =>
      right
      simp only [hx] at ei
      obtain ⟨vx,hvx,dvx⟩:=dcc.get hx
      have go:(Itl K a).go i Hi:=⟨uc,vx,SqL.of huc,hvx⟩
      cases e3:fg x (ar ρi vs) with
      | none=>rw [e3] at ei;cases ei
      | some ρa =>
       simp only [e3,Option.bind_some] at ei
       cases e4:ft ρa with
       | none=>rw [e4] at ei;cases ei
       | some zt =>
        obtain ⟨b,ρb⟩:=zt
        simp only [e4,Option.bind_some] at ei
        refine ⟨go,fun H'=>∃ Fzi ρi acc us,Rel K Fzi (ar ρi vs) (wipe σ vs) H' /\ Step (Own (ar ρ vs) (wipe σ vs)) Fz1 Fzi H1 H' /\ (∀ p,Own (ar ρi vs) (wipe σ vs) p->Own (ar ρ vs) (wipe σ vs) p) /\
         Kp (ar ρ vs) (ar ρi vs) /\ ρi.length=ρ.length /\ H' D=some (.lst us) /\ aD K Fzi H' us acc /\ ¬ Fzi D /\ tP j fg ft fe vs m (i + 1) ρi acc=some (ys,ρ2),fun H' h2=>⟨m,Nat.lt_succ_self m,h2⟩,fun v H2 yv=>?_⟩
        obtain ⟨eH,yv⟩:=yv
        have eH':=eH.symm
        subst eH'
        have hvx':=yv _ (SqL.of huc)
        rw [hvx] at hvx'
        cases hvx'
        obtain ⟨Fz2,md⟩:∃ Fz2,Made K Fzi Fz2 Hi Hi (.d x) vx:=⟨Fzi,.val ri.fzl dvx⟩
        have r2:Rel K Fz2 (ar ρi vs) (wipe σ vs) Hi:=ri.rP md.step md.new
        have st2:Step (Own (ar ρi vs) (wipe σ vs)) Fzi Fz2 Hi Hi:=md.step
        refine ⟨Fz2,ar ρi vs,x,ρa,r2,md.rep,e3,fun σa pa oa=>?_⟩
        have wq:wipe σa vs=wipe σ vs:=pU (by rw [pa.len,aR]) pa.same
        refine ⟨wq,Fz2,ρa,b,ρb,pa.rel,e4,fun H3 Fz3 p3=>?_⟩
        have spa:cX K (bF vs) Fzi Fz2 (ar ρi vs) ρa (wipe σ vs) σa Hi Hi:=⟨pa.rel,(st2.weak (Ow':=OwO (ar ρi vs) (wipe σ vs)) fun _=>.inl).trans pa.step fun q z=>.inl z,fun p z=>.inl (oa.ow p z),pa.same,pa.kept,pa.len,fun p z=>(pa.obo p z).imp id (st2.live p)⟩
        have back : ∀ {Fzc ρc Hc}, aP K Fz2 Fzc ρa ρc σa Hi Hc [] [] -> Rel K Fzc (ar ρc vs) (wipe σ vs) Hc /\ Step (Own (ar ρ vs) (wipe σ vs)) Fz1 Fzc H1 Hc /\ (∀ p, Own (ar ρc vs) (wipe σ vs) p -> Own (ar ρ vs) (wipe σ vs) p) /\
            Kp (ar ρ vs) (ar ρc vs) /\ ρc.length=ρ.length /\ Hc D=some (.lst us) /\ aD K Fzc Hc us acc /\ ¬ Fzc D /\ ¬ Own (ar ρc vs) (wipe σ vs) D:=by
         intro Fzc ρc Hc pc
         have sp:=spa.trans (pc.sp (fix:=bF vs))
         have sps:=st2.trans pc.step fun q z=>.inl (oa.ow q z)
         obtain ⟨x1,x2⟩:=sp.rel.qu vs
         rw [wq] at x1 x2
         have ownc:∀ p,Own (ar ρc vs) (wipe σ vs) p->Own (ar ρi vs) (wipe σ vs) p:=fun p z=>oa.ow p (pc.own p (x2 p z))
         refine ⟨x1,sti.trans sps fun q z=>.inl (owi q z),fun p z=>owi p (ownc p z),kpi.trans (vI oa.sm pc.kept),?_,sps.keep D _ hDi (nown fun _ z=>z),ri.Aa sps dai,fun z=>?_,nown ownc⟩
         . have:=sp.rel.len
           rw [sp.len,aR,<- p1.rel.len] at this
           exact this
         . rcases sps.new D z with z | z | z
           . exact nfi z
           . rw [hDi] at z;cases z
           . exact nown (fun _ z=>z) z
        cases b with
        | false =>
         rw [if_neg (by decide)] at ei
         dsimp only
         rw [if_neg (by decide)]
         obtain ⟨x1,x2,x3,x4,x5,x6,x7,x8,_⟩:=back p3
         exact ⟨Fz3,ρb,acc,us,x1,x2,x3,x4,x5,x6,x7,x8,ei⟩
        | true =>
         rw [if_pos rfl] at ei
         dsimp only
         rw [if_pos rfl]
         cases e5:fe ρb with
         | none=>rw [e5] at ei;cases ei
         | some zf =>
          obtain ⟨wv,ρc⟩:=zf
          simp only [e5,Option.bind_some] at ei
          cases e6:f7 ρc wv with
          | none=>rw [e6] at ei;cases ei
          | some ze =>
           obtain ⟨y,ρd⟩:=ze
           simp only [e6,Option.bind_some] at ei
           by_cases hz:acc.length < 16777216
           . rw [if_pos hz] at ei
             refine ⟨Fz3,ρb,wv,ρc,p3.rel,e5,fun v4 H4 Fz4 p4=>?_⟩
             obtain ⟨Fz5,p5,d5⟩:=p4.esc (xs:=[y]) (ρ2:=ρd) (by unfold bw;rw [e6];rfl)
             cases d5 with
             | cons dy _ =>
              obtain ⟨x1,x2,x3,x4,x5,x6,x7,x8,x9⟩:=back (p3.seq p5)
              have hk:∀ q o,H4 q=some o->q ≠ D->upd H4 D (HO.lst (us ++ [v4])) q=some o:=fun q o z h=>by rw [aL h];exact z
              have hstep:∀ {Ow:Addr->Prop},(∀ q,Fz5 q->q ≠ D):=fun q z h=>x8 (h ▸ z)
              have drk:∀ {v x},Dr K Fz5 H4 v x->Dr K Fz5 (upd H4 D (HO.lst (us ++ [v4]))) v x:=fun h=>h.keep (fun _ z=>z) (fun q o z e=>hk q o e fun h=>x8 (h ▸ z)) _ _
              have drak:∀ {vs xs},aD K Fz5 H4 vs xs->aD K Fz5 (upd H4 D (HO.lst (us ++ [v4]))) vs xs:=fun h=>h.keep (fun _ z=>z) (fun q o z e=>hk q o e fun h=>x8 (h ▸ z)) _ _
              refine ⟨us,x6,by rw [x7.length,sizeLine_eq];exact hz,Fz5,ρd,acc ++ [y],us ++ [v4],?_,?_,x3,x4,x5,bt,drak (x7.append (.cons dy .nil)),x8,ei⟩
              . refine ⟨x1.len,fun j w z=>?_,x1.apart,x1.gD,fun q z e=>x1.fzl q z (ba q e),fun i c g ns e=>(x1.obj i c g ns e).upd (by rw [x6];exact fun _ _ _ z=>nomatch z),x1.oba⟩
                obtain ⟨u,h1,h2⟩:=x1.val j w z
                refine ⟨u,h1,?_⟩
                cases w with
                | d x=>exact drk h2
                | sl _=>exact h2
                | ob _ _ _=>exact h2
                | own xs =>
                 obtain ⟨pp,us',y1,y2,y3⟩:=h2
                 subst y1
                 exact ⟨pp,us',rfl,hk pp _ y2 fun h=>x9 ⟨j,xs,z,h ▸ h1⟩,drak y3⟩
              . refine ⟨fun q z e=>x1.fzl q z (ba q e),fun q o e n=>hk q o (x2.keep q o e n) fun h=>?_,fun q e=>x2.live q (ba q e),x2.grow,x2.new⟩
                subst h
                rw [hD] at e;cases e
           . rw [if_neg hz] at ei;cases ei
     | none =>
      left
      simp only [hx] at ei
      cases ei
      have w2:(Itl K a).stop i Hi:=⟨uc,SqL.of huc,by rw [dcc.length];exact List.getElem?_eq_none_iff.mp hx⟩
      have own':∀ p,Own (b8 ρ ρ2 vs) σ p->Own (ar ρ2 vs) (wipe σ vs) p:=fun p ⟨j,xs,z1,z2⟩=>by
       rcases bH z1 with ⟨h1,h2⟩ | ⟨h1,h2⟩
       . exact absurd h2 (vw j xs h1)
       . exact ⟨j,xs,by rw [aF h1];exact h2,by rw [bj h1];exact z2⟩
      have stt:Step (Own ρ σ) Fz1 Fzi H1 Hi:=sti.weak ow1
      refine ⟨w2,q (.ref D) Hi Fzi ⟨⟨?_,fun j w z=>?_,fun j k xs ys' p z1 z2 z3 z4=>?_,fun p z=>ri.gD p (own' p z),ri.fzl,Ap p1.rel stt lni kpi,p1.rel.LU (kp_rest lni kpi)⟩,.cons ⟨D,us,rfl,hDi,dai⟩ .nil,fun p hp=>?_,dQ,p1.step.trans stt fun q z=>.inl (p1.own q z),fun p z=>p1.own p (ow1 p (owi p (own' p z))),p1.kept.trans (kp_rest lni kpi)⟩⟩
      . rw [fB,lni];exact p1.rel.len
      . rcases bH z with ⟨h1,h2⟩ | ⟨h1,h2⟩
        . obtain ⟨u,g1,g2⟩:=p1.rel.val j w h2
          refine ⟨u,g1,?_⟩
          cases w with
          | d x=>exact p1.rel.dr stt g2
          | own xs=>exact absurd h2 (vw j xs h1)
          | sl _=>exact g2
          | ob _ _ _=>exact g2
        . obtain ⟨u,g1,g2⟩:=ri.val j w (by rw [aF h1];exact h2)
          exact ⟨u,by rw [bj h1] at g1;exact g1,g2⟩
      . rcases bH z1 with ⟨h1,h2⟩ | ⟨h1,h2⟩
        . exact absurd h2 (vw j xs h1)
        . rcases bH z2 with ⟨h3,h4⟩ | ⟨h3,h4⟩
          . exact absurd h4 (vw k ys' h3)
          . exact ri.apart j k xs ys' p (by rw [aF h1];exact h2) (by rw [aF h3];exact h4) (by rw [bj h1];exact z3) (by rw [bj h3];exact z4)
      . rw [cT] at hp
        have hp:p=D:=by simpa [frs] using hp
        subst hp
        exact ⟨p1.step.live p hD,nfi,fun z=>nown (fun _ z=>z) (own' p z)⟩
  . rw [if_neg hv0] at e;cases e
theorem Mq {j : Nat} {x : Str} {elt tg : Expr} {ifs : List Expr} {scope : Scope} {own : List (Str × Nat)} {vs : List Nat} {p pos : Pos} (hc : X.calm = true) (hN : X.N.Nodup) (hv : own.map (·.2) = vs) (hi : DE X (.Name x p) (ag j)) (ok : gF X.N X.env.scope scope own)
    (hg:∀ (s:Shared) (H:Hp) (C:Addr) (cl:List (Str × Addr)) (fp:List Addr),DG (X.blk s H scope (compEnvC scope cl C X.env) fp) (bF vs) tg fg) (ht:∀ (s:Shared) (H:Hp) (C:Addr) (cl:List (Str × Addr)) (fp:List Addr),DTs (X.blk s H scope (compEnvC scope cl C X.env) fp) ifs ft)
    (he:∀ (s:Shared) (H:Hp) (C:Addr) (cl:List (Str × Addr)) (fp:List Addr),DE (X.blk s H scope (compEnvC scope cl C X.env) fp) elt fe) (hs:∀ y,foldedSetIterable (.Name x p) X.env y=pure y:=by intro _;rfl) :
    DE X (.ListComp elt [⟨tg,.Name x p,ifs,0⟩] scope pos) (lh j fg ft fe vs):=by
 subst hv
 exact ⟨PE.imp (LM hc hN (Mg hi.ok) ok (fun s H C cl fp=>(hg s H C cl fp).ok) (fun s H C cl fp=>(ht s H C cl fp).ok) (fun s H C cl fp=>(he s H C cl fp).ok) hs) fun σ H Q h=>Mp h⟩
end
end
section
def oS{α:Type}(o:Option α)(Q:α->Prop):Prop:=∃ x,o=some x /\ Q x
theorem au{α:Type}{x:α}{Q:α->Prop}:oS (some x) Q ↔ Q x:=⟨fun ⟨y,e,q⟩=>by cases e;exact q,fun q=>⟨x,rfl,q⟩⟩
theorem fX{α:Type}{Q:α->Prop}:oS (none:Option α) Q ↔ False:=⟨fun ⟨y,e,q⟩=>(nomatch e),False.elim⟩
theorem aC{α β:Type}{o:Option α}{f:α->Option β}{Q:β->Prop}:oS (o.bind f) Q ↔ oS o fun x=>oS (f x) Q:=by
 cases o with
 | none=>simp only [Option.bind_none,fX]
 | some x=>simp only [Option.bind_some,au]
theorem Q6{α:Type}{c:Prop}[Decidable c]{a b:Option α}{Q:α->Prop}:oS (if c then a else b) Q ↔ if c then oS a Q else oS b Q:=by
 split <;> exact Iff.rfl
theorem aE{α:Type}{c:Prop}[Decidable c]{a:Option α}{Q:α->Prop}:oS (if c then a else none) Q ↔ c /\ oS a Q:=by
 by_cases h:c
 . simp [h]
 . simp [h,fX]
theorem aT{α:Type}{o:Option α}{Q R:α->Prop}(h:oS o Q)(i:∀ x,Q x->R x):oS o R:=let ⟨x,e,q⟩:=h;⟨x,e,i x q⟩
theorem zR {fi : Fi} {g : Fg} {b : Fs} {ρ : Rho} {Q : Out × Rho -> Prop} (h : oS (fi ρ) fun p => ∃ Inv : List D -> Rho -> Prop, Inv p.1 p.2 /\ (∀ ρ, Inv [] ρ -> Q (.nx, ρ)) /\ ∀ x xs ρ, Inv (x :: xs) ρ -> oS (g x ρ) fun ρ2 => oS (b ρ2) fun q => match q.1 with
    | .nx=>Inv xs q.2
    | .ct=>Inv xs q.2
    | .bk=>Q (.nx,q.2)
    | .rt r=>Q (.rt r,q.2)):oS (zY fi g b ρ) Q:=by
 unfold zY
 simp only [aC]
 refine aT h fun p ⟨Inv,h0,hd,hs⟩=>?_
 obtain ⟨items,ρ1⟩:=p
 have:∀ (items:List D) (ρ1:Rho),Inv items ρ1->oS (forL g b items ρ1) Q:=by
  intro items
  induction items with
  | nil=>intro ρ1 hi;exact ⟨_,rfl,hd _ hi⟩
  | cons x xs ih =>
   intro ρ1 hi
   unfold forL
   simp only [aC]
   refine aT (hs x xs ρ1 hi) fun ρ2 h=>?_
   refine aT h fun p h=>?_
   obtain ⟨o,ρ3⟩:=p
   cases o with
   | nx=>exact ih _ h
   | ct=>exact ih _ h
   | bk=>exact au.mpr h
   | rt r=>exact au.mpr h
 exact this items ρ1 h0
section
variable {ρ:Rho} {Q:W × Rho->Prop} {g:Fg} {t:Ft} {f:Fe} {vs:List Nat}
def zS(g:Fg)(t:Ft)(f:Fe)(vs:List Nat)(x:D)(acc:List D)(ρ:Rho)(K:List D->Rho->Prop):Prop :=
 oS (g x (ar ρ vs)) fun ρ1=>oS (t ρ1) fun p=>if p.1=true then oS (f p.2) fun q=>oS (f7 q.2 q.1) fun z=>acc.length < 16777216 /\ K (acc ++ [z.1]) z.2 else K acc p.2
theorem xf {Inv : List D -> List D -> Rho -> Prop} {R : List D -> Rho -> Prop} (hd : ∀ acc ρ, Inv [] acc ρ -> R acc ρ) (hs : ∀ x xs acc ρ, Inv (x :: xs) acc ρ -> zS g t f vs x acc ρ (Inv xs)) :
    ∀ (items acc:List D) (ρ:Rho),Inv items acc ρ->oS (tM g t f vs items ρ acc) fun p=>R p.1 p.2
 | [],acc,ρ,h=>⟨_,rfl,hd _ _ h⟩
 | x :: xs,acc,ρ,h=>by
  unfold tM
  simp only [aC]
  refine aT (hs x xs acc ρ h) fun ρ1 h=>aT h fun p h=>?_
  obtain ⟨b,ρ2⟩:=p
  cases b with
  | true =>
   simp only [if_true,aC] at h ⊢
   refine aT h fun q h=>aT h fun z h=>?_
   rw [aE]
   exact ⟨h.1,xf hd hs xs _ _ h.2⟩
  | false=>exact xf hd hs xs acc ρ2 h
theorem pF {fi : Fi} (h : oS (fi ρ) fun p => vs.all (fun i => (sT p.2 i).isNone) = true /\ ∃ Inv : List D -> List D -> Rho -> Prop, Inv p.1 [] p.2 /\ (∀ acc ρ, Inv [] acc ρ -> Q (.fr acc, b8 p.2 ρ vs)) /\ ∀ x xs acc ρ, Inv (x :: xs) acc ρ -> zS g t f vs x acc ρ (Inv xs)) :
    oS (gU fi g t f vs ρ) Q:=by
 unfold gU
 simp only [aC]
 refine aT h fun p ⟨hv,Inv,h0,hd,hs⟩=>?_
 rw [aE]
 refine ⟨hv,?_⟩
 simp only [aC,au]
 exact xf (R:=fun acc ρ'=>Q (.fr acc,b8 p.2 ρ' vs)) hd hs p.1 [] p.2 h0
theorem KU {j : Nat} {xs : List D} (e : kF ρ j = some xs) (hj : j ∉ vs) (hv : vs.all (fun i => (sT ρ i).isNone) = true) (Inv : List D -> List D -> Rho -> Prop) (h0 : Inv xs [] ρ) (hd : ∀ acc ρ', Inv [] acc ρ' -> Q (.fr acc, b8 ρ ρ' vs)) (hk : ∀ ys acc ρ', Inv ys acc ρ' -> kF ρ' j = some xs)
    (hs:∀ x ys acc ρ',Inv (x :: ys) acc ρ'->zS g t f vs x acc ρ' (Inv ys)):oS (lh j g t f vs ρ) Q:=by
 unfold lh
 rw [e]
 simp only
 rw [aE]
 refine ⟨⟨hj,hv⟩,?_⟩
 simp only [aC,au]
 have main:∀ (k i:Nat) (acc:List D) (ρ':Rho),i + k=xs.length->Inv (xs.drop i) acc ρ'->oS (tP j g t f vs (k + 1) i ρ' acc) fun p=>Q (.fr p.1,b8 ρ p.2 vs):=by
  intro k
  induction k with
  | zero =>
   intro i acc ρ' hi hI
   unfold tP
   rw [hk _ _ _ hI]
   have e1:xs[i]? = none:=List.getElem?_eq_none (by omega)
   simp only [Option.bind_some,e1]
   rw [List.drop_eq_nil_of_le (by omega)] at hI
   exact ⟨_,rfl,hd _ _ hI⟩
  | succ k ih =>
   intro i acc ρ' hi hI
   unfold tP
   rw [hk _ _ _ hI]
   have hlt:i < xs.length:=by omega
   have e1:xs[i]? = some xs[i]:=List.getElem?_eq_getElem hlt
   simp only [Option.bind_some,e1]
   rw [List.drop_eq_getElem_cons hlt] at hI
   simp only [aC]
   refine aT (hs _ _ acc ρ' hI) fun ρ1 h=>aT h fun p h=>?_
   obtain ⟨b,ρ2⟩:=p
   cases b with
   | true =>
    simp only [if_true,aC] at h ⊢
    refine aT h fun q h=>aT h fun z h=>?_
    rw [aE]
    exact ⟨h.1,ih (i + 1) _ _ (by omega) h.2⟩
   | false=>exact ih (i + 1) acc ρ2 (by omega) h
 exact main xs.length 0 [] ρ (by omega) (by simpa using h0)
end
theorem dI {fx : List Bool} {n : Nat} {fs : Fs} {ws : List W} {Q : W × List W -> Prop} (hl : ws.length = fx.length) (hf : Aj ws fx = true) (h : oS (fs (ws.map some ++ List.replicate (n - fx.length) none)) fun p => match p.1 with
    | .rt r=>Q (r,jV fx.length p.2)
    | .nx=>Q (.d .none,jV fx.length p.2)
    | _=>False):oS (fnOf fx n fs ws) Q:=by
 unfold fnOf
 rw [aE]
 refine ⟨⟨hl,hf⟩,?_⟩
 simp only [aC]
 refine aT h fun p h=>?_
 obtain ⟨o,ρ⟩:=p
 cases o with
 | rt r=>exact au.mpr h
 | nx=>exact au.mpr h
 | bk=>exact h.elim
 | ct=>exact h.elim
end
section
section
variable {ρ:Rho}
theorem nJ{f g:Fs}{Q}:oS (bf f g ρ) Q ↔ oS (f ρ) fun p=>oS (match p.1 with | .nx=>g p.2 | o=>some (o,p.2)) Q:=aC
theorem yi{t:Ft}{f g:Fs}{Q}:oS (fIf t f g ρ) Q ↔ oS (t ρ) fun p=>oS (if p.1=true then f p.2 else g p.2) Q:=aC
theorem yj{Q}:oS (fNx ρ) Q ↔ Q (.nx,ρ):=au
theorem qc{i:Nat}{f:Fe}{Q}:oS (cG i f ρ) Q ↔ oS (f ρ) fun p=>oS (BZ i p.2 p.1) fun ρ2=>Q (.nx,ρ2):=by unfold cG;simp only [aC,au]
theorem qd{np:Nat}{f:Fe}{Q}:oS (dP np f ρ) Q ↔ oS (f ρ) fun p=>oS (B0 np p.2 p.1) fun q=>Q (.rt q.1,q.2):=by unfold dP;simp only [aC,au]
theorem kG{f:Fe}{Q}:oS (kX f ρ) Q ↔ oS (f ρ) fun p=>Q (.nx,p.2):=by unfold kX;simp only [aC,au]
theorem il{fe fo fi:Fe}{Q}:oS (w6 fe fo fi ρ) Q ↔ oS (aa fe (aa fo (aa fi aj)) ρ) fun p=>oS (match p.1 with
 | [w,.sl s,wi]=>(rdW p.2 wi).bind fun xi=>match xi with
  | .int k=>(bw p.2 [w]).bind fun z=>match z.1 with
   | [x]=>(kF z.2 s).bind fun xs=>(ixN xs.length k).bind fun j=>some (.nx,z.2.set s (some (.fr (xs.set j x))))
   | _=>none
  | _=>none
 | _=>none) Q:=aC
theorem o_C{x:D}{Q}:oS (fC x ρ) Q ↔ Q (.d x,ρ):=au
theorem qf{i:Nat}{Q}:oS (ag i ρ) Q ↔ oS (match ρ[i]? with | some (some (.d x))=>some (.d x,ρ) | some (some (.own _))=>some (.sl i,ρ) | _=>none) Q:=Iff.rfl
theorem kH{g:List D->Option W}{f:Fa}{Q}:oS (aI g f ρ) Q ↔ oS (f ρ) fun p=>oS (cu p.2 p.1) fun xs=>oS (g xs) fun w=>Q (w,p.2):=by unfold aI;simp only [aC,au]
theorem jU{Q}:oS (aj ρ) Q ↔ Q ([],ρ):=au
theorem dJ{f:Fe}{g:Fa}{Q}:oS (aa f g ρ) Q ↔ oS (f ρ) fun p=>oS (g p.2) fun q=>Q (p.1 :: q.1,q.2):=by unfold aa;simp only [aC,au]
theorem yk{f:Fe}{Q}:oS (ftB f ρ) Q ↔ oS (f ρ) fun p=>oS (match p.1 with | .d (.bool b)=>some (b,p.2) | _=>none) Q:=aC
theorem ym{f:Fe}{Q}:oS (ftV f ρ) Q ↔ oS (f ρ) fun p=>oS (rdW p.2 p.1) fun x=>oS (tru x) fun b=>Q (b,p.2):=by unfold ftV;simp only [aC,au]
theorem kI{f:Ft}{Q}:oS (ig f ρ) Q ↔ oS (f ρ) fun p=>Q (!p.1,p.2):=by unfold ig;simp only [aC,au]
theorem kJ{f g:Ft}{Q}:oS (rR f g ρ) Q ↔ oS (f ρ) fun p=>oS (if p.1=true then g p.2 else some (false,p.2)) Q:=aC
theorem qg{f g:Ft}{Q}:oS (Ht f g ρ) Q ↔ oS (f ρ) fun p=>oS (if p.1=true then some (true,p.2) else g p.2) Q:=aC
theorem yn{Q}:oS (l4 ρ) Q ↔ Q (true,ρ):=au
theorem qh{f g:Fe}{Q}:oS (vE f g ρ) Q ↔ oS (ftB f ρ) fun p=>oS (if p.1=true then g p.2 else some (.d (.bool false),p.2)) Q:=aC
theorem yo{f g:Fe}{Q}:oS (LZ f g ρ) Q ↔ oS (ftB f ρ) fun p=>oS (if p.1=true then some (.d (.bool true),p.2) else g p.2) Q:=aC
theorem qi{f:Fe}{Q}:oS (Gd f ρ) Q ↔ oS (ftB f ρ) fun p=>Q (.d (.bool (!p.1)),p.2):=by unfold Gd;simp only [aC,au]
theorem qj{t:Ft}{f g:Fe}{Q}:oS (N6 t f g ρ) Q ↔ oS (t ρ) fun p=>oS (if p.1=true then f p.2 else g p.2) Q:=aC
theorem iq{g g':List D->Option W}{fa fb fc:Fe}{Q}:oS (my g g' fa fb fc ρ) Q ↔ oS (aa fa (aa fb aj) ρ) fun p=>oS (cu p.2 p.1) fun xs=>oS (g xs) fun w=>oS (match w with
 | .d (.bool true)=>(fc p.2).bind fun q=>match p.1 with
  | [_,y]=>(cu q.2 [y,q.1]).bind fun ys=>(g' ys).bind fun w=>some (w,q.2)
  | _=>none
 | .d (.bool false)=>some (.d (.bool false),p.2)
 | _=>none) Q:=by unfold my;simp only [aC] <;> exact Iff.rfl
theorem qk{f:Fa}{Q}:oS (eM f ρ) Q ↔ oS (f ρ) fun p=>oS (bw p.2 p.1) fun q=>q.1.length <= 16777216 /\ Q (.d (.tuple q.1),q.2):=by unfold eM;simp only [aC,aE,au]
theorem ql{f:Fa}{Q}:oS (eK f ρ) Q ↔ oS (f ρ) fun p=>oS (bw p.2 p.1) fun q=>q.1.length <= 16777216 /\ Q (.fr q.1,q.2):=by unfold eK;simp only [aC,aE,au]
theorem gW{F:Fn}{f:Fa}{Q}:oS (aw F f ρ) Q ↔ oS (f ρ) fun p=>oS (gz p.2 p.1) fun as=>(slots p.1).Nodup /\ oS (F as) fun r=>r.2.length=p.1.length /\ Q (r.1,putBack p.2 p.1 r.2):=by unfold aw;simp only [aC,aE,au]
theorem qm{n:String}{f:Fe}{Q}:oS (mE n f ρ) Q ↔ oS (f ρ) fun p=>oS (rdW p.2 p.1) fun x=>oS (wF n x) fun b=>Q (.d (.bool b),p.2):=by unfold mE;simp only [aC,au]
theorem qo{Q}:oS (foN ρ) Q ↔ Q (none,ρ):=au
theorem qp{f:Fe}{Q}:oS (foS f ρ) Q ↔ oS (f ρ) fun p=>oS (match p.1 with | .d (.int i)=>some (some i,p.2) | _=>none) Q:=aC
theorem yp{f:Fe}{l h:Fo}{Q}:oS (yy f l h ρ) Q ↔ oS (f ρ) fun p=>oS (l p.2) fun l=>oS (h l.2) fun u=>oS (rdW u.2 p.1) fun x=>oS (gSl x l.1 u.1) fun w=>Q (w,u.2):=by unfold yy;simp only [aC,au]
theorem kK{m:List D->List D->Option (D × List D)}{fo:Fe}{fa:Fa}{Q}:oS (jE m fo fa ρ) Q ↔ oS (fo ρ) fun p=>oS (match p.1 with
 | .sl i=>if (kF p.2 i).isSome then (fa p.2).bind fun q=>(bw q.2 q.1).bind fun z=>(kF z.2 i).bind fun xs=>(m xs z.1).bind fun r=>some (.d r.1,z.2.set i (some (.fr r.2))) else none
 | _=>none) Q:=aC
theorem yq{m:D->List D->Option D}{fo:Fe}{fa:Fa}{Q}:oS (HA m fo fa ρ) Q ↔ oS (fo ρ) fun p=>oS (match p.1 with
 | .d (.str z)=>(fa p.2).bind fun q=>(cu q.2 q.1).bind fun ys=>(m (.str z) ys).bind fun x=>some (.d x,q.2)
 | _=>none) Q:=aC
theorem ir{x:Str}{f:Fe}{Q}:oS (vL x f ρ) Q ↔ oS (f ρ) fun p=>oS (f7 p.2 p.1) fun z=>Q (.d (.dict [(.str x,z.1)]),z.2):=by unfold vL;simp only [aC,au]
theorem qr{f g:Fe}{Q}:oS (Gs f g ρ) Q ↔ oS (aa f (aa g aj) ρ) fun p=>oS (cu p.2 p.1) fun xs=>oS (match xs with
 | [.tuple xs,.int k]=>if k = -1 then some (.d (.tuple xs.reverse),p.2) else none
 | _=>none) Q:=by unfold Gs;simp only [aC] <;> exact Iff.rfl
theorem kL{f:Fe}{Q}:oS (jg f ρ) Q ↔ oS (f ρ) fun p=>oS (f7 p.2 p.1) fun z=>oS (itemsOf z.1) fun xs=>Q (xs,z.2):=by unfold jg;simp only [aC,au]
theorem yr{f:Fa}{Q}:oS (vp f ρ) Q ↔ oS (f ρ) fun p=>oS (cu p.2 p.1) fun xs=>oS (match xs with
 | [.int j]=>if j < 2 ^ 62 /\ -(2 ^ 62) <= j then some (jA 0 j.toNat,p.2) else none
 | _=>none) Q:=by unfold vp;simp only [aC] <;> exact Iff.rfl
theorem kM{f:Fe}{Q}:oS (w9 f ρ) Q ↔ oS (jg f ρ) fun p=>Q (rH p.1,p.2):=by unfold w9;simp only [aC,au]
theorem qt{f g:Fe}{Q}:oS (Pe f g ρ) Q ↔ oS (aa f (aa g aj) ρ) fun p=>oS (bw p.2 p.1) fun z=>oS (match z.1 with
 | [x,y]=>(itemsOf x).bind fun xs=>(itemsOf y).bind fun ys=>some (SW xs ys,z.2)
 | _=>none) Q:=by unfold Pe;simp only [aC] <;> exact Iff.rfl
theorem Cj{i j:Int}{Q}:oS (F6 [.int i,.int j]) Q ↔ 0 < j /\ Q (.d (.int (i % j))):=by
 show oS (if decide (0 < j)=true then _ else none) Q ↔ _
 rw [aE,au];simp
theorem Ck{i j:Int}{Q}:oS (N3 [.int i,.int j]) Q ↔ (0 < j /\ j < 1073741824) /\ Q (.d (.int (i / j))):=by
 show oS (if (decide (0 < j) && decide (j < 1073741824))=true then _ else none) Q ↔ _
 rw [aE,au];simp
theorem Cm{i j:Int}{Q}:oS (Hs [.int i,.int j]) Q ↔ ((-(2 ^ 64) < i /\ i < 2 ^ 64) \/ (-(2 ^ 64) < j /\ j < 2 ^ 64)) /\ Q (.d (.int (i * j))):=by
 show oS (if ((decide (-(2 ^ 64) < i) && decide (i < 2 ^ 64)) || (decide (-(2 ^ 64) < j) && decide (j < 2 ^ 64)))=true then _ else none) Q ↔ _
 rw [aE,au];simp
theorem Cn{i j:Int}{Q}:oS (uG [.int i,.int j]) Q ↔ Q (.d (.int (i - j))):=au
theorem Co{i j:Int}{Q}:oS (j4 [.int i,.int j]) Q ↔ Q (.d (.int (i + j))):=au
theorem wB{a b:List D}{Q}:oS (j4 [.tuple a,.tuple b]) Q ↔ a.length + b.length <= 16777216 /\ Q (.d (.tuple (a ++ b))):=by
 show oS (if _ then _ else none) Q ↔ _
 rw [aE,au]
theorem wC{a b:List D}{Q}:oS (j4 [.list a,.list b]) Q ↔ a.length + b.length <= 16777216 /\ Q (.fr (a ++ b)):=by
 show oS (if _ then _ else none) Q ↔ _
 rw [aE,au]
theorem wD{a b:Str}{Q}:oS (j4 [.str a,.str b]) Q ↔ a.length + b.length <= 16777216 /\ Q (.d (.str (a ++ b))):=by
 show oS (if _ then _ else none) Q ↔ _
 rw [aE,au]
theorem Cp{p:Int->Int->Bool}{q:List Nat->List Nat->Bool}{i j:Int}{Q}:oS (nV p q [.int i,.int j]) Q ↔ Q (.d (.bool (p i j))):=au
theorem Cq{i j:Int}{Q}:oS (lZ [.int i,.int j]) Q ↔ Q (.d (.bool (i == j))):=by
 show oS (gEq false [.int i,.int j]) Q ↔ _
 show oS (if SeqAt.shaped (.int i)=true /\ SeqAt.shaped (.int j)=true then some (W.d (PyData.bool (PyData.eqv (.int i) (.int j) != false))) else none) Q ↔ _
 rw [if_pos ⟨rfl,rfl⟩,au]
 simp [PyData.eqv]
theorem Cr{i j:Int}{Q}:oS (gEq true [.int i,.int j]) Q ↔ Q (.d (.bool (!(i == j)))):=by
 show oS (if SeqAt.shaped (.int i)=true /\ SeqAt.shaped (.int j)=true then some (W.d (PyData.bool (PyData.eqv (.int i) (.int j) != true))) else none) Q ↔ _
 rw [if_pos ⟨rfl,rfl⟩,au]
 simp [PyData.eqv]
theorem Cs{xs:List D}{i:Int}{Q}:oS (gIx [.list xs,.int i]) Q ↔ oS (atI xs i) fun x=>Q (.d x):=by
 show oS ((atI xs i).bind _) Q ↔ _
 rw [aC];simp only [au]
theorem Ct{xs:List D}{i:Int}{Q}:oS (gIx [.tuple xs,.int i]) Q ↔ oS (atI xs i) fun x=>Q (.d x):=by
 show oS ((atI xs i).bind _) Q ↔ _
 rw [aC];simp only [au]
theorem Cu{xs:List D}{i:Int}{Q}:oS (gIx [.dict [(.none,.list xs)],.int i]) Q ↔ oS (atI xs i) fun x=>Q (.d x):=by
 show oS ((atI xs i).bind _) Q ↔ _
 rw [aC];simp only [au]
theorem iT{α:Type}{xs:List α}{i:Int}{Q:α->Prop}(h0:0 <= i)(h1:i < xs.length)(h:∀ x,x ∈ xs->xs[i.toNat]? = some x->Q x):oS (atI xs i) Q:=by
 unfold atI ixN
 rw [if_pos h0,if_pos h1,Option.bind_some]
 have hl:i.toNat < xs.length:=by omega
 exact ⟨xs[i.toNat],List.getElem?_eq_getElem hl,h _ (List.getElem_mem hl) (List.getElem?_eq_getElem hl)⟩
theorem nK{α:Type}{a:α}{xs:List α}:atI (a :: xs) 0=some a:=by
 unfold atI ixN
 rw [if_pos (by decide),if_pos (by simp <;> omega)]
 rfl
theorem nL{α:Type}{a b:α}{xs:List α}:atI (a :: b :: xs) 1=some b:=by
 unfold atI ixN
 rw [if_pos (by decide),if_pos (by simp <;> omega)]
 rfl
theorem nM{α:Type}{a b c:α}{xs:List α}:atI (a :: b :: c :: xs) 2=some c:=by
 unfold atI ixN
 rw [if_pos (by decide),if_pos (by simp <;> omega)]
 rfl
theorem nN{α:Type}{a b c d:α}{xs:List α}:atI (a :: b :: c :: d :: xs) 3=some d:=by
 unfold atI ixN
 rw [if_pos (by decide),if_pos (by simp <;> omega)]
 rfl
theorem iu{α:Type}{b:Bool}{x y:Option α}{Q:α->Prop}:oS (if b=true then x else y) Q ↔ if b=true then oS x Q else oS y Q:=Q6
end
end
end L2.Q3
end
section
namespace L2
open PySem PySem.Spec PyProof.Rows
section
structure uN (X:Cx):Prop where
 ex:∃ P,Tab X.K X.mg false P /\ AB X.K X.env.code P
section
variable {X:Cx} {pins:List (Addr × Obj)} {σ:St} {H:Hp} {s:Shared}
theorem KA {A : Around} {pos : Pos} {qn : Str} {scope : Scope} {Q : Value -> Shared -> Prop} {E : Value -> Shared -> Prop} (I : Inv X pins σ H s) (G : uN X)
    (hQ:∀ code s',Inv X pins σ H s'->(∀ b o,H b=none->s.heap.get? b=some o->s'.heap.get? b=some o)->s'.gens=s.gens->Q code s') :
    wpAny (model X.prog X.w) A (genexprCode X.env pos qn scope) Q E s:=by
 obtain ⟨P,hT,c,oc,od,vs,sl,hc,lk,h11,hcl,h11',⟨f1,f2,h18⟩,⟨g1,g2,h7⟩,⟨k1,h9⟩,t1,t2,h10⟩:=G.ex
 obtain ⟨ps,hP,hfl⟩:=I.tabs P false hT
 obtain ⟨qs,ePt,tri,_⟩:=I.hok P _ hP
 have ec:s.heap.get? c=some ⟨oc,od,.fields vs,sl⟩:=I.kIn c _ lk
 have nc:H c=none:=(I.bs c _ (I.ok.mod.kin c _ lk)).2
 have hne:c ≠ P:=fun e=>by rw [e,hP] at nc;cases nc
 have hcode:s.heap.IsCode c P qs:=⟨_,vs,f1,f2,g1,g2,k1,t1,t2,_,ec,rfl,h11,h18,h7,h9,h10,ePt,rfl,tri,hne⟩
 have htab:s.heap.TableAt c P qs:=⟨⟨_,vs,ec,hcl,rfl,h11'⟩,ePt⟩
 cases hnf:codeAmong pos qs.toList with
 | some cv =>
  unfold genexprCode codeAt
  rw [hc,if_neg (show ¬ ((Value.ref c == Value.none)=true) from Bool.false_ne_true)]
  refine wpAny_bind (wpAny_fieldsOf ec rfl ?_)
  rw [h11]
  refine wpAny_bind (wpAny_fieldsOf ePt rfl ?_)
  rw [hnf]
  exact wpAny_pure (hQ cv s I (fun _ _ _ e=>e) rfl)
 | none =>
  refine wpAny_genexprCodeX hc hcode htab hnf fun c' h' tk hx hge hlt hcode' _ htab' _=>?_
  obtain ⟨_,_,_,_,_,_,_,_,_,op,_,_,_,_,_,_,_,e1,e2,tri',_⟩:=hcode'
  have kp:∀ b o,H b=none->s.heap.get? b=some o->h'.get? b=some o:=fun b o n e=>hx b o (fun z=>by rw [z,hP] at n;cases n) e
  obtain ⟨m,⟨oL,es,ep,hL,rL⟩,_⟩:=id I.loc
  refine hQ _ _ (I.step (g':=s.gens) (d':=s.drawn) (t':=tk) (h':=h') (H':=H) (ch:=[]) (fun _ z=>nomatch z) (fun b o _ _ _ e n=>kp b o n e) (fun b o _ _ _ e n=>⟨o.slots,kp b o n e⟩) (fun _ _ _ _ n=>n)
   (fun b o _ e=>?_) (fun _ _ e=>e) (fun _ _ _ e=>e) (fun b ps e=>⟨#[],by rw [e];simp⟩) (fun m' hm=>?_) (fun b u e=>?_) I.bare.self) kp rfl
  . by_cases hb:b=P
    . rw [hb];exact ⟨_,htab'.2⟩
    . exact ⟨o,hx b o hb e⟩
  . obtain ⟨o',es',ep',ho',r'⟩:=hm
    exact ⟨o',es',ep',kp _ _ I.free ho',r'⟩
  . by_cases hb:b=P
    . subst hb
      rw [hP] at e
      cases e
      refine ⟨_,htab'.2,?_,fun z=>by rw [hfl] at z;cases z⟩
      have e3:=htab'.2
      rw [e1] at e3
      cases e3
      cases e2
      exact tri'
    . refine (I.hok b u e).xy (fun d v hd q=>hx d v ?_ q) (fun _ q=>q) (fun _ _ q=>q) fun _ _ q=>q
      rcases hd with rfl | hd
      . exact hb
      . intro z;rw [z,hP] at hd;cases hd
theorem MZ{A:Around}{Q:Addr->Shared->Prop}{E:Value->Shared->Prop}(I:Inv X pins σ H s)(h:Q builtinsNs s):wpAny (model X.prog X.w) A (builtinsFor X.env.globals X.env.builtins) Q E s:=by
 obtain ⟨bm,ob,h1,h2,h3,h4,h5,h6⟩:=I.mod.bmain
 rw [I.ok.glob]
 exact wpAny_builtinsFor (I.mod.glob.keeps I.bk) h1 h2 (I.bk _ _ h3) h4 h5 h6 h
end
abbrev Cx.n0(X:Cx)(s:Shared)(gs:Array GenState)(H:Hp)(scope:Scope)(genv:Env)(fp:List Addr)(A':Around):Cx :=
 { X with A:=A',s_0:={ s with gens:=gs },H_0:=H,env:=genv,outer:=X.stack,stack:=genv :: X.stack,ex:=fp,fn:=fun x=>scope.names.lookup x == some .cell,pn:=[],xe:=fun _ _=>False }
section
variable {X:Cx} {pins:List (Addr × Obj)} {σ:St} {H:Hp} {s:Shared}
theorem C3 {scope : Scope} {own : List (Str × Nat)} {fp : List Addr} {A' : Around} {code : Value} {gs : Array GenState} {h5 : Heap} {tk : Nat} {m0 : Str -> Option Value} {a : Addr} {go : Obj} {genv : Env}
    (I:Inv X pins σ H s) (ok:gF X.N X.env.scope scope own) (hN:X.N.Nodup) (hcell:∀ y ∈ scope.names,y.2 ≠ .cell) (hfp:∀ b ∈ fp,mH X pins H b /\ b < s.heap.objs.size)
    (he:genv=genEnv scope (aW X.env.cells scope.names []) s.heap.objs.size code builtinsNs X.env) (hA:A'.frames=some (genv :: X.stack)) (hh:A'.handled=none) (hgs:GB s.gens gs)
    (kp:∀ b o,s.heap.get? b=some o->h5.get? b=some o) (hns:h5.Ns s.heap.objs.size m0) (ha:h5.get? a=some go) (ha1:s.heap.objs.size < a) (hgo:∀ v,go.data ≠ .cell v) :
    Inv (X.n0 s gs H scope genv fp A') [(a,go)] (wipe σ (own.map (·.2))) H { s with heap:=h5,gens:=gs,toks:=tk }:=by
 have hfree:∀ y ∈ scope.names,y.2 = .free->∃ c,X.env.cells.lookup y.1=some c:=fun y hy e=>by
  rcases ok.free y hy e with k | k
  . exact I.ok.has _ (.inl k)
  . exact I.ok.has _ (.inr k)
 have hL:genv.locals=s.heap.objs.size:=by rw [he];rfl
 have hcl:genv.cells=aW X.env.cells scope.names []:=by rw [he];rfl
 have hsc:genv.scope=scope:=by rw [he];rfl
 have hfr:genv.frame=some s.heap.objs.size:=by rw [he];rfl
 have cm:∀ {y c},(y,c) ∈ aW X.env.cells scope.names []->X.env.cells.lookup y=some c /\ c < s.heap.objs.size:=fun {y c} hm=>by
  rcases i6 hm with hm | ⟨h1,rfl⟩
  . cases hm
  . obtain ⟨c,hc⟩:=hfree _ h1 rfl
    rw [hc]
    obtain ⟨w,z⟩:=I.cell _ _ hc
    exact ⟨rfl,z.lt⟩
 have mem:∀ {y c},genv.cells.lookup y=some c->X.env.cells.lookup y=some c /\ c < s.heap.objs.size:=fun {y c} e=>by
  rw [hcl] at e
  exact cm (PySem.mem_of_lookup e)
 have look:∀ {y},scope.names.lookup y=some .free->∃ c,genv.cells.lookup y=some c /\ X.env.cells.lookup y=some c:=fun {y} hl=>by
  have hy:(y,NameKind.free) ∈ scope.names:=PySem.mem_of_lookup hl
  obtain ⟨c',e'⟩:=mem_lookup (jO (cells:=X.env.cells) (acc:=[]) hy)
  rw [<- hcl] at e'
  exact ⟨c',e',(mem e').1⟩
 have nocell:∀ y,scope.names.lookup y ≠ some .cell:=fun y e=>hcell _ (PySem.mem_of_lookup e) rfl
 have okB:(X.n0 s gs H scope genv fp A').Ok:=by
  refine ⟨I.ok.mod,by show genv.scope.kind=_;rw [hsc];exact ok.kind,by show genv.globals=_;rw [he];exact I.ok.glob,by show genv.builtins=_;rw [he];rfl,by show s.heap.objs.size <= genv.locals;rw [hL];exact Nat.le_refl _,
   fun y z c e1 e2=>I.ok.inj y z c (mem e1).1 (mem e2).1,fun y hy=>?_,fun y c z e=>?_,fun _=>hh,hA,.inr ⟨rfl,by show genv.frame=some genv.locals;rw [hfr,hL]⟩,fun b hb=>⟨?_,fun y c e z=>?_⟩,I.bs,Nat.le_trans I.ok.bsz I.sz,fun b o e hb=>?_,fun b hb z=>?_,I.stack,I.uO,I.tabs⟩
  . have hy:scope.names.lookup y=some .cell \/ scope.names.lookup y=some .free:=by
     have hy':genv.scope.names.lookup y=some .cell \/ genv.scope.names.lookup y=some .free:=hy
     rw [hsc] at hy';exact hy'
    rcases hy with hy | hy
    . exact absurd hy (nocell y)
    . obtain ⟨c,h1,_⟩:=look hy
      exact ⟨c,h1⟩
  . have z:(scope.names.lookup y == some NameKind.cell)=true:=z
    exact absurd (by simpa using z) (nocell y)
  . show b ≠ genv.locals
    rw [hL];exact Nat.ne_of_lt (hfp b hb).2
  . exact (hfp b hb).1.2.2.2.2.1 y c (mem e).1 z
  . rcases (hfp b hb).1.2.2.2.1 with z | z
    . exact I.ok.Gz b o e z
    . exact absurd (Nat.lt_of_lt_of_le (Heap.lt_size e) (Nat.le_trans I.ok.bsz z)) (Nat.lt_irrefl _)
  . rcases List.mem_cons.mp (I.tW b z) with z | z
    . exact (hfp b hb).1.2.1 z
    . exact (hfp b hb).1.2.2.1 z
 refine ⟨okB,rfl,⟨hgs.1,Nat.le_refl _⟩,Un.kept kp,⟨m0,?_,fun i y av e1 e2 e3=>?_⟩,fun y c e=>?_,?_,fun y c e=>?_,fun p hp=>?_,I.hok.kept kp,by rw [aR];exact I.len⟩
 . show Heap.Ns _ genv.locals _
   rw [hL];exact hns
 . obtain ⟨e2,hne⟩:=bY e2
   have e3:Vis genv.scope y:=e3
   rw [hsc] at e3
   have no:∀ k,scope.names.lookup y=some k->¬ (k = .local \/ k = .cell):=fun k e hh=>by
    rcases ok.own _ (PySem.mem_of_lookup e) hh with e' | e'
    . obtain ⟨p,hp,hpy⟩:=List.mem_map.mp e'
      have e4:=ok.ix p hp
      have:p.1=y:=hpy
      rw [this] at e4
      exact hne (List.mem_map.mpr ⟨p,hp,uP hN e4 e1⟩)
    . exact e' (List.mem_of_getElem? e1)
   have hfr:scope.names.lookup y=some .free:=by
    rcases e3 with e3 | e3 | e3
    . exact absurd (.inl rfl) (no _ e3)
    . exact absurd (.inr rfl) (no _ e3)
    . exact e3
   obtain ⟨m,hn,hl⟩:=I.loc
   have hvis:Vis X.env.scope y:=(ok.free _ (PySem.mem_of_lookup hfr) rfl).elim (fun k=>.inr (.inl k)) (fun k=>.inr (.inr k))
   obtain ⟨w,r,q⟩:=hl i y av e1 e2 hvis
   refine ⟨w,r,.inr ⟨.inr (by show genv.scope.names.lookup y=_;rw [hsc];exact hfr),?_⟩⟩
   obtain ⟨c,h1,h2⟩:=look hfr
   rcases q with ⟨k,_⟩ | ⟨_,c',e',z⟩
   . have k:X.env.scope.names.lookup y=some .local:=k
     rcases ok.free _ (PySem.mem_of_lookup hfr) rfl with k' | k' <;> rw [show X.env.scope.names.lookup y=_ from k'] at k <;> cases k
   . rw [h2] at e';cases e'
     exact ⟨c,h1,z.keeps kp⟩
 . obtain ⟨w,z⟩:=I.cell y c (mem e).1
   exact ⟨w,z.keeps kp⟩
 . show H genv.locals=none
   rw [hL];exact I.hok.fresh (Nat.le_refl _)
 . exact I.kR y c (mem e).1
 . have hp:p=(a,go):=by simpa using hp
   subst hp
   refine ⟨ha,I.hok.fresh (Nat.le_of_lt ha1),?_,?_,hgo⟩
   . show a ≠ genv.locals
     rw [hL];exact Nat.ne_of_gt ha1
   . intro z
     have z':a ∈ frs X.stack:=z
     rcases List.mem_cons.mp (I.tW a z') with z2 | z2
     . exact absurd (Nat.lt_trans I.lt ha1) (by rw [z2];exact Nat.lt_irrefl _)
     . exact I.Ph (Nat.le_of_lt ha1) z2
theorem Inv.setGen{g:Nat}{x:GenState}(I:Inv X pins σ H s)(hx:x.bare=true):Inv X pins σ H (s.setGen g x):=by
 refine ⟨I.ok,I.os,⟨fun y hy=>?_,?_⟩,I.base,I.loc,I.cell,I.free,I.kR,I.pin,I.hok,I.len⟩
 . have hy:y ∈ s.gens.setIfInBounds g x:=hy
   rcases Array.mem_or_eq_of_mem_setIfInBounds hy with z | z
   . exact I.bare.1 y z
   . rw [z];exact hx
 . show X.s_0.gens.size <= (s.gens.setIfInBounds g x).size
   rw [Array.size_setIfInBounds];exact I.bare.2
end
end
section
theorem Jg (elt target iter : Expr) (ifs : List Expr) (cls : List Comprehension) (scope : Scope) (pos : Pos) (env : Env) (hco : scope.isCoroutine = false) :
    eval (.GeneratorExp elt (⟨target,iter,ifs,0⟩ :: cls) scope pos) env=(do
     let x <- eval iter env
     standAt iter.pos
     let x <- genFold iter env x
     let it <- holding [x] (pyIter x)
     enterFrame
     let cl <- closureFor scope env
     let code <- genexprCode env pos (env.qual ++ "<genexpr>") scope
     let bi <- builtinsFor env.globals env.builtins
     let cenv <- newFunctionEnv scope env.globals cl [(".0",it)] (env.qual ++ "<genexpr>.") none code none bi
     newGenerator (.compStart (.GeneratorExp elt (⟨target,iter,ifs,0⟩ :: cls) scope pos) 0 it .none cenv) "<genexpr>" (env.qual ++ "<genexpr>")):=by
 rw [arm_eval_GeneratorExp]
 simp only [hco,Bool.false_eq_true,if_false]
 cases iter <;> rfl
section
variable {M:Model} {A:Around} {E:Value->Shared->Prop} {s:Shared}
theorem xA {env : Env} {elt target iter : Expr} {ifs : List Expr} {cls : List Comprehension} {scope : Scope} {cl : List (Str × Addr)} {pos : Pos} {Q : Value -> Shared -> Prop}
    (hco:scope.isCoroutine=false) (hclos:closureFor scope env=pure cl) (hcell:∀ y ∈ scope.names,y.2 ≠ .cell) (h0:scope.names.lookup (".0" : Str)=some NameKind.local) (hkind:scope.kind = .function)
    (hroom:A.depth < recursionLimit)
    (h:wpAny M A (eval iter env) (fun xv s₁=>wpAny M A (pyIter xv) (fun it s₂=>s₂.heap.NoLimit /\
     wpAny M A (genexprCode env pos (env.qual ++ "<genexpr>") scope) (fun code s₃=>wpAny M A (builtinsFor env.globals env.builtins) (fun bi s₄ =>
      ∀ h',h'.Ns s₄.heap.objs.size (fun y=>if y = ".0" then some it else none)->Heap.SameBut s₄.heap.objs.size (s₄.heap.push { cls:=.type "frame",data:=.dict #[] }) h' ->
       Q (.ref h'.objs.size) { s₄ with
        gens:=s₄.gens.push (.fresh (.compStart (.GeneratorExp elt (⟨target,iter,ifs,0⟩ :: cls) scope pos) 0 it .none (genEnv scope cl s₄.heap.objs.size code bi env))),
        toks:=s₄.toks + 1 + 1 + 1,
        heap:=h'.push { cls:=.type "generator",data:=.fields #[.int s₄.gens.size 0,.str "<genexpr>" (s₄.toks + 1),.str (env.qual ++ "<genexpr>") (s₄.toks + 1 + 1)] } }) E s₃) E s₂) E s₁) E s)
    (hs:∀ x,genFold iter env x=pure x) :
    wpAny M A (eval (.GeneratorExp elt (⟨target,iter,ifs,0⟩ :: cls) scope pos) env) Q E s:=by
 rw [Jg _ _ _ _ _ _ _ _ hco,hclos]
 refine wpAny_bind (wpAny_mono h (fun xv s₁ h₁=>?_) fun _ _ e=>e)
 refine wpAny_bind (wpAny_standAt ?_)
 refine wpAny_bind (wpAny_of_eq (hs xv) ?_)
 refine wpAny_bind (wpAny_holding (wpAny_mono h₁ (fun it s₂ h₂=>?_) fun _ _ e=>e))
 refine wpAny_bind (wpAny_enterFrame h₂.1 hroom ?_)
 refine wpAny_bind (wpAny_pure ?_)
 refine wpAny_bind (wpAny_mono h₂.2 (fun code s₃ h₃=>?_) fun _ _ e=>e)
 refine wpAny_bind (wpAny_mono h₃ (fun bi s₄ h₄=>?_) fun _ _ e=>e)
 have hbinds:∀ y ∈ ([((".0" : Str),it)]:List (Str × Value)),scope.names.lookup y.1=some NameKind.local:=by
  intro y hy
  rcases List.mem_cons.mp hy with rfl | hy
  . exact h0
  . cases hy
 refine wpAny_bind (wpAny_newFunctionEnv hcell hbinds (fun h' hn' hs'=>?_) hkind)
 have e:(fun y:Str=>([((".0" : Str),it)]:List (Str × Value)).reverse.lookup y)=fun y:Str=>if y=(".0" : Str) then some it else none:=by
  funext y
  by_cases hy:y = ".0"
  . subst hy;simp
  . have:(y == (".0" : Str))=false:=by simpa using hy
    simp [List.lookup,this,hy]
 rw [e] at hn'
 simp only [newGenerator,newFields]
 refine wpAny_bind (wpAny_newGen (wpAny_bind (wpAny_mkText (wpAny_bind (wpAny_mkText (wpAny_newObj_type ?_ (by size_fits)))))))
 exact h₄ h' hn' hs'
end
theorem uQ {M : Model} {A A0 : Around} {R : GenEnd} {Y : Protocol} {n : Nat} {s₀ : Shared} {c : Code} {fs : List Frame} {s : Shared} {α β : Type} {m : Sem α} {K : α -> Sem β} {K' : β -> Sem Fin} {H' : Value -> Sem Fin} {gd lv} {Q : α -> Shared -> Prop}
    (hA:A0=A.over c fs) (h:wpAny M A0 m Q (fun _ _=>False) s) (hQ:∀ a s',Q a s'->Seg M A R Y n s₀ c ((K a).wrap K' H' gd lv) fs s'):Seg M A R Y n s₀ c ((m >>= K).wrap K' H' gd lv) fs s:=by
 subst hA
 exact seg_bind_wrap (Ey h hQ)
structure GS (Xg:Cx) (pa:Addr × Obj) (pins:List (Addr × Obj)) (σ':St) (fpA:List Addr) (Stt:Heap->Prop) (H:Hp) (s:Shared):Prop where
 mem:pa ∈ pins
 inv:Inv Xg pins σ' H s
 st:Stt s.heap
 keep:∀ h h',Stt h->(∀ b ∈ fpA,∀ o,h.get? b=some o->h'.get? b=some o)->Stt h'
 non:∀ b ∈ fpA,H b=none
abbrev GC:=V->Hp->(Hp->Prop)->Prop
def gY(Xg:Cx)(pa:Addr × Obj)(C:GC):Protocol:=fun _ _ v s kap =>
 ∃ (pins:List (Addr × Obj)) (σ':St) (fpA:List Addr) (Stt:Heap->Prop) (y:V) (H4:Hp) (Nx:Hp->Prop),GS Xg pa pins σ' fpA Stt H4 s /\ RelV y v /\ C y H4 Nx /\
  ∀ (s'':Shared) (H5:Hp),GS Xg pa pins σ' fpA Stt H5 s''->Nx H5->kap (.send .none) s''
def gP(Xg:Cx)(pa:Addr × Obj)(Qe:Hp->Prop):Nat->Shared->Shared->Prop:=fun _ _ s₁=>∃ pins σ' H,pa ∈ pins /\ Inv Xg pins σ' H s₁ /\ Qe H
abbrev gR(P:Nat->Shared->Shared->Prop):GenEnd:=fun n s₀ r s₁=>r = .ok .next /\ P n s₀ s₁
theorem M0{g:Nat}{s:Shared}{x:GenState}(h:g < s.gens.size):(s.setGen g x).gens[g]? = some x:=by simp [Shared.setGen,h]
section
variable {Xg:Cx} {pa:Addr × Obj} {pins:List (Addr × Obj)} {σ':St} {fpA:List Addr} {Stt:Heap->Prop} {H:Hp} {s:Shared} {g:Nat} {C:GC} {Qe:Hp->Prop} {A:Around}
theorem GS.set{x:GenState}(h:GS Xg pa pins σ' fpA Stt H s)(hx:x.bare=true):GS Xg pa pins σ' fpA Stt H (s.setGen g x):=⟨h.mem,h.inv.setGen hx,h.st,h.keep,h.non⟩
theorem Rh {n : Nat} {gs : GenState} {Q : Option Value -> Shared -> Prop} {E : Value -> Shared -> Prop} (hh : A.handled = none) (hroom : A.depth < recursionLimit) (hgo : ∀ h : Heap, h.get? pa.1 = some pa.2 -> h.IsGen pa.1 g) (hgl : g < Xg.s_0.gens.size)
    (G:GS Xg pa pins σ' fpA Stt H s) (hgs:s.gens[g]? = some gs) (hgoes:gs.Goes (model Xg.prog Xg.w) A.in1 (gR (gP Xg pa Qe)) (gY Xg pa C) n (.send .none) (s.setGen g .running))
    (hQe:∀ s' pins σ' H',pa ∈ pins->Inv Xg pins σ' H' s'->Qe H'->Q none s')
    (hY:∀ v s' y H4 Nx pins σ' fpA Stt gs',GS Xg pa pins σ' fpA Stt H4 s'->RelV y v->C y H4 Nx->s'.gens[g]? = some gs' ->
     (∀ s'' H5,GS Xg pa pins σ' fpA Stt H5 s''->Nx H5->∃ m,n=m + 1 /\ gs'.Goes (model Xg.prog Xg.w) A.in1 (gR (gP Xg pa Qe)) (gY Xg pa C) m (.send .none) s'')->Q (some v) s') :
    wpAny (model Xg.prog Xg.w) A (pyNext (.ref pa.1)) Q E s:=by
 refine wpAny_pyNext_genexpQ (P:=gP Xg pa Qe) hh G.inv.nolimit hroom (hgo _ (G.inv.pin _ (List.mem_append_right _ G.mem)).1) hgs hgoes (fun v s1 gs' hb hv=>?_) (fun s1 hp h' hk=>?_)
 . obtain ⟨pins,σ',fpA,Stt,y,H4,Nx,G4,r4,c4,kap⟩:=hv
   refine hY v _ y H4 Nx pins σ' fpA Stt gs' (G4.set hb) r4 c4 (M0 (Nat.lt_of_lt_of_le hgl G4.inv.bare.2)) fun s'' H5 G5 nx=>?_
   have z:=kap s'' H5 G5 nx
   cases n with
   | zero=>exact z.elim
   | succ m=>exact ⟨m,rfl,z⟩
 . obtain ⟨pins,σ',H1,hm,I1,qe⟩:=hp
   exact hQe _ pins σ' H1 hm ((I1.setGen (g:=g) (x:=.finished) rfl).kept (t':=s1.toks) hk) qe
end
end
section
theorem Inv.atA{X:Cx}{pins:List (Addr × Obj)}{σ:St}{H:Hp}{s:Shared}(A':Around)(hf:A'.frames=X.A.frames)(hh:A'.handled=none)(I:Inv X pins σ H s):Inv { X with A:=A' } pins σ H s :=
 ⟨⟨I.ok.mod,I.ok.kind,I.ok.glob,I.ok.blt,I.ok.above,I.ok.inj,I.ok.has,I.ok.cab,fun _=>hh,hf.trans I.ok.frames,I.ok.stk,I.ok.exf,I.ok.bs,I.ok.bsz,I.ok.Gz,I.ok.GA,I.ok.xB,I.ok.frf,I.ok.tabs⟩,I.os,I.bare,I.base,I.loc,I.cell,I.free,I.kR,I.pin,I.hok,I.len⟩
def B9(J:It)(g:TG)(tt:TT)(te:TE)(vs:List Nat)(σ:St)(C:GC)(Qe:Nat->Hp->Prop)(W:Nat->Nat->Hp->Prop):Prop :=
 ∀ i m H,W i m H->(J.stop i H /\ Qe m H) \/ (J.go i H /\ ∃ Nx:Hp->Prop,(∀ H',Nx H'->∃ m',m' < m /\ W (i + 1) m' H') /\ ∀ x H',J.yld i H x H'->g x (wipe σ vs) H' fun σ2 H2=>wipe σ2 vs=wipe σ vs /\ tt σ2 H2 fun b H3 =>
  if b=true then te σ2 H3 fun y H4=>C y H4 Nx else Nx H3)
section
variable {P:Program} {w:World} {Xo Xi:Cx} {A1:Around} {c:Code} {fs:List Frame} {genv:Env} {pa:Addr × Obj} {elt tg:Expr} {ifs:List Expr} {it:Addr} {ip:Pos} {J:It} {fp:List Addr} {tn:Nat->Heap->Prop} {T0:Sem Fin} {hx:Value->Sem Unit}
 {g:TG} {tt:TT} {te:TE} {vs:List Nat} {σ:St} {C:GC} {Qe:Nat->Hp->Prop} {W:Nat->Nat->Hp->Prop} {R:GenEnd} {pins0:List (Addr × Obj)}
theorem Ca (eA : Xi.A = A1.over c fs) (eenv : Xi.env = genv) (eprog : Xi.prog = P) (ew : Xi.w = w) (hc : Xi.calm = true) (exe : Xi.xe = fun _ _ => False)
    (hto:∀ pins σ H s,Inv Xo pins σ H s->Inv Xi pins σ H s) (hfrom:∀ pins σ H s,Inv Xi pins σ H s->Inv Xo pins σ H s)
    (hden:(model P w).den c=T0.onRaise hx)
    (hturn:T0=(do
     standAt ip
     match <- pyNext (.ref it) with
     | none=>pure (.done .next)
     | some v =>
      letOwnedTupleGo tg (.ref it) v
      assign tg genv v
      let mut ok:=true
      for c in ifs do
       if ok then ok <- isTrue c genv (eval c genv)
      if ok then
       (do let v <- eval elt genv;standAt elt.pos;let _ <- yieldOut genv v)
      again c))
    (hq:c.quiet=true) (hfs:splitAtGen fs=none) (hfg:fs.any Frame.guarded=false) (hco:genv.scope.isCoroutine=false)
    (pgt:PG Xi tg g) (ptt:PTs Xi ifs tt) (pee:PE Xi elt te) (T:Turn P w Xi.K tg J fp it tn) (hpa:pa ∈ pins0) (f0:∀ H,(∀ b ∈ fp,H b=none)->∀ b ∈ fp,mH Xi pins0 H b) (turn:B9 J g tt te vs σ C Qe W)
    (fin:∀ (m n:Nat),m < n->∀ (s₀ s:Shared) (H:Hp),Inv Xi pins0 (wipe σ vs) H s->Qe m H->Seg (model P w) A1 R (gY Xo pa C) n s₀ c (.pure (.done .next)) fs s) :
    ∀ (m n:Nat),m < n->∀ (i:Nat) (s₀ s:Shared) (H:Hp),Inv Xi pins0 (wipe σ vs) H s->tn i s.heap->(∀ b ∈ fp,H b=none)->W i m H->Seg (model P w) A1 R (gY Xo pa C) n s₀ c ((model P w).den c) fs s:=by
 subst eprog ew
 intro m
 induction m using Nat.strongRecOn with
 | ind m ih =>
  intro n hmn i s₀ s H I st hn hW
  rw [hden,hturn,Sem.onRaise_eq_wrap]
  refine seg_bind_wrap (wpAny_standAt ?_)
  rcases turn i m H hW with ⟨stop,qe⟩ | ⟨go',Nx,hNx,step⟩
  . have td:=T.done Xi rfl rfl rfl hc i pins0 s _ H (fun _ _=>False) I (f0 H hn) st stop
    refine uQ eA td fun r s1 ⟨hr,I1⟩=>?_
    subst hr
    exact fin m n hmn s₀ s1 H I1 qe
  . have ti:=T.item Xi rfl rfl rfl hc i pins0 s _ H (fun _ _=>False) I (f0 H hn) st go'
    refine uQ eA ti fun r s1 ⟨u,hr,h1⟩=>?_
    subst hr
    refine uQ eA h1 fun _ s2 ⟨x,H2,I2,r2,y2,st2,n2⟩=>?_
    have I2':=I2.pinned (f0 H2 n2) (T.obj _ _ st2)
    have hg2:=pgt _ s2 _ H2 x u _ I2' r2 (step x H2 y2)
    rw [exe,eenv] at hg2
    refine uQ eA hg2 fun _ s3 ⟨σ3,H3,I3,hw3,q3⟩=>?_
    have ht3:=ptt _ s3 σ3 H3 _ I3 q3
    rw [exe,eenv] at ht3
    refine uQ eA ht3 fun b s4 ⟨H4,I4,q4⟩=>?_
    have back:∀ {s':Shared} {H':Hp},Inv Xi (pins0 ++ qx fp s2.heap) σ3 H' s'->Inv Xi pins0 (wipe σ vs) H' s' /\ tn (i + 1) s'.heap /\ ∀ b ∈ fp,H' b=none:=fun {s' H'} I'=>by
     have pin':∀ b ∈ fp,∀ o,s2.heap.get? b=some o->s'.heap.get? b=some o /\ H' b=none:=fun b hb o e =>
      let z:=I'.pin (b,o) (List.mem_append_right _ (List.mem_append_right _ (lC hb e)))
      ⟨z.1,z.2.1⟩
     have hl:(wipe σ vs).length=σ3.length:=by rw [<- hw3,aR]
     refine ⟨(I'.lD (pins:=pins0)).weak hl (fun j v e=>?_),T.keep _ _ _ st2 fun b hb o e=>(pin' b hb o e).1,fun b hb=>?_⟩
     . rw [<- hw3] at e
       exact (bY e).1
     . obtain ⟨o,e,_⟩:=T.obj _ _ st2 b hb
       exact (pin' b hb o e).2
    cases b with
    | false =>
     simp only [Bool.false_eq_true,if_false] at q4 ⊢
     obtain ⟨m',hm,w'⟩:=hNx H4 q4
     obtain ⟨I5,t5,n5⟩:=back I4
     exact seg_again hq (ih m' hm n (by omega) (i + 1) s₀ s4 H4 I5 t5 n5 w')
    | true =>
     simp only [if_true] at q4 ⊢
     have hy:∀ v,yieldOut genv v=yieldValue v:=fun v=>by simp only [yieldOut,hco,Bool.false_eq_true,if_false]
     simp only [hy]
     rw [Sem.bind_eq_wrap',Sem.bind_eq_wrap',Sem.wrap_wrap,Sem.wrap_wrap]
     have he5:=pee _ s4 σ3 H4 _ I4 q4
     rw [exe,eenv,eA] at he5
     refine seg_wrap (Ey he5 fun v s5 ⟨y,H5,I5,r5,c5⟩=>?_)
     obtain ⟨I6,t6,n6⟩:=back I5
     cases n with
     | zero=>exact absurd hmn (Nat.not_lt_zero _)
     | succ n' =>
      refine seg_at (seg_yield hfs rfl hfg ⟨pins0,wipe σ vs,fp,tn (i + 1),y,H5,Nx,⟨hpa,hfrom _ _ _ _ I6,t6,T.keep _,n6⟩,r5,c5,fun s'' H6 G6 nx=>?_⟩)
      obtain ⟨m',hm,w'⟩:=hNx H6 nx
      exact seg_again hq (ih m' hm n' (by omega) (i + 1) s'' s'' H6 (hto _ _ _ _ G6.inv) G6.st G6.non w')
end
end
section
theorem yL (elt t0 i0 t1 i1 : Expr) (ifs0 ifs1 : List Expr) (scope : Scope) (pos : Pos) (it acc : Value) (env : Env) :
    compTurn (.GeneratorExp elt [⟨t0,i0,ifs0,0⟩,⟨t1,i1,ifs1,0⟩] scope pos) 0 it acc env=(do
     standAt i0.pos
     match <- pyNext it with
     | none=>pure (.done .next)
     | some v =>
      letOwnedTupleGo t0 it v
      assign t0 env v
      let mut ok:=true
      for c in ifs0 do
       if ok then ok <- isTrue c env (eval c env)
      if ok then
       let x <- eval i1 env
       standAt i1.pos
       let x <- foldedSetIterable i1 env x
       let _ <- runOwn (.compStart (.GeneratorExp elt [⟨t0,i0,ifs0,0⟩,⟨t1,i1,ifs1,0⟩] scope pos) 1 (<- holding [x] (pyIter x)) acc env) env
      again (.compLoop (.GeneratorExp elt [⟨t0,i0,ifs0,0⟩,⟨t1,i1,ifs1,0⟩] scope pos) 0 it acc env)):=by rfl
theorem AD (elt t0 i0 t1 i1 : Expr) (ifs0 ifs1 : List Expr) (scope : Scope) (pos : Pos) (it acc : Value) (env : Env) :
    compTurn (.GeneratorExp elt [⟨t0,i0,ifs0,0⟩,⟨t1,i1,ifs1,0⟩] scope pos) 1 it acc env=(do
     standAt i1.pos
     match <- pyNext it with
     | none=>pure (.done .next)
     | some v =>
      letOwnedTupleGo t1 it v
      assign t1 env v
      let mut ok:=true
      for c in ifs1 do
       if ok then ok <- isTrue c env (eval c env)
      if ok then
       (do let v <- eval elt env;standAt elt.pos;let _ <- yieldOut env v)
      again (.compLoop (.GeneratorExp elt [⟨t0,i0,ifs0,0⟩,⟨t1,i1,ifs1,0⟩] scope pos) 1 it acc env)):=by rfl
def GD(J:It)(g:TG)(tt:TT)(wi1:TI)(g1:TG)(tt1:TT)(te:TE)(vs vs1:List Nat)(σ:St)(C:GC)(Qe:Hp->Prop)(W:Nat->Nat->Hp->Prop):Prop :=
 ∀ i m H,W i m H->(J.stop i H /\ Qe H) \/ (J.go i H /\ ∀ x H',J.yld i H x H'->g x (wipe σ vs) H' fun σ2 H2=>wipe σ2 vs=wipe σ vs /\ tt σ2 H2 fun b H3 =>
  if b=true then wi1 σ2 H3 fun J1 H4=>∃ W1:Nat->Nat->Hp->Prop,(∃ k,k < m /\ W1 0 k H4) /\ B9 J1 g1 tt1 te vs1 σ2 C (fun k H=>∃ m',m' <= k /\ W (i + 1) m' H) W1
  else ∃ m',m' < m /\ W (i + 1) m' H3)
abbrev gE2(elt tg iter:Expr)(ifs:List Expr)(tg1 iter1:Expr)(ifs1:List Expr)(scope:Scope)(pos:Pos):Expr:=.GeneratorExp elt [⟨tg,iter,ifs,0⟩,⟨tg1,iter1,ifs1,0⟩] scope pos
section
variable {X:Cx} {P:Program} {w:World} {Xo:Cx} {A1:Around} {genv:Env} {pa:Addr × Obj} {elt tg iter tg1 iter1:Expr} {ifs ifs1:List Expr} {scope:Scope} {pos:Pos} {it:Addr} {J:It} {fp:List Addr} {tn:Nat->Heap->Prop}
 {g g1:TG} {tt tt1:TT} {te:TE} {wi1:TI} {vs vs1:List Nat} {σ:St} {C:GC} {Qe:Hp->Prop} {W:Nat->Nat->Hp->Prop} {pins0:List (Addr × Obj)}
theorem Pj {kk : Result -> Sem Fin} {gg : Bool} {ll : List Value} {p : Pos} {R : GenEnd} {it1 : Addr} {J1 : It} {fp1 : List Addr} {tn1 : Nat -> Heap -> Prop} {W1 : Nat -> Nat -> Hp -> Prop} {Q1 : Nat -> Hp -> Prop} {σ3 : St} {n k0 : Nat} {s₀ s6 : Shared} {H6 : Hp}
    (eA:Xo.A=A1.over (.compLoop (gE2 elt tg iter ifs tg1 iter1 ifs1 scope pos) 0 (.ref it) .none genv) []) (eenv:Xo.env=genv) (hc:Xo.calm=true) (exe:Xo.xe=fun _ _=>False)
    (hh:A1.handled=none) (hco:genv.scope.isCoroutine=false) (hgg:gg=false)
    (pg1:∀ A',A'.handled=none->A'.depth=Xo.A.depth->A'.units=Xo.A.units->PG { Xo with A:=A' } tg1 g1) (pt1:∀ A',A'.handled=none->A'.depth=Xo.A.depth->A'.units=Xo.A.units->PTs { Xo with A:=A' } ifs1 tt1) (pe1:∀ A',A'.handled=none->A'.depth=Xo.A.depth->A'.units=Xo.A.units->PE { Xo with A:=A' } elt te)
    (T1:Turn Xo.prog Xo.w Xo.K tg1 J1 fp1 it1 tn1) (hpa:pa ∈ pins0) (f0:∀ H,(∀ b ∈ fp1,H b=none)->∀ b ∈ fp1,mH Xo pins0 H b) (turn:B9 J1 g1 tt1 te vs1 σ3 C Q1 W1)
    (hk:∀ (k n:Nat),k < n->∀ (s₀ s:Shared) (H:Hp),Inv Xo pins0 (wipe σ3 vs1) H s->Q1 k H->Seg (model Xo.prog Xo.w) A1 R (gY Xo pa C) n s₀ (.compLoop (gE2 elt tg iter ifs tg1 iter1 ifs1 scope pos) 0 (.ref it) .none genv) (kk (.ok .next)) [] s)
    (hkn:k0 < n) (I6:Inv Xo pins0 (wipe σ3 vs1) H6 s6) (st6:tn1 0 s6.heap) (n6:∀ b ∈ fp1,H6 b=none) (w0:W1 0 k0 H6) :
    Seg (model Xo.prog Xo.w) A1 R (gY Xo pa C) n s₀ (.compStart (gE2 elt tg iter ifs tg1 iter1 ifs1 scope pos) 1 (.ref it1) .none genv) ((model Xo.prog Xo.w).den (.compStart (gE2 elt tg iter ifs tg1 iter1 ifs1 scope pos) 1 (.ref it1) .none genv))
     [.ret kk none gg ll (.compLoop (gE2 elt tg iter ifs tg1 iter1 ifs1 scope pos) 0 (.ref it) .none genv) p []] s6:=by
 subst hgg
 generalize hfr:Frame.ret kk none false ll (.compLoop (gE2 elt tg iter ifs tg1 iter1 ifs1 scope pos) 0 (.ref it) .none genv) p [] = fr
 generalize hA':A1.over (.compLoop (gE2 elt tg iter ifs tg1 iter1 ifs1 scope pos) 1 (.ref it1) .none genv) [fr] = A'
 have hf':A'.frames=Xo.A.frames:=by
  rw [eA,<- hA',<- hfr]
  unfold Around.over
  dsimp only
  rw [show Code.envs (.compLoop (gE2 elt tg iter ifs tg1 iter1 ifs1 scope pos) 1 (.ref it1) .none genv) = [] from rfl,show Code.envs (.compLoop (gE2 elt tg iter ifs tg1 iter1 ifs1 scope pos) 0 (.ref it) .none genv) = [genv] from rfl]
  simp only [List.map_cons,List.map_nil,Frame.where_,envsOf_cons,show envsOf [] = [] from rfl,List.append_nil]
  rw [show Code.envs (.compLoop (gE2 elt tg iter ifs tg1 iter1 ifs1 scope pos) 0 (.ref it) .none genv) = [genv] from rfl]
  rfl
 have hh':A'.handled=none:=by
  rw [<- hA',<- hfr]
  exact hh
 have hd':A'.depth=Xo.A.depth:=by
  rw [eA,<- hA',<- hfr]
  rfl
 have hu':A'.units=Xo.A.units:=by
  rw [eA,<- hA',<- hfr]
  rfl
 have loop:=Ca (P:=Xo.prog) (w:=Xo.w) (Xo:=Xo) (Xi:={ Xo with A:=A' }) (A1:=A1) (c:=.compLoop (gE2 elt tg iter ifs tg1 iter1 ifs1 scope pos) 1 (.ref it1) .none genv) (fs:=[fr]) (genv:=genv) (pa:=pa) (R:=R) (it:=it1) (ip:=iter1.pos) (pins0:=pins0)
  hA'.symm eenv rfl rfl hc exe (fun _ _ _ _ I=>I.atA A' hf' hh') (fun _ _ _ _ I=>Inv.atA (X:={ Xo with A:=A' }) Xo.A hf'.symm (by rw [eA];exact hh) I) rfl (AD elt tg iter tg1 iter1 ifs ifs1 scope pos (.ref it1) .none genv) rfl (by rw [<- hfr];rfl) (by rw [<- hfr];rfl) hco
  (pg1 A' hh' hd' hu') (pt1 A' hh' hd' hu') (pe1 A' hh' hd' hu') T1 hpa f0 turn
  (fun m n hmn s₀ s H I q=>by
   rw [<- hfr]
   exact seg_leaf (.ok .next) (hk m n hmn s₀ s H (Inv.atA (X:={ Xo with A:=A' }) Xo.A hf'.symm (by rw [eA];exact hh) I) q))
  k0 n hkn 0 s₀ s6 H6 (I6.atA A' hf' hh') st6 n6 w0
 have hd:(model Xo.prog Xo.w).den (.compStart (gE2 elt tg iter ifs tg1 iter1 ifs1 scope pos) 1 (.ref it1) .none genv)=(compStart (gE2 elt tg iter ifs tg1 iter1 ifs1 scope pos) 1 (.ref it1) .none genv).onRaise (fun x=>do noteFrame x genv;standAt theWindowsPlace):=rfl
 rw [hd]
 unfold compStart;rw [Sem.onRaise_eq_wrap]
 show Seg _ A1 _ _ _ s₀ _ ((ask >>= _).wrap _ _ _ _) _ _
 refine seg_bind_wrap (wpAny_askSetting ?_)
 split
 . exact seg_again rfl loop
 . refine seg_bind_wrap (wpAny_rule ?_)
   show Seg _ A1 _ _ _ s₀ _ ((standAt iter1.pos >>= _).wrap _ _ _ _) _ _
   exact seg_bind_wrap (wpAny_standAt (seg_bind_wrap (T1.self _ 0 _ _ _ st6 (seg_again rfl loop))))
theorem Ri (eA : Xo.A = A1.over (.compLoop (gE2 elt tg iter ifs tg1 iter1 ifs1 scope pos) 0 (.ref it) .none genv) []) (eenv : Xo.env = genv) (eprog : Xo.prog = P) (ew : Xo.w = w) (hc : Xo.calm = true) (exe : Xo.xe = fun _ _ => False)
    (hh:A1.handled=none) (hco:genv.scope.isCoroutine=false) (hs1:∀ x,foldedSetIterable iter1 genv x=pure x) (hv:∀ i ∈ vs1,i ∈ vs)
    (pgt:PG Xo tg g) (ptt:PTs Xo ifs tt) (pi1:PI Xo tg1 iter1 wi1)
    (pg1:∀ A',A'.handled=none->A'.depth=Xo.A.depth->A'.units=Xo.A.units->PG { Xo with A:=A' } tg1 g1) (pt1:∀ A',A'.handled=none->A'.depth=Xo.A.depth->A'.units=Xo.A.units->PTs { Xo with A:=A' } ifs1 tt1) (pe1:∀ A',A'.handled=none->A'.depth=Xo.A.depth->A'.units=Xo.A.units->PE { Xo with A:=A' } elt te)
    (T:Turn P w Xo.K tg J fp it tn) (hpa:pa ∈ pins0) (f0:∀ H,(∀ b ∈ fp,H b=none)->∀ b ∈ fp,mH Xo pins0 H b) (turn:GD J g tt wi1 g1 tt1 te vs vs1 σ C Qe W) :
    ∀ (m n:Nat),m < n->∀ (i:Nat) (s₀ s:Shared) (H:Hp),Inv Xo pins0 (wipe σ vs) H s->tn i s.heap->(∀ b ∈ fp,H b=none)->W i m H->Seg (model P w) A1 (gR (gP Xo pa Qe)) (gY Xo pa C) n s₀
     (.compLoop (gE2 elt tg iter ifs tg1 iter1 ifs1 scope pos) 0 (.ref it) .none genv) ((model P w).den (.compLoop (gE2 elt tg iter ifs tg1 iter1 ifs1 scope pos) 0 (.ref it) .none genv)) [] s:=by
 subst eprog ew
 intro m
 induction m using Nat.strongRecOn with
 | ind m ih =>
  intro n hmn i s₀ s H I st hn hW
  have hd:(model Xo.prog Xo.w).den (.compLoop (gE2 elt tg iter ifs tg1 iter1 ifs1 scope pos) 0 (.ref it) .none genv)=(compTurn (gE2 elt tg iter ifs tg1 iter1 ifs1 scope pos) 0 (.ref it) .none genv).onRaise (leaving genv):=rfl
  rw [hd,yL,Sem.onRaise_eq_wrap]
  refine seg_bind_wrap (wpAny_standAt ?_)
  rcases turn i m H hW with ⟨stop,qe⟩ | ⟨go',step⟩
  . have td:=T.done Xo rfl rfl rfl hc i pins0 s _ H (fun _ _=>False) I (f0 H hn) st stop
    refine uQ eA td fun r s1 ⟨hr,I1⟩=>?_
    subst hr
    exact seg_end (.ok .next) ⟨rfl,_,_,H,hpa,I1,qe⟩
  . have ti:=T.item Xo rfl rfl rfl hc i pins0 s _ H (fun _ _=>False) I (f0 H hn) st go'
    refine uQ eA ti fun r s1 ⟨u,hr,h1⟩=>?_
    subst hr
    refine uQ eA h1 fun _ s2 ⟨x,H2,I2,r2,y2,st2,n2⟩=>?_
    have I2':=I2.pinned (f0 H2 n2) (T.obj _ _ st2)
    have hg2:=pgt _ s2 _ H2 x u _ I2' r2 (step x H2 y2)
    rw [exe,eenv] at hg2
    refine uQ eA hg2 fun _ s3 ⟨σ3,H3,I3,hw3,q3⟩=>?_
    have ht3:=ptt _ s3 σ3 H3 _ I3 q3
    rw [exe,eenv] at ht3
    refine uQ eA ht3 fun b s4 ⟨H4,I4,q4⟩=>?_
    have hl3:(wipe σ vs).length=σ3.length:=by rw [<- hw3,aR]
    have back:∀ {σ':St} {s':Shared} {H':Hp},Inv Xo (pins0 ++ qx fp s2.heap) σ' H' s'->(wipe σ vs).length=σ'.length->(∀ (j:Nat) v,(wipe σ vs)[j]? = some (some v)->σ'[j]? = some (some v))->Inv Xo pins0 (wipe σ vs) H' s' /\ tn (i + 1) s'.heap /\ ∀ b ∈ fp,H' b=none:=fun {σ' s' H'} I' hl hk=>by
     have pin':∀ b ∈ fp,∀ o,s2.heap.get? b=some o->s'.heap.get? b=some o /\ H' b=none:=fun b hb o e =>
      let z:=I'.pin (b,o) (List.mem_append_right _ (List.mem_append_right _ (lC hb e)))
      ⟨z.1,z.2.1⟩
     refine ⟨(I'.lD (pins:=pins0)).weak hl hk,T.keep _ _ _ st2 fun b hb o e=>(pin' b hb o e).1,fun b hb=>?_⟩
     obtain ⟨o,e,_⟩:=T.obj _ _ st2 b hb
     exact (pin' b hb o e).2
    have hk3:∀ (j:Nat) v,(wipe σ vs)[j]? = some (some v)->σ3[j]? = some (some v):=fun j v e=>by
     rw [<- hw3] at e
     exact (bY e).1
    have hk4:∀ (j:Nat) v,(wipe σ vs)[j]? = some (some v)->(wipe σ3 vs1)[j]? = some (some v):=fun j v e=>by
     rw [<- hw3] at e
     obtain ⟨e1,e2⟩:=bY e
     rw [bj fun z=>e2 (hv j z)]
     exact e1
    cases b with
    | false =>
     simp only [Bool.false_eq_true,if_false] at q4 ⊢
     obtain ⟨m',hm,w'⟩:=q4
     obtain ⟨I5,t5,n5⟩:=back I4 hl3 hk3
     exact seg_again rfl (ih m' hm n (by omega) (i + 1) s₀ s4 H4 I5 t5 n5 w')
    | true =>
     simp only [if_true] at q4 ⊢
     have hi5:=pi1 _ s4 σ3 H4 _ I4 q4
     rw [exe,eenv] at hi5
     refine uQ eA hi5 fun xv s5 h5=>?_
     refine uQ eA (wpAny_standAt (Q:=fun _ s'=>s'=s5) rfl) fun _ s5' e'=>?_
     subst e'
     rw [hs1 xv]
     refine uQ eA (wpAny_pure (Q:=fun a s'=>a=xv /\ s'=s5') ⟨rfl,rfl⟩) fun xv' s5'' e'=>?_
     obtain ⟨rfl,rfl⟩:=e'
     refine uQ eA (wpAny_holding h5) fun itv s6 h6=>?_
     obtain ⟨it1,fp1,tn1,J1,H6,rfl,I6,T1,st6,f6,W1,⟨k0,hk0,w0⟩,turn1⟩:=h6
     have turn1':B9 J1 g1 tt1 te vs1 σ3 C (fun k H=>k <= k0 /\ ∃ m',m' <= k /\ W (i + 1) m' H) (fun j k H=>k <= k0 /\ W1 j k H):=fun j k H ⟨hk,hw⟩=>by
      rcases turn1 j k H hw with ⟨x1,x2⟩ | ⟨x1,Nx,x2,x3⟩
      . exact .inl ⟨x1,hk,x2⟩
      . exact .inr ⟨x1,Nx,fun H' nx=>let ⟨k',y1,y2⟩:=x2 H' nx;⟨k',y1,by omega,y2⟩,x3⟩
     refine seg_call (c':=.compStart (gE2 elt tg iter ifs tg1 iter1 ifs1 scope pos) 1 (.ref it1) .none genv) fun p=>?_
     refine Pj (pins0:=pins0 ++ qx fp s2.heap) (k0:=k0) eA eenv hc exe hh hco rfl pg1 pt1 pe1 T1 (List.mem_append_left _ hpa) (fun H hn b hb=>⟨hn b hb,(f6 b hb).2⟩) turn1' (fun k n hkn s₀ s H I q=>?_) (by omega) (I6.weak (aR _ _) fun j v e=>(bY e).1) st6 (fun b hb=>(f6 b hb).1) ⟨Nat.le_refl _,w0⟩
     obtain ⟨q0,m',q1,q2⟩:=q
     obtain ⟨I7,t7,n7⟩:=back I (hl3.trans (aR σ3 vs1).symm) hk4
     exact seg_again rfl (ih m' (by omega) n (by omega) (i + 1) s₀ s H I7 t7 n7 q2)
end
end
section
structure At1 (X:Cx) (A1:Around):Prop where
 hd:A1.handled=none
 fr:A1.frames=X.A.frames
abbrev kS(A1:Around)(e:Expr)(it:Addr)(genv:Env):Around:=A1.over (.compLoop e 0 (.ref it) .none genv) []
def Ib(X:Cx)(k:Nat)(e:Expr)(tg:Expr)(scope:Scope)(σ:St)(vs:List Nat)(Rdy:It->GC->(Hp->Prop)->Hp->Prop):Prop :=
 ∀ (s4:Shared) (gs:Array GenState) (H4:Hp) (C0:Addr) (cl:List (Str × Addr)) (code:Value) (fp:List Addr) (A1:Around) (it:Addr) (pa:Addr × Obj) (J:It) (tn:Nat->Heap->Prop) (C:GC) (Qe:Hp->Prop) (H':Hp) (s':Shared),
  At1 X A1->bZ k (kS A1 e it (genEnv scope cl C0 code builtinsNs X.env))->pa.1 ∉ fp->Turn X.prog X.w X.K tg J fp it tn->Rdy J C Qe H' ->
  Inv (X.n0 s4 gs H4 scope (genEnv scope cl C0 code builtinsNs X.env) fp (kS A1 e it (genEnv scope cl C0 code builtinsNs X.env))) [pa] (wipe σ vs) H' s'->tn 0 s'.heap->(∀ b ∈ fp,H' b=none) ->
  ∃ n,Seg (model X.prog X.w) A1 (gR (gP (X.n0 s4 gs H4 scope (genEnv scope cl C0 code builtinsNs X.env) fp (kS A1 e it (genEnv scope cl C0 code builtinsNs X.env))) pa Qe))
   (gY (X.n0 s4 gs H4 scope (genEnv scope cl C0 code builtinsNs X.env) fp (kS A1 e it (genEnv scope cl C0 code builtinsNs X.env))) pa C) n s' (.compStart e 0 (.ref it) .none (genEnv scope cl C0 code builtinsNs X.env))
   ((model X.prog X.w).den (.compStart e 0 (.ref it) .none (genEnv scope cl C0 code builtinsNs X.env))) [] s'
theorem KC {prog : Program} {w : World} {A1 : Around} {R : GenEnd} {Y : Protocol} {n : Nat} {s₀ s : Shared} {elt tg iter : Expr} {ifs : List Expr} {cls : List Comprehension} {scope : Scope} {pos : Pos} {it : Addr} {genv : Env}
    (loop:Seg (model prog w) A1 R Y n s₀ (.compLoop (.GeneratorExp elt (⟨tg,iter,ifs,0⟩ :: cls) scope pos) 0 (.ref it) .none genv) ((model prog w).den (.compLoop (.GeneratorExp elt (⟨tg,iter,ifs,0⟩ :: cls) scope pos) 0 (.ref it) .none genv)) [] s)
    (self:∀ (A:Around) (Q:Value->Shared->Prop) (E:Value->Shared->Prop),Q (.ref it) s->wpAny (model prog w) A (pyIter (.ref it)) Q E s) :
    Seg (model prog w) A1 R Y n s₀ (.compStart (.GeneratorExp elt (⟨tg,iter,ifs,0⟩ :: cls) scope pos) 0 (.ref it) .none genv) ((model prog w).den (.compStart (.GeneratorExp elt (⟨tg,iter,ifs,0⟩ :: cls) scope pos) 0 (.ref it) .none genv)) [] s:=by
 have hd:(model prog w).den (.compStart (.GeneratorExp elt (⟨tg,iter,ifs,0⟩ :: cls) scope pos) 0 (.ref it) .none genv)=(compStart (.GeneratorExp elt (⟨tg,iter,ifs,0⟩ :: cls) scope pos) 0 (.ref it) .none genv).onRaise (leaving genv):=rfl
 rw [hd]
 unfold compStart;rw [Sem.onRaise_eq_wrap]
 show Seg _ A1 _ _ _ s₀ _ ((ask >>= _).wrap _ _ _ _) [] s
 refine seg_bind_wrap (wpAny_askSetting ?_)
 split
 . exact seg_again rfl loop
 . refine seg_bind_wrap (wpAny_rule ?_)
   show Seg _ A1 _ _ _ s₀ _ ((standAt iter.pos >>= _).wrap _ _ _ _) [] s
   exact seg_bind_wrap (wpAny_standAt (seg_bind_wrap (self _ _ _ (seg_again rfl loop))))
section
variable {X:Cx} {pins:List (Addr × Obj)} {σ:St} {elt tg iter tg1 iter1:Expr} {ifs ifs1:List Expr} {scope:Scope} {gpos:Pos} {vs vs1:List Nat} {g g1:TG} {tt tt1:TT} {te:TE} {wi1:TI} {k:Nat}
def Rj(g:TG)(tt:TT)(te:TE)(vs:List Nat)(σ:St):It->GC->(Hp->Prop)->Hp->Prop:=fun J C Qe H=>∃ W:Nat->Nat->Hp->Prop,(∃ m,W 0 m H) /\ B9 J g tt te vs σ C (fun _=>Qe) W
def Rk(g:TG)(tt:TT)(wi1:TI)(g1:TG)(tt1:TT)(te:TE)(vs vs1:List Nat)(σ:St):It->GC->(Hp->Prop)->Hp->Prop:=fun J C Qe H=>∃ W:Nat->Nat->Hp->Prop,(∃ m,W 0 m H) /\ GD J g tt wi1 g1 tt1 te vs vs1 σ C Qe W
theorem Rm{X:Cx}{pins:List (Addr × Obj)}{σ:St}{H0 H:Hp}{s:Shared}{pa:Addr × Obj}{fp:List Addr}(I:Inv X [pa] σ H0 s)(hex:X.ex=fp)(hpn:X.pn = [])(hpa:pa.1 ∉ fp)(hn:∀ b ∈ fp,H b=none):∀ b ∈ fp,mH X [pa] H b:=fun b hb=>by
 subst hex
 refine ⟨hn b hb,(I.ok.exf b hb).1,I.ok.GA b hb,.inl hb,fun x c e=>(I.ok.exf b hb).2 x c e,fun p hp z=>?_⟩
 rw [hpn] at hp
 have:p=pa:=by simpa using hp
 rw [this] at z
 exact hpa (by rw [z];exact hb)
theorem Td (hc : X.calm = true) (hco : scope.isCoroutine = false)
    (hg:∀ (s:Shared) (gs:Array GenState) (H:Hp) (C:Addr) (cl:List (Str × Addr)) (code:Value) (fp:List Addr) (A':Around),bZ k A'->PG (X.n0 s gs H scope (genEnv scope cl C code builtinsNs X.env) fp A') tg g)
    (ht:∀ (s:Shared) (gs:Array GenState) (H:Hp) (C:Addr) (cl:List (Str × Addr)) (code:Value) (fp:List Addr) (A':Around),bZ k A'->PTs (X.n0 s gs H scope (genEnv scope cl C code builtinsNs X.env) fp A') ifs tt)
    (he:∀ (s:Shared) (gs:Array GenState) (H:Hp) (C:Addr) (cl:List (Str × Addr)) (code:Value) (fp:List Addr) (A':Around),bZ k A'->PE (X.n0 s gs H scope (genEnv scope cl C code builtinsNs X.env) fp A') elt te) :
    Ib X k (.GeneratorExp elt [⟨tg,iter,ifs,0⟩] scope gpos) tg scope σ vs (Rj g tt te vs σ):=by
 intro s4 gs H4 C0 cl code fp A1 it pa J tn C Qe H' s' hA hr hpf T ⟨W,⟨m,w0⟩,turn⟩ I st hn
 refine ⟨m + 1,KC (Ca (Xi:=X.n0 s4 gs H4 scope (genEnv scope cl C0 code builtinsNs X.env) fp (kS A1 (.GeneratorExp elt [⟨tg,iter,ifs,0⟩] scope gpos) it (genEnv scope cl C0 code builtinsNs X.env))) rfl rfl rfl rfl hc rfl (fun _ _ _ _ z=>z) (fun _ _ _ _ z=>z) rfl (compTurn_gen elt tg iter ifs scope gpos (.ref it) .none _) rfl rfl rfl hco
  (hg _ _ _ _ _ _ _ _ hr) (ht _ _ _ _ _ _ _ _ hr) (he _ _ _ _ _ _ _ _ hr) T (List.mem_singleton.mpr rfl) (fun H hn=>Rm (pins:=[]) I rfl rfl hpf hn) turn (fun m n _ s₀ s H I q=>seg_end (.ok .next) ⟨rfl,_,_,H,List.mem_singleton.mpr rfl,I,q⟩) m (m + 1) (Nat.lt_succ_self _) 0 _ _ H' I st hn w0) fun A Q E h=>T.self A 0 _ Q E st h⟩
theorem Te (hc : X.calm = true) (hco : scope.isCoroutine = false) (hs1 : ∀ env x, foldedSetIterable iter1 env x = pure x) (hv : ∀ i ∈ vs1, i ∈ vs)
    (hg:∀ (s:Shared) (gs:Array GenState) (H:Hp) (C:Addr) (cl:List (Str × Addr)) (code:Value) (fp:List Addr) (A':Around),bZ k A'->PG (X.n0 s gs H scope (genEnv scope cl C code builtinsNs X.env) fp A') tg g)
    (ht:∀ (s:Shared) (gs:Array GenState) (H:Hp) (C:Addr) (cl:List (Str × Addr)) (code:Value) (fp:List Addr) (A':Around),bZ k A'->PTs (X.n0 s gs H scope (genEnv scope cl C code builtinsNs X.env) fp A') ifs tt)
    (hi1:∀ (s:Shared) (gs:Array GenState) (H:Hp) (C:Addr) (cl:List (Str × Addr)) (code:Value) (fp:List Addr) (A':Around),bZ k A'->PI (X.n0 s gs H scope (genEnv scope cl C code builtinsNs X.env) fp A') tg1 iter1 wi1)
    (hg1:∀ (s:Shared) (gs:Array GenState) (H:Hp) (C:Addr) (cl:List (Str × Addr)) (code:Value) (fp:List Addr) (A':Around),bZ k A'->PG (X.n0 s gs H scope (genEnv scope cl C code builtinsNs X.env) fp A') tg1 g1)
    (ht1:∀ (s:Shared) (gs:Array GenState) (H:Hp) (C:Addr) (cl:List (Str × Addr)) (code:Value) (fp:List Addr) (A':Around),bZ k A'->PTs (X.n0 s gs H scope (genEnv scope cl C code builtinsNs X.env) fp A') ifs1 tt1)
    (he:∀ (s:Shared) (gs:Array GenState) (H:Hp) (C:Addr) (cl:List (Str × Addr)) (code:Value) (fp:List Addr) (A':Around),bZ k A'->PE (X.n0 s gs H scope (genEnv scope cl C code builtinsNs X.env) fp A') elt te) :
    Ib X k (gE2 elt tg iter ifs tg1 iter1 ifs1 scope gpos) tg scope σ vs (Rk g tt wi1 g1 tt1 te vs vs1 σ):=by
 intro s4 gs H4 C0 cl code fp A1 it pa J tn C Qe H' s' hA hr hpf T ⟨W,⟨m,w0⟩,turn⟩ I st hn
 have rm:∀ A':Around,A'.handled=none->A'.depth=(kS A1 (gE2 elt tg iter ifs tg1 iter1 ifs1 scope gpos) it (genEnv scope cl C0 code builtinsNs X.env)).depth->A'.units=(kS A1 (gE2 elt tg iter ifs tg1 iter1 ifs1 scope gpos) it (genEnv scope cl C0 code builtinsNs X.env)).units->bZ k A':=fun A' h1 h2 h3=>⟨h1,by rw [h2];exact hr.dp,by rw [h3];exact hr.un⟩
 refine ⟨m + 1,KC (Ri (Xo:=X.n0 s4 gs H4 scope (genEnv scope cl C0 code builtinsNs X.env) fp (kS A1 (gE2 elt tg iter ifs tg1 iter1 ifs1 scope gpos) it (genEnv scope cl C0 code builtinsNs X.env))) (W:=W) rfl rfl rfl rfl hc rfl hA.hd hco (hs1 _) hv
  (hg _ _ _ _ _ _ _ _ hr) (ht _ _ _ _ _ _ _ _ hr) (hi1 _ _ _ _ _ _ _ _ hr) (fun A' h1 h2 h3=>hg1 _ _ _ _ _ _ _ _ (rm A' h1 h2 h3)) (fun A' h1 h2 h3=>ht1 _ _ _ _ _ _ _ _ (rm A' h1 h2 h3)) (fun A' h1 h2 h3=>he _ _ _ _ _ _ _ _ (rm A' h1 h2 h3)) T (List.mem_singleton.mpr rfl) (fun H hn=>Rm (pins:=[]) I rfl rfl hpf hn) turn m (m + 1) (Nat.lt_succ_self _) 0 _ _ H' I st hn w0) fun A Q E h=>T.self A 0 _ Q E st h⟩
end
def KD(X:Cx)(pins:List (Addr × Obj))(σ:St)(e tg:Expr)(scope:Scope)(R:It->Hp->Prop)(v:Value)(s5:Shared):Prop :=
 ∃ (it a:Addr) (fp:List Addr) (tn:Nat->Heap->Prop) (J:It) (H4:Hp) (s4:Shared) (code:Value) (h5:Heap) (go:Obj) (tk:Nat) (m0:Str->Option Value) (genv:Env),
  v = .ref a /\ Inv X pins σ H4 s4 /\ Turn X.prog X.w X.K tg J fp it tn /\ tn 0 s4.heap /\ (∀ b ∈ fp,mH X pins H4 b /\ b < s4.heap.objs.size) /\ R J H4 /\
  genv=genEnv scope (aW X.env.cells scope.names []) s4.heap.objs.size code builtinsNs X.env /\
  s5={ s4 with gens:=s4.gens.push (.fresh (.compStart e 0 (.ref it) .none genv)),toks:=tk,heap:=h5 } /\
  (∀ b o,s4.heap.get? b=some o->h5.get? b=some o) /\ h5.Ns s4.heap.objs.size m0 /\ h5.get? a=some go /\ h5.IsGen a s4.gens.size /\ s4.heap.objs.size < a /\ h5.objs.size=a + 1 /\ ∀ v,go.data ≠ .cell v
section
variable {X:Cx} {pins:List (Addr × Obj)} {σ:St} {H:Hp} {s:Shared} {elt tg iter:Expr} {ifs:List Expr} {cls:List Comprehension} {scope:Scope} {gpos:Pos} {own:List (Str × Nat)} {wi:TI} {R:It->Hp->Prop}
theorem Ez (I : Inv X pins σ H s) (G : uN X) (hi : PI X tg iter wi) (hw : wi σ H R) (ok : gF X.N X.env.scope scope own) (hcell : ∀ y ∈ scope.names, y.2 ≠ .cell) (h0 : scope.names.lookup (".0" : Str) = some NameKind.local)
    (hco:scope.isCoroutine=false) (hroom:X.A.depth < recursionLimit) (hs:∀ x,genFold iter X.env x=pure x) :
    wpAny (model X.prog X.w) X.A (eval (.GeneratorExp elt (⟨tg,iter,ifs,0⟩ :: cls) scope gpos) X.env) (KD X pins σ (.GeneratorExp elt (⟨tg,iter,ifs,0⟩ :: cls) scope gpos) tg scope R) X.xe s:=by
 have hfree:∀ y ∈ scope.names,y.2 = .free->∃ c,X.env.cells.lookup y.1=some c:=fun y hy e=>by
  rcases ok.free y hy e with k | k
  . exact I.ok.has _ (.inl k)
  . exact I.ok.has _ (.inr k)
 refine xA hco (n4 hfree) hcell h0 ok.kind hroom (thn (hi pins s σ H _ I hw) fun xv s1 hx=>thn hx fun itv s2 h2=>?_) hs
 obtain ⟨it,fp,tn,J,H2,rfl,I2,T,st2,f2,q⟩:=h2
 refine ⟨I2.nolimit,KA I2 G fun code s3 I3 kp3 hg3=>MZ I3 fun h' hn' hs'=>?_⟩
 have sz2:∀ b ∈ fp,∃ o,s3.heap.get? b=some o:=fun b hb=>by
  obtain ⟨o,e,_⟩:=T.obj _ _ st2 b hb
  exact ⟨o,kp3 b o (f2 b hb).1 e⟩
 have hsz:h'.objs.size=s3.heap.objs.size + 1:=by rw [hs'.1,Heap.size_push]
 have kp4:∀ b o,s3.heap.get? b=some o->h'.get? b=some o:=fun b o e=>(hs'.2 b (Nat.ne_of_lt (Heap.lt_size e))).trans (Heap.get?_push_of_some _ e)
 refine ⟨it,h'.objs.size,fp,tn,J,H2,s3,code,_,_,_,_,_,rfl,I3,T,T.keep _ _ _ st2 fun b hb o e=>kp3 b o (f2 b hb).1 e,fun b hb=>⟨f2 b hb,?_⟩,q,rfl,rfl,fun b o e=>Heap.get?_push_of_some _ (kp4 b o e),hn'.keeps fun b o e=>Heap.get?_push_of_some _ e,
  Heap.get?_push_size _ rfl,⟨_,_,_,Heap.get?_push_size _ rfl,rfl,rfl,rfl⟩,by rw [hsz];exact Nat.lt_succ_self _,by rw [Heap.size_push],fun v z=>nomatch z⟩
 obtain ⟨o,e⟩:=sz2 b hb
 exact Heap.lt_size e
end
end
section
theorem EA{A:Around}{l:List Env}{e:Expr}{it:Addr}{genv:Env}(hf:Code.isFrame (.compLoop e 0 (.ref it) .none genv)=true)(h:A.frames=some l):(kS A e it genv).frames=some (genv :: l):=by
 unfold kS Around.over
 dsimp only
 rw [show Code.envs (.compLoop e 0 (.ref it) .none genv) = [genv] by unfold Code.envs;rw [hf];rfl,h]
 rfl
section
variable {X:Cx} {pins:List (Addr × Obj)} {σ:St} {e tg:Expr} {scope:Scope} {own:List (Str × Nat)} {k:Nat} {Rdy:It->GC->(Hp->Prop)->Hp->Prop} {R:It->Hp->Prop} {A1:Around} {v:Value} {s5:Shared}
structure Rn (X:Cx) (pins:List (Addr × Obj)) (σ:St) (vs:List Nat) (Rdy:It->GC->(Hp->Prop)->Hp->Prop) (A1:Around) (s5:Shared) (a:Addr) (go:Obj) (g:Nat) (fp:List Addr) (Stt:Heap->Prop) (J:It) (H4:Hp) (Xg:Cx) (gs0:GenState):Prop where
 prog:Xg.prog=X.prog
 w:Xg.w=X.w
 gen:∀ h:Heap,h.get? a=some go->h.IsGen a g
 lt:g < Xg.s_0.gens.size
 gs:GS Xg (a,go) [(a,go)] (wipe σ vs) fp Stt H4 s5
 g0:s5.gens[g]? = some gs0
 asz:a + 1=s5.heap.objs.size
 fsz:∀ b ∈ fp,b < s5.heap.objs.size
 back:∀ pins' σ' H' s',Inv Xg pins' σ' H' s'->Inv X pins σ H' s'
 Ro:∀ C Qe H' s',GS Xg (a,go) [(a,go)] (wipe σ vs) fp Stt H' s'->Rdy J C Qe H'->∃ n,gs0.Goes (model X.prog X.w) A1 (gR (gP Xg (a,go) Qe)) (gY Xg (a,go) C) n (.send .none) s'
theorem KG (hN : X.N.Nodup) (ok : gF X.N X.env.scope scope own) (hcell : ∀ y ∈ scope.names, y.2 ≠ .cell) (S : Ib X k e tg scope σ (own.map (·.2)) Rdy) (hf : ∀ it genv, Code.isFrame (.compLoop e 0 (.ref it) .none genv) = true)
    (hA:At1 X A1) (hroom:∀ it genv,bZ k (kS A1 e it genv)) (hm:KD X pins σ e tg scope R v s5) :
    ∃ (a:Addr) (go:Obj) (g:Nat) (fp:List Addr) (Stt:Heap->Prop) (J:It) (H4:Hp) (Xg:Cx) (gs0:GenState),v = .ref a /\ R J H4 /\ Rn X pins σ (own.map (·.2)) Rdy A1 s5 a go g fp Stt J H4 Xg gs0:=by
 obtain ⟨it,a,fp,tn,J,H4,s4,code,h5,go,tk,m0,genv,rfl,I4,T,st4,f4,q,hgenv,hs5,kp5,hns5,ha5,hgen5,hC,hsz5,hgo⟩:=hm
 have hgs5:s5.gens=s4.gens.push (.fresh (.compStart e 0 (.ref it) .none genv)):=by rw [hs5]
 have hb5:GB s4.gens s5.gens:=by
  rw [hgs5]
  exact ⟨AllBare.push I4.bare.1 rfl,by rw [Array.size_push];exact Nat.le_succ _⟩
 have h5h:s5.heap=h5:=by rw [hs5]
 have hafp:a ∉ fp:=fun z=>absurd (Nat.lt_trans hC (f4 a z).2) (Nat.lt_irrefl _)
 have I5:Inv (X.n0 s4 s5.gens H4 scope genv fp (kS A1 e it genv)) [(a,go)] (wipe σ (own.map (·.2))) H4 s5:=by
  have z:=C3 (tk:=tk) (code:=code) I4 ok hN hcell f4 hgenv (EA (hf it genv) (hA.fr.trans I4.ok.frames)) (show (kS A1 e it genv).handled=none from hA.hd) hb5 kp5 hns5 ha5 hC hgo
  have e:s5={ s4 with heap:=h5,gens:=s5.gens,toks:=tk }:=by rw [hs5]
  rw [<- e] at z;exact z
 refine ⟨a,go,s4.gens.size,fp,tn 0,J,H4,X.n0 s4 s5.gens H4 scope genv fp (kS A1 e it genv),.fresh (.compStart e 0 (.ref it) .none genv),rfl,q,rfl,rfl,fun h eh=>?_,?_,⟨List.mem_singleton.mpr rfl,I5,T.keep _ _ _ st4 fun b _ o eb=>by rw [h5h];exact kp5 b o eb,T.keep 0,fun b hb=>(f4 b hb).1.1⟩,?_,by rw [h5h,hsz5],fun b hb=>?_,fun pins' σ' H' s' I'=>?_,fun C Qe H' s' G hR=>?_⟩
 . obtain ⟨o,nm,qn,e1,r⟩:=hgen5
   rw [ha5] at e1;cases e1
   exact ⟨go,nm,qn,eh,r⟩
 . show _ < s5.gens.size
   rw [hgs5,Array.size_push];exact Nat.lt_succ_self _
 . rw [hgs5];simp
 . have:=(f4 b hb).2
   rw [h5h,hsz5]
   exact Nat.lt_trans this (Nat.lt_trans hC (Nat.lt_succ_self _))
 . exact I4.yM (ch:=fp) I'.os I'.base I'.hok ⟨I'.bare.1,Nat.le_trans hb5.2 I'.bare.2⟩ fun b hb=>⟨(f4 b hb).1.2.2.2.1,(f4 b hb).1.2.1,(f4 b hb).1.2.2.2.2.1,(f4 b hb).1.2.2.2.2.2⟩
 . subst hgenv
   obtain ⟨n,z⟩:=S s4 s5.gens H4 _ _ code fp A1 it (a,go) J tn C Qe H' s' hA (hroom it _) hafp T hR G.inv G.st G.non
   exact ⟨n,rfl,z⟩
end
def KH(S:Addr):GC:=fun y H Nx=>∃ acc,H S=some (.lst acc) /\ acc.length < sizeLine /\ Nx (upd H S (.lst (acc ++ [y])))
theorem gather {Xg : Cx} {pa : Addr × Obj} {g : Nat} {Qe : Hp -> Prop} {A : Around} {S : Addr} {R : Result -> Shared -> Prop} {res : Value} (hh : A.handled = none) (hroom : A.depth < recursionLimit) (hgo : ∀ h : Heap, h.get? pa.1 = some pa.2 -> h.IsGen pa.1 g) (hgl : g < Xg.s_0.gens.size)
    (hEnd:∀ pins σ' s' H,Inv Xg pins σ' H s'->Qe H->R (.ok (.ret res)) s') :
    ∀ (n:Nat) (pins:List (Addr × Obj)) (σ':St) (fpA:List Addr) (Stt:Heap->Prop) (H:Hp) (s:Shared) (gs:GenState),GS Xg pa pins σ' fpA Stt H s->s.gens[g]? = some gs->gs.Goes (model Xg.prog Xg.w) A.in1.in1 (gR (gP Xg pa Qe)) (gY Xg pa (KH S)) n (.send .none) (s.setGen g .running) ->
     codeAny (model Xg.prog Xg.w) A (.builtin "list.extend.loop" ⟨[.ref S,.ref pa.1,res],[]⟩) R s:=by
 intro n
 induction n using Nat.strongRecOn with
 | ind n ih =>
  intro pins σ' fpA Stt H s gs hG hgs hgoes
  refine codeAny_builtin F.entry_extend_loop (by
   rw [Around.under_plainId F.plain_extend_loop _]
   show wpAny _ A.in1 (pyNext (.ref pa.1) >>= _) _ _ s
   refine wpAny_bind (Rh (A:=A.in1) hh hroom hgo hgl hG hgs hgoes (fun s' pins' σ'' H' _ I' qe=>wpAny_pure (hEnd _ _ s' H' I' qe)) fun v s1 y H4 Nx pins' σ'' fpA' Stt' gs' G4 r4 c4 hg4 kap=>?_)
   obtain ⟨acc,hS,hz,nx⟩:=c4
   obtain ⟨hz',its,c,ri,eS⟩:=G4.inv.hok S _ hS
   have hlen:=ri.length
   show wpAny _ A.in1 (updateSeq S (·.push v) >>= _) _ _ s1
   refine wpAny_bind (wpAny_updateSeq eS rfl (wpAny_pure ⟨plainId_quiet F.plain_extend_loop _,?_⟩) (by simp only [List.size_toArray];omega) (by simp only [Array.size_push,List.size_toArray];omega))
   have I5:=G4.inv.write (e:=S) (x:=S) (o:=.lst (acc ++ [y])) (h':=s1.heap.update S (Obj.mapSeq (·.push v))) (t':=s1.toks) (by rw [hS];trivial) (.inl rfl) (fun b u hb q=>(Heap.get?_update_other _ _ (Ne.symm hb)).trans q) ⟨_,Heap.get?_update_self _ eS rfl⟩
    ⟨by rw [List.length_append];exact hz,its ++ [v],c + 1,ri.append (.cons r4 .nil),by rw [Heap.get?_update_self _ eS rfl];simp [Obj.mapSeq]⟩
   have hSf:S ∉ fpA':=fun z=>by
    have:=G4.non S z
    rw [hS] at this;cases this
   have G5:GS Xg pa pins' σ'' fpA' Stt' (upd H4 S (.lst (acc ++ [y]))) { s1 with heap:=s1.heap.update S (Obj.mapSeq (·.push v)),toks:=s1.toks } :=
    ⟨G4.mem,I5,G4.keep _ _ G4.st fun b hb o e=>(Heap.get?_update_other _ _ (fun z=>hSf (by rw [z];exact hb))).trans e,G4.keep,fun b hb=>by rw [aL (fun z=>hSf (by rw [<- z];exact hb))];exact G4.non b hb⟩
   obtain ⟨m,hm,z⟩:=kap _ _ (G5.set (g:=g) (x:=.running) rfl) nx
   exact ih m (by omega) pins' σ'' fpA' Stt' _ _ gs' G5 hg4 z)
section
variable {X:Cx} {pins:List (Addr × Obj)} {σ:St} {e tg:Expr} {scope:Scope} {own:List (Str × Nat)} {k:Nat} {Rdy:It->GC->(Hp->Prop)->Hp->Prop} {v:Value} {s5:Shared}
theorem yN {Q : VK} (hN : X.N.Nodup) (ok : gF X.N X.env.scope scope own) (hcell : ∀ y ∈ scope.names, y.2 ≠ .cell) (S : Ib X k e tg scope σ (own.map (·.2)) Rdy) (hf : ∀ it genv, Code.isFrame (.compLoop e 0 (.ref it) .none genv) = true)
    (hh:X.A.handled=none) (hdp:X.A.depth < recursionLimit) (hroom:∀ it genv,bZ k (kS X.A.in1.in1.in1.in1 e it genv))
    (hm:KD X pins σ e tg scope (fun J H1=>∀ D,H1 D=none->Rdy J (KH D) (fun H=>∃ acc,H D=some (.lst acc) /\ ∀ p,H p=none->Q (.ref p) (upd H p (.tup acc))) (upd H1 D (.lst []))) v s5) :
    wpAny (model X.prog X.w) X.A (call (.type "tuple") [v]) (EP X pins σ Q) X.xe s5:=by
 obtain ⟨a,go,g,fp,Stt,J,H4,Xg,gs0,rfl,q,O⟩:=KG (A1:=X.A.in1.in1.in1.in1) hN ok hcell S hf ⟨hh,rfl⟩ hroom hm
 generalize hS:s5.heap.objs.size=D
 have hDn:H4 D=none:=O.gs.inv.hok.fresh (Nat.le_of_eq hS)
 have hDf:D ∉ fp:=fun z=>by
  have:=O.fsz D z
  rw [hS] at this
  exact absurd this (Nat.lt_irrefl _)
 have ha5:s5.heap.get? a=some go:=(O.gs.inv.pin _ (List.mem_append_right _ O.gs.mem)).1
 have hDa:D ≠ a:=by rw [<- hS,<- O.asz];exact Nat.succ_ne_self a
 have tyA:s5.TypeIs (.ref a) "generator" := (O.gen _ ha5).typeIs
 have A4 : ∀ (A' : Around), A' = X.A.in1.in1 -> codeAny (model X.prog X.w) A' (.builtin "list.extend.loop" ⟨[.ref D, .ref a, .ref D], []⟩)
     (fun r s'=>r = .ok (.ret (.ref D)) /\ ∃ H',Inv X pins σ H' s' /\ ∃ acc,H' D=some (.lst acc) /\ ∀ p,H' p=none->Q (.ref p) (upd H' p (.tup acc)))
     { s5 with heap:=((s5.heap.push { cls:=.type "list",data:=.seq ([]:List Value).toArray }).update D (Obj.mapSeq (·.push Value.none))).update D (Obj.mapSeq (·.pop)) }:=by
  intro A' hA'
  subst hA'
  have hS₁:(s5.heap.push { cls:=.type "list",data:=.seq ([]:List Value).toArray }).get? D=some { cls:=.type "list",data:=.seq ([]:List Value).toArray }:=by rw [<- hS];exact Heap.get?_push_size _ rfl
  have hS₂:=Heap.get?_update_self (Obj.mapSeq (·.push Value.none)) hS₁ rfl
  have hS₃:=Heap.get?_update_self (Obj.mapSeq (·.pop)) hS₂ rfl
  have kp7:∀ b o,s5.heap.get? b=some o->(((s5.heap.push { cls:=.type "list",data:=.seq ([]:List Value).toArray }).update D (Obj.mapSeq (·.push Value.none))).update D (Obj.mapSeq (·.pop))).get? b=some o:=fun b o e=>by
   have hb:b ≠ D:=by rw [<- hS];exact Nat.ne_of_lt (Heap.lt_size e)
   exact (Heap.get?_update_other _ _ (Ne.symm hb)).trans ((Heap.get?_update_other _ _ (Ne.symm hb)).trans (Heap.get?_push_of_some _ e))
  have I7:Inv Xg [(a,go)] (wipe σ (own.map (·.2))) (upd H4 D (.lst [])) { s5 with heap:=((s5.heap.push { cls:=.type "list",data:=.seq ([]:List Value).toArray }).update D (Obj.mapSeq (·.push Value.none))).update D (Obj.mapSeq (·.pop)) } :=
   O.gs.inv.laid (t':=s5.toks) kp7 (Nat.le_of_eq hS) ⟨Nat.zero_le _,[],_,.nil,by rw [hS₃];rfl⟩
  have G7:GS Xg (a,go) [(a,go)] (wipe σ (own.map (·.2))) fp Stt (upd H4 D (.lst [])) { s5 with heap:=((s5.heap.push { cls:=.type "list",data:=.seq ([]:List Value).toArray }).update D (Obj.mapSeq (·.push Value.none))).update D (Obj.mapSeq (·.pop)) } :=
   ⟨O.gs.mem,I7,O.gs.keep _ _ O.gs.st fun b _ o e=>kp7 b o e,O.gs.keep,fun b hb=>by rw [aL (fun z=>hDf (by rw [<- z];exact hb))];exact O.gs.non b hb⟩
  obtain ⟨n,hgo⟩:=O.Ro _ _ _ _ (G7.set (g:=g) (x:=.running) rfl) (q D hDn)
  rw [<- O.prog,<- O.w] at hgo ⊢
  exact gather (pa:=(a,go)) (A:=X.A.in1.in1) (S:=D) (res:=.ref D) hh hdp O.gen O.lt (fun _ _ s' H' I' qe=>⟨rfl,H',O.back _ _ _ _ I',qe⟩) n _ _ _ _ _ _ gs0 G7 O.g0 hgo
 have col : ∀ {Q₂ : List Value -> Shared -> Prop} {E₂ : Value -> Shared -> Prop}, (∀ (s' : Shared) (its : List Value), (∃ H' acc, Inv X pins σ H' s' /\ Vals acc its /\ acc.length <= sizeLine /\ ∀ p, H' p = none -> Q (.ref p) (upd H' p (.tup acc))) -> Q₂ its s') ->
     wpAny (model X.prog X.w) X.A.in1.in1 (collect (.ref a)) Q₂ E₂ s5:=fun {Q₂ E₂} hQ₂=>by
  unfold collect
  refine wpAny_bind (wpAny_runValue (codeAny_builtin F.entry_proto_collect (by
   rw [Around.under_plainId F.plain_proto_collect _]
   show wpAny _ X.A.in1.in1.in1 (newList [] >>= fun l=>again (.builtin "list.__iadd__" ⟨[l,.ref a],[]⟩)) _ _ s5
   refine wpAny_bind (wpAny_newObj_type (wpAny_pure ⟨plainId_quiet F.plain_list_iadd _,codeAny_builtin F.entry_list_iadd ?_⟩))
   rw [Around.under_plainId F.plain_list_iadd _,hS]
   have ha1:(s5.heap.push { cls:=.type "list",data:=.seq ([]:List Value).toArray }).get? a=some go:=Heap.get?_push_of_some _ ha5
   have ty1:({ s5 with heap:=s5.heap.push { cls:=.type "list",data:=.seq ([]:List Value).toArray } }:Shared).TypeIs (.ref a) "generator" := (O.gen _ ha1).typeIs
   show wpAny _ _ (Builtin.List.listExtendWith (.ref D) (.ref a) (.ref D)) _ _ _
   unfold Builtin.List.listExtendWith
   refine wpAny_bind (wpAny_typeOf ty1 ?_)
   have n1:Builtin.List.listSameRef (.ref D) (.ref a)=false:=by simp [Builtin.List.listSameRef,hDa]
   simp only [n1,show (Value.type "generator" == Value.type "list")=false by decide,show (Value.type "generator" == Value.type "tuple")=false by decide,Bool.or_false,Bool.false_eq_true,if_false]
   refine wpAny_bind (wpAny_pyIter_gen (O.gen _ ha1) (wpAny_bind (wpAny_holding ?_)))
   unfold Builtin.List.listLengthHint
   refine wpAny_bind (wpAny_specialOf ty1 F.gen_no_len ?_)
   show wpAny _ _ (specialOf (Value.ref a) (Str.ofString "__length_hint__") >>= _) _ _ _
   refine wpAny_bind (wpAny_specialOf ty1 F.gen_no_hint (wpAny_pure ?_))
   show wpAny _ _ (rule "list.extend.makes-room" >>= fun _=>Builtin.List.listTouch (.ref D) >>= fun _=>again (.builtin "list.extend.loop" ⟨[.ref D,.ref a,.ref D],[]⟩)) _ _ _
   refine wpAny_bind (wpAny_rule (wpAny_bind ?_))
   show wpAny _ _ (updateSeq D (·.push .none) >>= fun _=>updateSeq D (·.pop)) _ _ _
   have hS₁:(s5.heap.push { cls:=.type "list",data:=.seq ([]:List Value).toArray }).get? D=some { cls:=.type "list",data:=.seq ([]:List Value).toArray }:=by rw [<- hS];exact Heap.get?_push_size _ rfl
   refine wpAny_bind (wpAny_updateSeq hS₁ rfl (wpAny_updateSeq (Heap.get?_update_self (Obj.mapSeq (·.push Value.none)) hS₁ rfl) rfl (wpAny_pure ⟨plainId_quiet F.plain_extend_loop _,codeAny_mono (A4 _ rfl) fun r s' h=>?_⟩)))
   obtain ⟨rfl,H',I',acc,hacc,qq⟩:=h
   obtain ⟨hz,its,c,ri,eS⟩:=I'.hok D _ hacc
   show wpAny _ _ (load D >>= _) _ _ s'
   refine wpAny_bind (wpAny_load eS (wpAny_pure (hQ₂ s' _ ⟨H',acc,I',?_,hz,qq⟩)))
   simpa using ri)))
 refine callType_codes (Q₁:=fun obj s₁=>s₁.TypeIs obj "tuple" /\ EP X pins σ Q obj s₁) F.called_tuple (F.typeCall_tuple_1 _) F.entry_object_init ?_ fun obj s₁ h₁ =>
  ⟨h₁.1,F.args_object_init_2 obj _,object_init_meets F.called_tuple.init.lookup F.called_tuple.made (by decide) _ _ X.A.in1 _ s₁ ⟨h₁.1,rfl,h₁.2⟩⟩
 refine codeAny_of_tree (by
  show wpAny _ X.A.in1.in1 (do checkBuiltinCall "tuple.__new__" ⟨[.type "tuple",.ref a],[]⟩;again (.builtin "tuple.__new__" ⟨[.type "tuple",.ref a],[]⟩)) _ _ s5
  refine wpAny_bind (wpAny_of_eq (F.newCall_tuple_1 _) (wpAny_pure ⟨plainId_quiet F.plain_tuple_new _,codeAny_builtin F.entry_tuple_new (by
   rw [Around.under_plainId F.plain_tuple_new _]
   have hsub:=sub_tuple_self
   have hinit:=init_tuple_lookup
   have hmh:=madeHere_tuple
   wp_walk using wpAny_typeOf tyA,col
   intro s' its hh
   obtain ⟨H',acc,I',ri,hz,qq⟩:=hh
   have hlen:=ri.length
   show wpAny _ _ (Builtin.Tuple.tupleExact its.toArray >>= fun v=>ret v) _ _ _
   unfold Builtin.Tuple.tupleExact
   refine wpAny_bind (wpAny_newObj_type (wpAny_pure ?_) (by show its.toArray.size <= sizeLine;rw [List.size_toArray,<- hlen];exact hz))
   have I2:Inv X pins σ (upd H' s'.heap.objs.size (.tup acc)) { s' with heap:=s'.heap.push { cls:=.type "tuple",data:=.seq its.toArray } } :=
    I'.laid (t':=s'.toks) (fun b o e=>Heap.get?_push_of_some _ e) (Nat.le_refl _) (show cB X.prog X.w _ _ _ (.tup acc) from ⟨hz,its,ri,n9.new _ _⟩)
   exact ⟨⟨_,Heap.get?_push_size _ rfl,rfl⟩,.ref s'.heap.objs.size,_,I2,rfl,qq _ (I'.hok.fresh (Nat.le_refl _))⟩)⟩)))
end
end
section
section
variable {X:Cx} {pins:List (Addr × Obj)} {σ:St} {e tg:Expr} {scope:Scope} {own:List (Str × Nat)} {k:Nat} {Rdy:It->GC->(Hp->Prop)->Hp->Prop} {v:Value} {s5:Shared}
end
end
end L2
end
section
namespace L2.Q3
open PySem PySem.Spec PyProof.Rows
section
abbrev Con:=D->List D->Option (Option (List D))
def sW(con:Con)(fg:Fg)(ft:Ft)(fe:Fe)(vs:List Nat):List D->Rho->List D->Option (Bool × List D × Rho)
 | [],ρ,acc=>some (true,acc,ρ)
 | x :: xs, ρ, acc => (fg x (ar ρ vs)).bind fun ρ1 => (ft ρ1).bind fun p => if p.1 = true then (fe p.2).bind fun q => (f7 q.2 q.1).bind fun z => (con z.1 acc).bind fun o => match o with
     | some acc'=>sW con fg ft fe vs xs z.2 acc'
     | none=>some (false,acc,z.2)
  else sW con fg ft fe vs xs p.2 acc
def qv(con:Con)(fg:Fg)(ft:Ft)(fi1:Fi)(fg1:Fg)(ft1:Ft)(fe:Fe)(vs vs1:List Nat):List D->Rho->List D->Option (Bool × List D × Rho)
 | [],ρ,acc=>some (true,acc,ρ)
 | x :: xs,ρ,acc=>(fg x (ar ρ vs)).bind fun ρ1=>(ft ρ1).bind fun p=>if p.1=true then (fi1 p.2).bind fun q=>(sW con fg1 ft1 fe vs1 q.1 q.2 acc).bind fun r=>if r.1=true then qv con fg ft fi1 fg1 ft1 fe vs vs1 xs r.2.2 r.2.1 else some r
  else qv con fg ft fi1 fg1 ft1 fe vs vs1 xs p.2 acc
def Ko(con:Con)(fg:Fg)(ft:Ft)(fi1:Fi)(fg1:Fg)(ft1:Ft)(fe:Fe)(vs vs1:List Nat):List D->Rho->List D->Nat
 | [],_,_=>0
 | x :: xs,ρ,acc=>((fg x (ar ρ vs)).bind fun ρ1=>(ft ρ1).bind fun p=>if p.1=true then (fi1 p.2).bind fun q=>(sW con fg1 ft1 fe vs1 q.1 q.2 acc).bind fun r=>some (q.1.length + 1 + Ko con fg ft fi1 fg1 ft1 fe vs vs1 xs r.2.2 r.2.1)
  else some (1 + Ko con fg ft fi1 fg1 ft1 fe vs vs1 xs p.2 acc)).getD 0
structure CV (HB:Hp) (Ow:Addr->Prop) (Fz Fz':Addr->Prop) (H H':Hp):Prop where
 fzl:∀ q,Fz' q->H' q ≠ none
 keep:∀ q o,H q=some o->(HB q ≠ none \/ Fz q)->¬ Ow q->H' q=some o
 live:∀ q,H' q=none->H q=none
 grow:∀ q,Fz q->Fz' q
 new:∀ q,Fz' q->Fz q \/ H q=none \/ Ow q
theorem Step.toB{HB:Hp}{Ow Fz Fz':Addr->Prop}{H H':Hp}(a:Step Ow Fz Fz' H H'):CV HB Ow Fz Fz' H H':=⟨a.fzl,fun q o e _ n=>a.keep q o e n,a.live,a.grow,a.new⟩
theorem CV.trans{HB:Hp}{Ow Ow1 Fz Fz1 Fz2:Addr->Prop}{H H1 H2:Hp}(a:CV HB Ow Fz Fz1 H H1)(b:CV HB Ow1 Fz1 Fz2 H1 H2)(o:∀ q,Ow1 q->Ow q \/ H q=none):CV HB Ow Fz Fz2 H H2 where
 fzl:=b.fzl
 keep:=fun q u e c n=>b.keep q u (a.keep q u e c n) (c.imp id (a.grow q)) fun z=>(o q z).elim n fun z=>by rw [z] at e;cases e
 live:=fun q e=>a.live q (b.live q e)
 grow:=fun q e=>b.grow q (a.grow q e)
 new:=fun q e=>by
  rcases b.new q e with e | e | e
  . exact a.new q e
  . exact .inr (.inl (a.live q e))
  . exact (o q e).elim (fun z=>.inr (.inr z)) fun z=>.inr (.inl z)
structure Blk (K:PySem.W.Frag) (HB:Hp) (vs:List Nat) (σ:St) (Fz1:Addr->Prop) (ρ1:Rho) (H1:Hp) (Fzi:Addr->Prop) (ρi:Rho) (Hi:Hp):Prop where
 rel:Rel K Fzi (ar ρi vs) (wipe σ vs) Hi
 step:CV HB (Own (ar ρ1 vs) (wipe σ vs)) Fz1 Fzi H1 Hi
 own:∀ p,Own (ar ρi vs) (wipe σ vs) p->Own (ar ρ1 vs) (wipe σ vs) p
 kp:Kp (ar ρ1 vs) (ar ρi vs)
 len:ρi.length=ρ1.length
structure MH (K:PySem.W.Frag) (HB:Hp) (Acc:(Addr->Prop)->Hp->List D->Prop) (con:Con) (C:GC) (Qs:Hp->Prop):Prop where
 stab:∀ {Ow Fz Fz' H H' acc},Step Ow Fz Fz' H H'->(∀ q,Ow q->HB q ≠ none)->(∀ q,Fz q->¬ Ow q)->Acc Fz H acc->Acc Fz' H' acc
 go:∀ {Fz H v y acc acc' Nx},Acc Fz H acc->Dr K Fz H v y->(∀ q,Fz q->H q ≠ none)->con y acc=some (some acc')->(∀ H',(∀ q o,H q=some o->(HB q ≠ none \/ Fz q)->H' q=some o)->(∀ q,H' q=none->H q=none)->Acc Fz H' acc'->Nx H')->C v H Nx
 st:∀ {Fz H v y acc Nx},Acc Fz H acc->Dr K Fz H v y->con y acc=some none->Qs H->C v H Nx
section
variable {K:PySem.W.Frag} {HB:Hp} {Acc:(Addr->Prop)->Hp->List D->Prop} {con:Con} {C:GC} {Qs:Hp->Prop} {vs:List Nat} {σ:St} {Fz1:Addr->Prop} {ρ1:Rho} {H1:Hp} {J:It} {items:List D} {fg:Fg} {ft:Ft} {fe:Fe}
theorem Blk.start(rw1:Rel K Fz1 (ar ρ1 vs) (wipe σ vs) H1):Blk K HB vs σ Fz1 ρ1 H1 Fz1 ρ1 H1:=⟨rw1,Step.toB (.refl rw1.fzl),fun _ z=>z,.refl,rfl⟩
theorem Blk.part {Fzi Fzc : Addr -> Prop} {ρi ρc : Rho} {Hi Hc : Hp} {σa : St} (b : Blk K HB vs σ Fz1 ρ1 H1 Fzi ρi Hi) (sp : cX K (bF vs) Fzi Fzc (ar ρi vs) ρc (wipe σ vs) σa Hi Hc) (st : Step (Own (ar ρi vs) (wipe σ vs)) Fzi Fzc Hi Hc) (kk : Kp (ar ρi vs) (ar ρc vs)) (oa : ∀ p, Own ρc σa p -> Own (ar ρi vs) (wipe σ vs) p) (hl : σ.length = ρ1.length) :
    Blk K HB vs σ Fz1 ρ1 H1 Fzc ρc Hc:=by
 have wq:wipe σa vs=wipe σ vs:=pU (by rw [sp.len,aR]) sp.same
 obtain ⟨x1,x2⟩:=sp.rel.qu vs
 rw [wq] at x1 x2
 have ownc:∀ p,Own (ar ρc vs) (wipe σ vs) p->Own (ar ρi vs) (wipe σ vs) p:=fun p z=>oa p (x2 p z)
 refine ⟨x1,b.step.trans st.toB fun q z=>.inl (b.own q z),fun p z=>b.own p (ownc p z),b.kp.trans kk,?_⟩
 . have:=sp.rel.len
   rw [sp.len,aR,hl] at this
   exact this
theorem Blk.SS{Fzi:Addr->Prop}{ρi:Rho}{Hi H':Hp}(b:Blk K HB vs σ Fz1 ρ1 H1 Fzi ρi Hi)(hbo:∀ p,OwO (ar ρ1 vs) (wipe σ vs) p->HB p ≠ none)(k:∀ q o,Hi q=some o->(HB q ≠ none \/ Fzi q)->H' q=some o)(l:∀ q,H' q=none->Hi q=none):Blk K HB vs σ Fz1 ρ1 H1 Fzi ρi H':=by
 have drk:∀ {v x},Dr K Fzi Hi v x->Dr K Fzi H' v x:=fun h=>h.keep (fun _ z=>z) (fun q o z e=>k q o e (.inr z)) _ _
 have drak:∀ {vs xs},aD K Fzi Hi vs xs->aD K Fzi H' vs xs:=fun h=>h.keep (fun _ z=>z) (fun q o z e=>k q o e (.inr z)) _ _
 have fz:∀ q,Fzi q->H' q ≠ none:=fun q z e=>b.rel.fzl q z (l q e)
 have obs:∀ (i:Nat) (c:Str) (g:Nat) (ns:List Str),(ar ρi vs)[i]? = some (some (W.ob c g ns))->ObT K Fzi (ar ρi vs) (wipe σ vs) H' i c g ns:=fun i c g ns e=>by
  obtain ⟨h1,h2,q,C,dx,fs,h3,h4,h5,h6,h7,h8⟩:=b.rel.obj i c g ns e
  exact ⟨h1,h2,q,C,dx,fs,h3,h4,k q _ h5 (.inl (hbo q (.inr ⟨i,c,g,ns,(b.kp.ob i c g ns).mp e,h3⟩))),h6,h7,h8⟩
 refine ⟨⟨b.rel.len,fun j w z=>?_,b.rel.apart,b.rel.gD,fz,obs,b.rel.oba⟩,b.step.trans (Ow1:=fun _=>False) ⟨fz,fun q o e c _=>k q o e c,l,fun _ z=>z,fun _ z=>.inl z⟩ fun _ z=>z.elim,b.own,b.kp,b.len⟩
 obtain ⟨u,h1,h2⟩:=b.rel.val j w z
 refine ⟨u,h1,?_⟩
 cases w with
 | d x=>exact drk h2
 | sl _=>exact h2
 | ob _ _ _=>exact h2
 | own xs =>
  obtain ⟨pp,us',y1,y2,y3⟩:=h2
  subst y1
  exact ⟨pp,us',rfl,k pp _ y2 (.inl (hbo pp (.inl (b.own pp ⟨j,xs,z,h1⟩)))),drak y3⟩
theorem MI (co : MH K HB Acc con C Qs) (wk : Walk K Fz1 H1 J items) (rw1 : Rel K Fz1 (ar ρ1 vs) (wipe σ vs) H1) (hl : σ.length = ρ1.length) (hbo : ∀ p, OwO (ar ρ1 vs) (wipe σ vs) p -> HB p ≠ none) {sY : List D} (hacc : Acc Fz1 H1 sY)
    {r:Bool × List D × Rho} (e:sW con fg ft fe vs items ρ1 sY=some r) (ex:Nat) {Qe:Nat->Hp->Prop} (hend:∀ Fzi Hi,Blk K HB vs σ Fz1 ρ1 H1 Fzi r.2.2 Hi->Acc Fzi Hi r.2.1->r.1=true->Qe ex Hi) (hstop:∀ Fzi Hi,Blk K HB vs σ Fz1 ρ1 H1 Fzi r.2.2 Hi->r.1=false->Qs Hi) :
    ∃ W:Nat->Nat->Hp->Prop,W 0 (items.length + ex) H1 /\ B9 J (tG K (bF vs) fg) (tT K ft) (tE K fe) vs σ C Qe W:=by
 refine ⟨fun i m Hi=>i <= items.length /\ m=items.length - i + ex /\ ∃ Fzi ρi acc,Blk K HB vs σ Fz1 ρ1 H1 Fzi ρi Hi /\ Acc Fzi Hi acc /\ sW con fg ft fe vs (items.drop i) ρi acc=some r,⟨Nat.zero_le _,rfl,Fz1,ρ1,sY,.start rw1,hacc,by simpa using e⟩,?_⟩
 rintro i m Hi ⟨hi,rfl,Fzi,ρi,acc,bi,ai,ei⟩
 obtain ⟨w1,w2⟩:=wk Fzi Hi bi.step.grow (fun q o z e=>bi.step.keep q o e (.inr z) fun ow=>rw1.gD q ow z) bi.rel.fzl
 by_cases hlt:i < items.length
 . right
   obtain ⟨x,hx⟩:∃ x,items[i]? = some x:=⟨items[i],List.getElem?_eq_getElem hlt⟩
   obtain ⟨go,yl⟩:=w1 i x hx
   have hdrop:items.drop i=x :: items.drop (i + 1):=by
    rw [List.drop_eq_getElem_cons hlt]
    have:items[i] = x:=by rw [List.getElem?_eq_getElem hlt] at hx;exact Option.some.inj hx
    rw [this]
   rw [hdrop] at ei
   unfold sW at ei
   cases e3:fg x (ar ρi vs) with
   | none=>rw [e3] at ei;cases ei
   | some ρa =>
    simp only [e3,Option.bind_some] at ei
    cases e4:ft ρa with
    | none=>rw [e4] at ei;cases ei
    | some zt =>
     obtain ⟨b,ρb⟩:=zt
     simp only [e4,Option.bind_some] at ei
     refine ⟨go,fun H'=>i + 1 <= items.length /\ ∃ Fzi ρi acc,Blk K HB vs σ Fz1 ρ1 H1 Fzi ρi H' /\ Acc Fzi H' acc /\ sW con fg ft fe vs (items.drop (i + 1)) ρi acc=some r,fun H' ⟨h1,h2⟩=>⟨items.length - (i + 1) + ex,by omega,h1,rfl,h2⟩,fun v H2 yv=>?_⟩
     obtain ⟨Fz2,md⟩:=yl v H2 yv
     have r2:Rel K Fz2 (ar ρi vs) (wipe σ vs) H2:=bi.rel.rP md.step md.new
     have st2:Step (Own (ar ρi vs) (wipe σ vs)) Fzi Fz2 Hi H2:=md.step
     refine ⟨Fz2,ar ρi vs,x,ρa,r2,md.rep,e3,fun σa pa oa=>?_⟩
     refine ⟨pU (by rw [pa.len,aR]) pa.same,Fz2,ρa,b,ρb,pa.rel,e4,fun H3 Fz3 p3=>?_⟩
     have spa:cX K (bF vs) Fzi Fz2 (ar ρi vs) ρa (wipe σ vs) σa Hi H2:=⟨pa.rel,(st2.weak (Ow':=OwO (ar ρi vs) (wipe σ vs)) fun _=>.inl).trans pa.step fun q z=>.inl z,fun p z=>.inl (oa.ow p z),pa.same,pa.kept,pa.len,fun p z=>(pa.obo p z).imp id (st2.live p)⟩
     have back:∀ {Fzc ρc Hc},aP K Fz2 Fzc ρa ρc σa H2 Hc [] []->Blk K HB vs σ Fz1 ρ1 H1 Fzc ρc Hc /\ Acc Fzc Hc acc:=fun {Fzc ρc Hc} pc=>by
      have sp:=spa.trans (pc.sp (fix:=bF vs))
      have sps:=st2.trans pc.step fun q z=>.inl (oa.ow q z)
      exact ⟨bi.part sp sps (vI oa.sm pc.kept) (fun p z=>oa.ow p (pc.own p z)) hl,co.stab sps (fun q z=>hbo q (.inl (bi.own q z))) (fun q z ow=>bi.rel.gD q ow z) ai⟩
     cases b with
     | false =>
      rw [if_neg (by decide)] at ei
      dsimp only
      rw [if_neg (by decide)]
      obtain ⟨x1,x2⟩:=back p3
      exact ⟨hlt,Fz3,ρb,acc,x1,x2,ei⟩
     | true =>
      rw [if_pos rfl] at ei
      dsimp only
      rw [if_pos rfl]
      cases e5:fe ρb with
      | none=>rw [e5] at ei;cases ei
      | some zf =>
       obtain ⟨wv,ρc⟩:=zf
       simp only [e5,Option.bind_some] at ei
       cases e6:f7 ρc wv with
       | none=>rw [e6] at ei;cases ei
       | some ze =>
        obtain ⟨y,ρd⟩:=ze
        simp only [e6,Option.bind_some] at ei
        refine ⟨Fz3,ρb,wv,ρc,p3.rel,e5,fun v4 H4 Fz4 p4=>?_⟩
        obtain ⟨Fz5,p5,d5⟩:=p4.esc (xs:=[y]) (ρ2:=ρd) (by unfold bw;rw [e6];rfl)
        cases d5 with
        | cons dy _ =>
         obtain ⟨x1,x2⟩:=back (p3.seq p5)
         cases e7:con y acc with
         | none=>rw [e7] at ei;cases ei
         | some oc =>
          simp only [e7,Option.bind_some] at ei
          cases oc with
          | some acc'=>exact co.go x2 dy x1.rel.fzl e7 fun H' k l a=>⟨hlt,Fz5,ρd,acc',x1.SS hbo k l,a,ei⟩
          | none =>
           cases ei
           exact co.st x2 dy e7 (hstop Fz5 H4 x1 rfl)
 . left
   have hi':i=items.length:=by omega
   subst hi'
   rw [List.drop_length] at ei
   unfold sW at ei
   cases ei
   refine ⟨w2,?_⟩
   rw [Nat.sub_self,Nat.zero_add]
   exact hend Fzi Hi bi ai rfl
end
end
section
theorem Av{k:Nat}:∀ {ρ:Rho} {vs:List Nat},k ∈ vs->k < ρ.length->(ar ρ vs)[k]? = some none
 | _,[],h,_=>by simp at h
 | ρ,v :: vs,h,hl=>by
  unfold ar
  by_cases hv:v=k
  . subst hv;rw [List.getElem?_set_self (by rw [di];exact hl)]
  . rw [List.getElem?_set_ne hv]
    rcases List.mem_cons.mp h with h | h
    . exact absurd h.symm hv
    . exact Av h hl
theorem Kq{ρ:Rho}{vs vs1:List Nat}(hv:∀ i ∈ vs1,i ∈ vs):ar (ar ρ vs1) vs=ar ρ vs:=by
 apply List.ext_getElem?
 intro k
 by_cases hk:k ∈ vs
 . by_cases hkl:k < ρ.length
   . rw [Av hk (by rw [di];exact hkl),Av hk hkl]
   . rw [List.getElem?_eq_none (by rw [di,di];omega),List.getElem?_eq_none (by rw [di];omega)]
 . rw [aF hk,aF hk,aF fun z=>hk (hv k z)]
theorem MJ{σ:St}{vs vs1:List Nat}(hv:∀ i ∈ vs1,i ∈ vs):wipe (wipe σ vs1) vs=wipe σ vs :=
 pU (aR _ _) fun k hk=>by
  have hk:k ∉ vs:=by simpa [bF] using hk
  rw [bj hk,bj fun z=>hk (hv k z)]
section
variable {K:PySem.W.Frag} {HB:Hp} {Acc:(Addr->Prop)->Hp->List D->Prop} {con:Con} {C:GC} {Qs:Hp->Prop} {vs vs1:List Nat} {σ:St} {Fz1:Addr->Prop} {ρ1:Rho} {H1:Hp} {J:It} {items:List D} {fg fg1:Fg} {ft ft1:Ft} {fi1:Fi} {fe:Fe}
theorem Q4{ρa ρb:Rho}(hv:∀ i ∈ vs1,i ∈ vs)(k:Kp (ar ρa vs1) (ar ρb vs1)):Kp (ar ρa vs) (ar ρb vs):=by
 refine ⟨fun j w e=>?_,fun j c g ns=>?_,fun j w e=>?_⟩
 . obtain ⟨z1,z2⟩:=bC e
   have z3:j ∉ vs1:=fun y=>z2 (hv j y)
   obtain ⟨w',y1,y2⟩:=k.ke j w (by rw [aF z3];exact z1)
   exact ⟨w',by rw [aF z2];rw [aF z3] at y1;exact y1,y2⟩
 . by_cases hj:j ∈ vs
   . exact ⟨fun e=>absurd e (vH hj),fun e=>absurd e (vH hj)⟩
   . have z3:j ∉ vs1:=fun y=>hj (hv j y)
     have:=k.ob j c g ns
     rw [aF z3,aF z3] at this
     rw [aF hj,aF hj];exact this
 . obtain ⟨z1,z2⟩:=bC e
   have z3:j ∉ vs1:=fun y=>z2 (hv j y)
   obtain ⟨w',y1⟩:=k.un j w (by rw [aF z3];exact z1)
   exact ⟨w',by rw [aF z2];rw [aF z3] at y1;exact y1⟩
theorem Blk.outer {Fzi Fzc Fze : Addr -> Prop} {ρi ρc ρe : Rho} {Hi Hc He : Hp} {σa : St} (b : Blk K HB vs σ Fz1 ρ1 H1 Fzi ρi Hi) (sp : cX K (bF vs) Fzi Fzc (ar ρi vs) ρc (wipe σ vs) σa Hi Hc) (st : Step (Own (ar ρi vs) (wipe σ vs)) Fzi Fzc Hi Hc) (kk : Kp (ar ρi vs) (ar ρc vs)) (oa : ∀ p, Own ρc σa p -> Own (ar ρi vs) (wipe σ vs) p) (hl : σ.length = ρ1.length)
    (hv:∀ i ∈ vs1,i ∈ vs) (bi:Blk K HB vs1 σa Fzc ρc Hc Fze ρe He):Blk K HB vs σ Fz1 ρ1 H1 Fze ρe He:=by
 have wq:wipe σa vs=wipe σ vs:=pU (by rw [sp.len,aR]) sp.same
 obtain ⟨x1,x2⟩:=bi.rel.qu vs
 rw [Kq hv,MJ hv,wq] at x1 x2
 have b1:=b.part sp st kk oa hl
 have oc:∀ p,Own (ar ρc vs1) (wipe σa vs1) p->Own (ar ρi vs) (wipe σ vs) p:=fun p z=>oa p ((sp.rel.qu vs1).2 p z)
 have ownc:∀ p,Own (ar ρe vs) (wipe σ vs) p->Own (ar ρi vs) (wipe σ vs) p:=fun p z=>oc p (bi.own p (x2 p z))
 refine ⟨x1,b1.step.trans bi.step fun q z=>.inl (b.own q (oc q z)),fun p z=>b.own p (ownc p z),b1.kp.trans (Q4 hv bi.kp),bi.len.trans b1.len⟩
theorem T2 (co : MH K HB Acc con C Qs) (wk : Walk K Fz1 H1 J items) (rw1 : Rel K Fz1 (ar ρ1 vs) (wipe σ vs) H1) (hl : σ.length = ρ1.length) (hbo : ∀ p, OwO (ar ρ1 vs) (wipe σ vs) p -> HB p ≠ none) {sY : List D} (hacc : Acc Fz1 H1 sY) (hv : ∀ i ∈ vs1, i ∈ vs)
    {r:Bool × List D × Rho} (e:qv con fg ft fi1 fg1 ft1 fe vs vs1 items ρ1 sY=some r) {Qe:Hp->Prop} (hend:∀ Fzi Hi,Blk K HB vs σ Fz1 ρ1 H1 Fzi r.2.2 Hi->Acc Fzi Hi r.2.1->r.1=true->Qe Hi) (hstop:∀ Fzi Hi,Blk K HB vs σ Fz1 ρ1 H1 Fzi r.2.2 Hi->r.1=false->Qs Hi) :
    ∃ W:Nat->Nat->Hp->Prop,(∃ m,W 0 m H1) /\ GD J (tG K (bF vs) fg) (tT K ft) (tI K fi1) (tG K (bF vs1) fg1) (tT K ft1) (tE K fe) vs vs1 σ C Qe W:=by
 refine ⟨fun i m Hi=>i <= items.length /\ ∃ Fzi ρi acc,Blk K HB vs σ Fz1 ρ1 H1 Fzi ρi Hi /\ Acc Fzi Hi acc /\ qv con fg ft fi1 fg1 ft1 fe vs vs1 (items.drop i) ρi acc=some r /\ m=Ko con fg ft fi1 fg1 ft1 fe vs vs1 (items.drop i) ρi acc,⟨_,Nat.zero_le _,Fz1,ρ1,sY,.start rw1,hacc,by simpa using e,rfl⟩,?_⟩
 rintro i m Hi ⟨hi,Fzi,ρi,acc,bi,ai,ei,hm⟩
 obtain ⟨w1,w2⟩:=wk Fzi Hi bi.step.grow (fun q o z e=>bi.step.keep q o e (.inr z) fun ow=>rw1.gD q ow z) bi.rel.fzl
 by_cases hlt:i < items.length
 . right
   obtain ⟨x,hx⟩:∃ x,items[i]? = some x:=⟨items[i],List.getElem?_eq_getElem hlt⟩
   obtain ⟨go,yl⟩:=w1 i x hx
   have hdrop:items.drop i=x :: items.drop (i + 1):=by
    rw [List.drop_eq_getElem_cons hlt]
    have:items[i] = x:=by rw [List.getElem?_eq_getElem hlt] at hx;exact Option.some.inj hx
    rw [this]
   rw [hdrop] at ei hm
   unfold qv at ei
   unfold Ko at hm
   cases e3:fg x (ar ρi vs) with
   | none=>rw [e3] at ei;cases ei
   | some ρa =>
    simp only [e3,Option.bind_some] at ei hm
    cases e4:ft ρa with
    | none=>rw [e4] at ei;cases ei
    | some zt =>
     obtain ⟨b,ρb⟩:=zt
     simp only [e4,Option.bind_some] at ei hm
     refine ⟨go,fun v H2 yv=>?_⟩
     obtain ⟨Fz2,md⟩:=yl v H2 yv
     have r2:Rel K Fz2 (ar ρi vs) (wipe σ vs) H2:=bi.rel.rP md.step md.new
     have st2:Step (Own (ar ρi vs) (wipe σ vs)) Fzi Fz2 Hi H2:=md.step
     refine ⟨Fz2,ar ρi vs,x,ρa,r2,md.rep,e3,fun σa pa oa=>?_⟩
     refine ⟨pU (by rw [pa.len,aR]) pa.same,Fz2,ρa,b,ρb,pa.rel,e4,fun H3 Fz3 p3=>?_⟩
     have spa:cX K (bF vs) Fzi Fz2 (ar ρi vs) ρa (wipe σ vs) σa Hi H2:=⟨pa.rel,(st2.weak (Ow':=OwO (ar ρi vs) (wipe σ vs)) fun _=>.inl).trans pa.step fun q z=>.inl z,fun p z=>.inl (oa.ow p z),pa.same,pa.kept,pa.len,fun p z=>(pa.obo p z).imp id (st2.live p)⟩
     cases b with
     | false =>
      rw [if_neg (by decide)] at ei hm
      dsimp only
      rw [if_neg (by decide)]
      have sp:=spa.trans (p3.sp (fix:=bF vs))
      have sps:=st2.trans p3.step fun q z=>.inl (oa.ow q z)
      exact ⟨_,by rw [hm];exact Nat.lt_of_lt_of_eq (Nat.lt_add_of_pos_left Nat.one_pos) rfl,hlt,Fz3,ρb,acc,bi.part sp sps (vI oa.sm p3.kept) (fun p z=>oa.ow p (p3.own p z)) hl,co.stab sps (fun q z=>hbo q (.inl (bi.own q z))) (fun q z ow=>bi.rel.gD q ow z) ai,ei,rfl⟩
     | true =>
      rw [if_pos rfl] at ei hm
      dsimp only
      rw [if_pos rfl]
      cases e5:fi1 ρb with
      | none=>rw [e5] at ei;cases ei
      | some zf =>
       obtain ⟨items1,ρc⟩:=zf
       simp only [e5,Option.bind_some] at ei hm
       cases e6:sW con fg1 ft1 fe vs1 items1 ρc acc with
       | none=>rw [e6] at ei;cases ei
       | some r1 =>
        simp only [e6,Option.bind_some] at ei hm
        refine ⟨Fz3,ρb,items1,ρc,p3.rel,e5,fun J1 H4 Fz4 p4 wk1=>?_⟩
        have p34:=p3.seq p4
        have sp:=spa.trans (p34.sp (fix:=bF vs))
        have sps:=st2.trans p34.step fun q z=>.inl (oa.ow q z)
        have kk:=vI oa.sm p34.kept
        have oc:∀ p,Own ρc σa p->Own (ar ρi vs) (wipe σ vs) p:=fun p z=>oa.ow p (p34.own p z)
        obtain ⟨y1,y2⟩:=p4.rel.qu vs1
        have a4:Acc Fz4 H4 acc:=co.stab sps (fun q z=>hbo q (.inl (bi.own q z))) (fun q z ow=>bi.rel.gD q ow z) ai
        have obc:∀ p,ObA (ar ρc vs1) (wipe σa vs1) p->ObA (ar ρ1 vs) (wipe σ vs) p:=fun p ⟨j,c,g,ns,z1,z2⟩=>by
         have q1:=(p34.kept.ob j c g ns).mp (bC z1).1
         have q2:=(bY z2).1
         rcases pa.obo p ⟨j,c,g,ns,q1,q2⟩ with ⟨j',c',g',ns',q3,q4⟩ | q3
         . exact ⟨j',c',g',ns',(bi.kp.ob j' c' g' ns').mp q3,q4⟩
         . obtain ⟨_,_,q',C,dx,fs,h3,h4,h5,_⟩:=pa.rel.obj j c g ns q1
           rw [q2] at h3
           cases h3
           rw [q3] at h5;cases h5
        obtain ⟨W1,h0,h1⟩:=MI co wk1 y1 (by have:=p4.rel.len;omega) (fun p z=>hbo p (z.imp (fun z=>bi.own p (oc p (y2 p z))) (obc p))) a4 e6 (Ko con fg ft fi1 fg1 ft1 fe vs vs1 (items.drop (i + 1)) r1.2.2 r1.2.1)
         (Qe:=fun k H=>∃ m',m' <= k /\ i + 1 <= items.length /\ ∃ Fzi ρi acc,Blk K HB vs σ Fz1 ρ1 H1 Fzi ρi H /\ Acc Fzi H acc /\ qv con fg ft fi1 fg1 ft1 fe vs vs1 (items.drop (i + 1)) ρi acc=some r /\ m'=Ko con fg ft fi1 fg1 ft1 fe vs vs1 (items.drop (i + 1)) ρi acc)
         (fun Fze He be ae ht=>by
          rw [if_pos ht] at ei
          exact ⟨_,Nat.le_refl _,hlt,Fze,r1.2.2,r1.2.1,bi.outer sp sps kk oc hl hv be,ae,ei,rfl⟩)
         (fun Fze He be hf=>by
          rw [if_neg (by rw [hf];decide)] at ei
          cases ei
          exact hstop Fze He (bi.outer sp sps kk oc hl hv be) hf)
        refine ⟨W1,⟨_,?_,h0⟩,h1⟩
        rw [hm]
        simp only [Option.getD_some]
        omega
 . left
   have hi':i=items.length:=by omega
   subst hi'
   rw [List.drop_length] at ei
   unfold qv at ei
   cases ei
   exact ⟨w2,hend Fzi Hi bi ai rfl⟩
theorem Blk.post{Fz:Addr->Prop}{ρ ρ2:Rho}{H Hi:Hp}{Fzi:Addr->Prop}(p1:aP K Fz Fz1 ρ ρ1 σ H H1 [] [])(b:Blk K H1 vs σ Fz1 ρ1 H1 Fzi ρ2 Hi):aP K Fz Fzi ρ (b8 ρ1 ρ2 vs) σ H Hi [] []:=by
 obtain ⟨rw1,ow1⟩:=p1.rel.qu vs
 have nv:∀ (j:Nat) (xs:OX) (p:Addr),j ∈ vs->ρ1[j]? = some (some (W.own xs))->σ[j]? = some (some (V.ref p))->¬ Own (ar ρ1 vs) (wipe σ vs) p:=fun j xs p hj e1 e2 ⟨i,ys,f1,f2⟩=>by
  obtain ⟨g1,g2⟩:=bC f1
  have:=p1.rel.apart i j ys xs p g1 e1 (bY f2).1 e2
  exact g2 (this ▸ hj)
 have live:∀ (j:Nat) (xs:OX) (p:Addr),ρ1[j]? = some (some (W.own xs))->σ[j]? = some (some (V.ref p))->∃ us,H1 p=some (hoX xs us) /\ aD K Fz1 H1 us (dX xs):=fun j xs p e1 e2=>by
  obtain ⟨u,hu,q,us,h1,h2,h3⟩:=p1.rel.val j _ e1
  rw [e2] at hu;cases hu;cases h1
  exact ⟨us,h2,h3⟩
 have own':∀ p,Own (b8 ρ1 ρ2 vs) σ p->Own ρ1 σ p:=fun p ⟨j,xs,z1,z2⟩=>by
  rcases bH z1 with ⟨h1,h2⟩ | ⟨h1,h2⟩
  . exact ⟨j,xs,h2,z2⟩
  . exact ow1 p (b.own p ⟨j,xs,by rw [aF h1];exact h2,by rw [bj h1];exact z2⟩)
 have stt:Step (Own ρ1 σ) Fz1 Fzi H1 Hi:=⟨b.step.fzl,fun q o e n=>b.step.keep q o e (.inl (by rw [e];exact fun z=>nomatch z)) fun z=>n (ow1 q z),b.step.live,b.step.grow,fun q z=>(b.step.new q z).imp id fun y=>y.imp id (ow1 q)⟩
 refine ⟨⟨?_,fun j w z=>?_,fun j k xs ys' p z1 z2 z3 z4=>?_,fun p ⟨j,xs,z1,z2⟩ hz=>?_,b.rel.fzl,Ap p1.rel stt b.len b.kp,p1.rel.LU (kp_rest b.len b.kp)⟩,.nil,fun p hp=>absurd (show p ∈ ([]:List Addr) from hp) (by simp),List.nodup_nil,p1.step.trans stt fun q z=>.inl (p1.own q z),fun p z=>p1.own p (own' p z),p1.kept.trans (kp_rest b.len b.kp)⟩
 . rw [fB,b.len];exact p1.rel.len
 . rcases bH z with ⟨h1,h2⟩ | ⟨h1,h2⟩
   . obtain ⟨u,g1,g2⟩:=p1.rel.val j w h2
     refine ⟨u,g1,?_⟩
     cases w with
     | d x=>exact p1.rel.dr stt g2
     | own xs =>
      obtain ⟨p,us,k1,k2,k3⟩:=g2
      subst k1
      exact ⟨p,us,rfl,b.step.keep p _ k2 (.inl (by rw [k2];exact fun z=>nomatch z)) (nv j xs p h1 h2 g1),p1.rel.Aa stt k3⟩
     | sl _=>exact g2
     | ob _ _ _=>exact g2
   . obtain ⟨u,g1,g2⟩:=b.rel.val j w (by rw [aF h1];exact h2)
     exact ⟨u,by rw [bj h1] at g1;exact g1,g2⟩
 . have out:∀ (k:Nat) (ys:OX),k ∉ vs->ρ2[k]? = some (some (W.own ys))->σ[k]? = some (some (V.ref p))->Own (ar ρ1 vs) (wipe σ vs) p:=fun k ys h1 h2 h3=>b.own p ⟨k,ys,by rw [aF h1];exact h2,by rw [bj h1];exact h3⟩
   rcases bH z1 with ⟨h1,h2⟩ | ⟨h1,h2⟩
   . rcases bH z2 with ⟨h3,h4⟩ | ⟨h3,h4⟩
     . exact p1.rel.apart j k xs ys' p h2 h4 z3 z4
     . exact absurd (out k ys' h3 h4 z4) (nv j xs p h1 h2 z3)
   . rcases bH z2 with ⟨h3,h4⟩ | ⟨h3,h4⟩
     . exact absurd (out j xs h1 h2 z3) (nv k ys' p h3 h4 z4)
     . exact b.rel.apart j k xs ys' p (by rw [aF h1];exact h2) (by rw [aF h3];exact h4) (by rw [bj h1];exact z3) (by rw [bj h3];exact z4)
 . rcases bH z1 with ⟨h1,h2⟩ | ⟨h1,h2⟩
   . obtain ⟨us,k1,_⟩:=live j xs p h2 z2
     rcases b.step.new p hz with y | y | y
     . exact p1.rel.gD p ⟨j,xs,h2,z2⟩ y
     . rw [k1] at y;cases y
     . exact nv j xs p h1 h2 z2 y
   . exact b.rel.gD p ⟨j,xs,by rw [aF h1];exact h2,by rw [bj h1];exact z2⟩ hz
end
end
section
def eU:Con:=fun y acc=>if acc.length < 16777216 then some (some (acc ++ [y])) else none
def OK(go:Bool):Con:=fun y acc=>match y with
 | .bool b=>if b=go then some (some acc) else some none
 | _=>none
def SU(K:PySem.W.Frag)(D:Addr):(Addr->Prop)->Hp->List Q3.D->Prop:=fun Fz H acc=>∃ us,H D=some (.lst us) /\ aD K Fz H us acc /\ ¬ Fz D
section
variable {K:PySem.W.Frag} {HB:Hp}
theorem Et{D:Addr}(hD:HB D=none):MH K HB (SU K D) eU (KH D) (fun _=>True):=by
 refine ⟨fun {Ow Fz Fz' H H' acc} st ho hn a=>?_,fun {Fz H v y acc acc' Nx} a dy l e k=>?_,fun {Fz H v y acc Nx} a dy e q=>by
  unfold eU at e
  by_cases hz:acc.length < 16777216
  . rw [if_pos hz] at e;cases e
  . rw [if_neg hz] at e;cases e⟩
 . obtain ⟨us,h1,h2,h3⟩:=a
   have nD:¬ Ow D:=fun z=>ho D z hD
   refine ⟨us,st.keep D _ h1 nD,h2.keep st.grow (fun q o z e=>st.keep q o e (hn q z)) _ _,fun z=>?_⟩
   rcases st.new D z with z | z | z
   . exact h3 z
   . rw [h1] at z;cases z
   . exact nD z
 . obtain ⟨us,h1,h2,h3⟩:=a
   unfold eU at e
   by_cases hz:acc.length < 16777216
   . rw [if_pos hz] at e
     cases e
     have hk:∀ q o,H q=some o->q ≠ D->upd H D (HO.lst (us ++ [v])) q=some o:=fun q o z h=>by rw [aL h];exact z
     have nf:∀ q,Fz q->q ≠ D:=fun q z h=>h3 (h ▸ z)
     refine ⟨us,h1,by rw [h2.length,sizeLine_eq];exact hz,k _ (fun q o e c=>hk q o e fun h=>?_) ba ⟨us ++ [v],bt,(h2.append (.cons dy .nil)).keep (fun _ z=>z) (fun q o z e=>hk q o e (nf q z)) _ _,h3⟩⟩
     subst h
     rcases c with c | c
     . exact c hD
     . exact h3 c
   . rw [if_neg hz] at e;cases e
end
def sU(con:Con)(out:Bool->List D->W)(fi:Fi)(fg:Fg)(ft:Ft)(fe:Fe)(vs:List Nat):Fe:=fun ρ=>(fi ρ).bind fun p=>(sW con fg ft fe vs p.1 p.2 []).bind fun q=>some (out q.1 q.2.1,b8 p.2 q.2.2 vs)
def HV(con:Con)(out:Bool->List D->W)(fi:Fi)(fg:Fg)(ft:Ft)(fi1:Fi)(fg1:Fg)(ft1:Ft)(fe:Fe)(vs vs1:List Nat):Fe:=fun ρ=>(fi ρ).bind fun p=>(qv con fg ft fi1 fg1 ft1 fe vs vs1 p.1 p.2 []).bind fun q=>some (out q.1 q.2.1,b8 p.2 q.2.2 vs)
def me:Bool->List D->W:=fun _ ys=>.d (.tuple ys)
def rJ:Bool->List D->W:=fun _ ys=>.fr ys
def Eu(go:Bool):Bool->List D->W:=fun b _=>.d (.bool (if b=true then go else !go))
theorem CW{con:Con}{out:Bool->List D->W}{fi:Fi}{fg:Fg}{ft:Ft}{fe:Fe}{vs:List Nat}{ρ ρ':Rho}{w:W}(e:sU con out fi fg ft fe vs ρ=some (w,ρ')):∃ items ρ1 r,fi ρ=some (items,ρ1) /\ sW con fg ft fe vs items ρ1 [] = some r /\ w=out r.1 r.2.1 /\ ρ'=b8 ρ1 r.2.2 vs:=by
 unfold sU at e
 cases e1:fi ρ with
 | none=>rw [e1] at e;cases e
 | some p =>
  obtain ⟨items,ρ1⟩:=p
  simp only [e1,Option.bind_some] at e
  cases e2:sW con fg ft fe vs items ρ1 [] with
  | none=>rw [e2] at e;cases e
  | some r =>
   simp only [e2,Option.bind_some] at e
   cases e
   exact ⟨items,ρ1,r,rfl,e2,rfl,rfl⟩
theorem Kr{con:Con}{out:Bool->List D->W}{fi fi1:Fi}{fg fg1:Fg}{ft ft1:Ft}{fe:Fe}{vs vs1:List Nat}{ρ ρ':Rho}{w:W}(e:HV con out fi fg ft fi1 fg1 ft1 fe vs vs1 ρ=some (w,ρ')):∃ items ρ1 r,fi ρ=some (items,ρ1) /\ qv con fg ft fi1 fg1 ft1 fe vs vs1 items ρ1 [] = some r /\ w=out r.1 r.2.1 /\ ρ'=b8 ρ1 r.2.2 vs:=by
 unfold HV at e
 cases e1:fi ρ with
 | none=>rw [e1] at e;cases e
 | some p =>
  obtain ⟨items,ρ1⟩:=p
  simp only [e1,Option.bind_some] at e
  cases e2:qv con fg ft fi1 fg1 ft1 fe vs vs1 items ρ1 [] with
  | none=>rw [e2] at e;cases e
  | some r =>
   simp only [e2,Option.bind_some] at e
   cases e
   exact ⟨items,ρ1,r,rfl,e2,rfl,rfl⟩
section
variable {K:PySem.W.Frag} {fi fi1:Fi} {fg fg1:Fg} {ft ft1:Ft} {fe:Fe} {vs vs1:List Nat} {σ:St} {H:Hp} {Q:VK}
theorem HW{Fz1:Addr->Prop}{ρ1:Rho}{H1:Hp}(r:Rel K Fz1 ρ1 σ H1):∀ p,OwO (ar ρ1 vs) (wipe σ vs) p->H1 p ≠ none:=fun p z=>by
 rcases z with z | ⟨i,c,g,ns,e1,e2⟩
 rotate_left
 . obtain ⟨_,_,q,C,dx,fs,h3,h4,h5,_⟩:=r.obj i c g ns (bC e1).1
   rw [(bY e2).1] at h3
   cases h3
   rw [h5];exact fun z=>nomatch z
 obtain ⟨i,xs,e1,e2⟩:=(r.qu vs).2 p z
 obtain ⟨u,hu,q,us,h1,h2,_⟩:=r.val i _ e1
 rw [e2] at hu;cases hu;cases h1
 rw [h2];exact fun z=>nomatch z
theorem sY{Fz1:Addr->Prop}{ρ1:Rho}{H1:Hp}{D:Addr}(r:Rel K Fz1 ρ1 σ H1)(hD:H1 D=none):Rel K Fz1 (ar ρ1 vs) (wipe σ vs) (upd H1 D (.lst [])) /\ SU K D Fz1 (upd H1 D (.lst [])) [] /\ (∀ q o,H1 q=some o->upd H1 D (.lst []) q=some o):=by
 have k0:=vC (o:=HO.lst []) hD
 exact ⟨(r.qu vs).1.rP ⟨fun q z e=>r.fzl q z (ba q e),fun q o e _=>k0 q o e,ba,fun _ z=>z,fun _ z=>.inl z⟩ fun _ z=>.inl z,⟨[],bt,.nil,fun z=>r.fzl D z hD⟩,k0⟩
theorem Aw{Fz1:Addr->Prop}{H1 H2:Hp}{J:It}{items:List D}(wk:Walk K Fz1 H1 J items)(k:∀ q o,H1 q=some o->H2 q=some o):Walk K Fz1 H2 J items:=fun Fz' H' g kk l=>wk Fz' H' g (fun q o z e=>kk q o z (k q o e)) l
theorem Blk.base{HB:Hp}{Fz1:Addr->Prop}{ρ1:Rho}{H1 H2:Hp}{Fzi:Addr->Prop}{ρi:Rho}{Hi:Hp}(k:∀ q o,H1 q=some o->H2 q=some o)(l:∀ q,H2 q=none->H1 q=none)(b:Blk K HB vs σ Fz1 ρ1 H2 Fzi ρi Hi):Blk K HB vs σ Fz1 ρ1 H1 Fzi ρi Hi :=
 ⟨b.rel,⟨b.step.fzl,fun q o e c n=>b.step.keep q o (k q o e) c n,fun q e=>l q (b.step.live q e),b.step.grow,fun q z=>(b.step.new q z).imp id fun y=>y.imp (l q) id⟩,b.own,b.kp,b.len⟩
theorem OL(h:tE K (sU eU me fi fg ft fe vs) σ H Q):tI K fi σ H fun J H1=>∀ D,H1 D=none->Rj (tG K (bF vs) fg) (tT K ft) (tE K fe) vs σ J (KH D) (fun H=>∃ acc,H D=some (.lst acc) /\ ∀ p,H p=none->Q (.ref p) (upd H p (.tup acc))) (upd H1 D (.lst [])):=by
 obtain ⟨Fz,ρ,w,ρ',r,e,q⟩:=h
 obtain ⟨items,ρ1,rr,e1,e2,rfl,rfl⟩:=CW e
 refine ⟨Fz,ρ,items,ρ1,r,e1,fun J H1 Fz1 p1 wk D hD=>?_⟩
 obtain ⟨x1,x2,x3⟩:=sY (vs:=vs) p1.rel hD
 obtain ⟨W,w0,tn⟩:=MI (HB:=H1) (Et hD) (Aw wk x3) x1 p1.rel.len.symm (HW p1.rel) x2 e2 0
  (Qe:=fun _ H=>∃ acc,H D=some (.lst acc) /\ ∀ p,H p=none->Q (.ref p) (upd H p (.tup acc)))
  (fun Fzi Hi b a _=>by
   obtain ⟨us,h1,h2,h3⟩:=a
   have po:=(b.base x3 ba).post p1
   exact ⟨us,h1,fun p hp=>q _ _ _ (po.made (.Eb po.rel.fzl hp h2))⟩)
  (fun Fzi Hi b hf=>trivial)
 exact ⟨W,⟨_,w0⟩,tn⟩
theorem OM(hs:∀ i ∈ vs1,i ∈ vs)(h:tE K (HV eU me fi fg ft fi1 fg1 ft1 fe vs vs1) σ H Q):tI K fi σ H fun J H1=>∀ D,H1 D=none->Rk (tG K (bF vs) fg) (tT K ft) (tI K fi1) (tG K (bF vs1) fg1) (tT K ft1) (tE K fe) vs vs1 σ J (KH D) (fun H=>∃ acc,H D=some (.lst acc) /\ ∀ p,H p=none->Q (.ref p) (upd H p (.tup acc))) (upd H1 D (.lst [])):=by
 obtain ⟨Fz,ρ,w,ρ',r,e,q⟩:=h
 obtain ⟨items,ρ1,rr,e1,e2,rfl,rfl⟩:=Kr e
 refine ⟨Fz,ρ,items,ρ1,r,e1,fun J H1 Fz1 p1 wk D hD=>?_⟩
 obtain ⟨x1,x2,x3⟩:=sY (vs:=vs) p1.rel hD
 exact T2 (HB:=H1) (Et hD) (Aw wk x3) x1 p1.rel.len.symm (HW p1.rel) x2 hs e2
  (fun Fzi Hi b a _=>by
   obtain ⟨us,h1,h2,h3⟩:=a
   have po:=(b.base x3 ba).post p1
   exact ⟨us,h1,fun p hp=>q _ _ _ (po.made (.Eb po.rel.fzl hp h2))⟩)
  (fun Fzi Hi b hf=>trivial)
theorem MK(h:tE K (sU eU rJ fi fg ft fe vs) σ H Q):tLc (tI K fi) (tG K (bF vs) fg) (tT K ft) (tE K fe) vs σ H Q:=by
 obtain ⟨Fz,ρ,w,ρ',r,e,q⟩:=h
 obtain ⟨items,ρ1,rr,e1,e2,rfl,rfl⟩:=CW e
 refine ⟨Fz,ρ,items,ρ1,r,e1,fun J H1 Fz1 p1 wk D hD=>?_⟩
 obtain ⟨x1,x2,x3⟩:=sY (vs:=vs) p1.rel hD
 obtain ⟨W,w0,tn⟩:=MI (HB:=H1) (Et hD) (Aw wk x3) x1 p1.rel.len.symm (HW p1.rel) x2 e2 0 (Qe:=fun _=>Q (.ref D))
  (fun Fzi Hi b a _=>by
   obtain ⟨us,h1,h2,h3⟩:=a
   have po:=(b.base x3 ba).post p1
   refine q _ _ _ ⟨po.rel,.cons ⟨D,us,rfl,h1,h2⟩ .nil,fun p hp=>?_,dQ,po.step,po.own,po.kept⟩
   have hp:p=D:=by simpa [frs,rJ] using hp
   subst hp
   exact ⟨p1.step.live p hD,h3,fun z=>by
    obtain ⟨i,xs,g1,g2⟩:=z
    have:Own ρ1 σ p:=by
     rcases bH g1 with ⟨_,y⟩ | ⟨y1,y2⟩
     . exact ⟨i,xs,y,g2⟩
     . exact (p1.rel.qu vs).2 p (b.own p ⟨i,xs,by rw [aF y1];exact y2,by rw [bj y1];exact g2⟩)
    obtain ⟨j,ys,k1,k2⟩:=this
    obtain ⟨u,hu,q',us',k3,k4,_⟩:=p1.rel.val j _ k1
    rw [k2] at hu;cases hu;cases k3
    rw [hD] at k4;cases k4⟩)
  (fun Fzi Hi b hf=>trivial)
 exact ⟨W,⟨_,w0⟩,tn⟩
end
end
section
def ON(scope:Scope):Bool:=(scope.names.all fun y=>match y.2 with | .cell=>false | _=>true) && (match scope.names.lookup (".0" : Str) with | some .local=>true | _=>false) && !scope.isCoroutine
theorem ML{scope:Scope}(h:ON scope=true):(∀ y ∈ scope.names,y.2 ≠ .cell) /\ scope.names.lookup (".0" : Str)=some NameKind.local /\ scope.isCoroutine=false:=by
 unfold ON at h
 simp only [Bool.and_eq_true,List.all_eq_true,Bool.not_eq_true'] at h
 obtain ⟨⟨h1,h2⟩,h3⟩:=h
 refine ⟨fun y hy e=>?_,?_,h3⟩
 . have:=h1 y hy
   rw [e] at this;cases this
 . split at h2
   . assumption
   . cases h2
theorem MM{k:Nat}{A:Around}{elt:Expr}{cls:List Comprehension}{scope:Scope}{pos:Pos}{it:Addr}{genv:Env}(hr:bZ (k + 1) A):bZ k (kS A.in1.in1.in1.in1 (.GeneratorExp elt cls scope pos) it genv):=by
 refine ⟨hr.hd,?_,?_⟩
 . have:=hr.dp
   show A.depth + frameCount [] + Code.weight (.compLoop (.GeneratorExp elt cls scope pos) 0 (.ref it) .none genv) + 3 * k + 5 < recursionLimit
   have e1:frameCount [] = 0:=rfl
   have e2:Code.weight (.compLoop (.GeneratorExp elt cls scope pos) 0 (.ref it) .none genv)=1:=rfl
   omega
 . have:=hr.un
   show A.units + 1 + 1 + 1 + 1 + unitsOf [] + Code.cUnits (.compLoop (.GeneratorExp elt cls scope pos) 0 (.ref it) .none genv) + 16 * k + 200 < cLine
   have e1:unitsOf [] = 0:=rfl
   have e2:Code.cUnits (.compLoop (.GeneratorExp elt cls scope pos) 0 (.ref it) .none genv)=3:=rfl
   omega
theorem yH{k:Nat}{A:Around}(hr:bZ k A):A.depth < recursionLimit:=by have:=hr.dp;omega
abbrev InG(X:Cx)(k:Nat)(scope:Scope)(J:Cx->Prop):Prop:=∀ (s:Shared) (gs:Array GenState) (H:Hp) (C:Addr) (cl:List (Str × Addr)) (code:Value) (fp:List Addr) (A':Around),bZ k A'->J (X.n0 s gs H scope (genEnv scope cl C code builtinsNs X.env) fp A')
section
variable {X:Cx} {elt tg iter tg1 iter1:Expr} {ifs ifs1:List Expr} {scope:Scope} {own:List (Str × Nat)} {vs vs1:List Nat} {pos gpos p:Pos} {fi fi1:Fi} {fg fg1:Fg} {ft ft1:Ft} {fe:Fe} {k:Nat}
theorem Ax (hr : bZ (k + 1) X.A) (G : uN X) (hc : X.calm = true) (hN : X.N.Nodup) (hv : own.map (·.2) = vs) (hg0 : Gl X "tuple") (hm0 : X.mg "tuple" = none) (hi : DI X tg iter fi) (ok : gF X.N X.env.scope scope own) (hsc : ON scope = true)
    (hg:InG X k scope fun Y=>DG Y (bF vs) tg fg) (ht:InG X k scope fun Y=>DTs Y ifs ft) (he:InG X k scope fun Y=>DE Y elt fe) (hs:∀ x,genFold iter X.env x=pure x:=by intro _;rfl)
    (hst:starEach [.GeneratorExp elt [⟨tg,iter,ifs,0⟩] scope gpos] X.env = [(false,eval (.GeneratorExp elt [⟨tg,iter,ifs,0⟩] scope gpos) X.env)]:=by rfl) :
    DE X (.Call (.Name "tuple" p) [.GeneratorExp elt [⟨tg,iter,ifs,0⟩] scope gpos] [] pos) (sU eU me fi fg ft fe vs):=by
 subst hv
 obtain ⟨c1,c2,c3⟩:=ML hsc
 refine ⟨fun pins s σ H Q I h=>?_⟩
 refine wpAny_Call_Name_kw (jB I hg0 hm0 (u:=.type "tuple") (by decide +kernel) (PyProof.Rows.callWith_type1 ?_ hst rfl))
 rw [hst]
 show wpAny _ _ (spliced ((false,eval (.GeneratorExp elt [⟨tg,iter,ifs,0⟩] scope gpos) X.env) :: [])) _ _ s
 refine Calls.spliced_cons (thn (Ez I G hi.ok (OL h) ok c1 c2 c3 (yH hr) hs) fun v s5 hm=>Calls.spliced_nil ?_)
 exact yN hN ok c1 (Td hc c3 (fun s gs H C cl code fp A' r=>(hg s gs H C cl code fp A' r).ok) (fun s gs H C cl code fp A' r=>(ht s gs H C cl code fp A' r).ok) fun s gs H C cl code fp A' r=>(he s gs H C cl code fp A' r).ok) (fun _ _=>rfl) hr.hd (yH hr) (fun _ _=>MM hr) hm
theorem MN (hr : bZ (k + 1) X.A) (G : uN X) (hc : X.calm = true) (hN : X.N.Nodup) (hv : own.map (·.2) = vs) (hv1 : ∀ i ∈ vs1, i ∈ vs) (hg0 : Gl X "tuple") (hm0 : X.mg "tuple" = none) (hi : DI X tg iter fi) (ok : gF X.N X.env.scope scope own) (hsc : ON scope = true)
    (hg:InG X k scope fun Y=>DG Y (bF vs) tg fg) (ht:InG X k scope fun Y=>DTs Y ifs ft) (hi1:InG X k scope fun Y=>DI Y tg1 iter1 fi1) (hg1:InG X k scope fun Y=>DG Y (bF vs1) tg1 fg1) (ht1:InG X k scope fun Y=>DTs Y ifs1 ft1) (he:InG X k scope fun Y=>DE Y elt fe) (hs:∀ x,genFold iter X.env x=pure x:=by intro _;rfl) (hs1:∀ env x,foldedSetIterable iter1 env x=pure x:=by intro _ _;rfl)
    (hst:starEach [gE2 elt tg iter ifs tg1 iter1 ifs1 scope gpos] X.env = [(false,eval (gE2 elt tg iter ifs tg1 iter1 ifs1 scope gpos) X.env)]:=by rfl) :
    DE X (.Call (.Name "tuple" p) [.GeneratorExp elt [⟨tg,iter,ifs,0⟩,⟨tg1,iter1,ifs1,0⟩] scope gpos] [] pos) (HV eU me fi fg ft fi1 fg1 ft1 fe vs vs1):=by
 subst hv
 obtain ⟨c1,c2,c3⟩:=ML hsc
 refine ⟨fun pins s σ H Q I h=>?_⟩
 refine wpAny_Call_Name_kw (jB I hg0 hm0 (u:=.type "tuple") (by decide +kernel) (PyProof.Rows.callWith_type1 ?_ hst rfl))
 rw [hst]
 show wpAny _ _ (spliced ((false,eval (gE2 elt tg iter ifs tg1 iter1 ifs1 scope gpos) X.env) :: [])) _ _ s
 refine Calls.spliced_cons (thn (Ez I G hi.ok (OM hv1 h) ok c1 c2 c3 (yH hr) hs) fun v s5 hm=>Calls.spliced_nil ?_)
 exact yN hN ok c1 (Te hc c3 hs1 hv1 (fun s gs H C cl code fp A' r=>(hg s gs H C cl code fp A' r).ok) (fun s gs H C cl code fp A' r=>(ht s gs H C cl code fp A' r).ok) (fun s gs H C cl code fp A' r=>(hi1 s gs H C cl code fp A' r).ok) (fun s gs H C cl code fp A' r=>(hg1 s gs H C cl code fp A' r).ok) (fun s gs H C cl code fp A' r=>(ht1 s gs H C cl code fp A' r).ok) fun s gs H C cl code fp A' r=>(he s gs H C cl code fp A' r).ok) (fun _ _=>rfl) hr.hd (yH hr) (fun _ _=>MM hr) hm
abbrev InB(X:Cx)(scope:Scope)(J:Cx->Prop):Prop:=∀ (s:Shared) (H:Hp) (C:Addr) (cl:List (Str × Addr)) (fp:List Addr),J (X.blk s H scope (compEnvC scope cl C X.env) fp)
theorem Q5 (hc : X.calm = true) (hN : X.N.Nodup) (hv : own.map (·.2) = vs) (hi : DI X tg iter fi) (ok : gF X.N X.env.scope scope own) (hg : InB X scope fun Y => DG Y (bF vs) tg fg) (ht : InB X scope fun Y => DTs Y ifs ft)
    (he:InB X scope fun Y=>DE Y elt fe) (hs:∀ x,foldedSetIterable iter X.env x=pure x:=by intro _;rfl) :
    DE X (.ListComp elt [⟨tg,iter,ifs,0⟩] scope pos) (sU eU rJ fi fg ft fe vs):=by
 subst hv
 exact ⟨PE.imp (LM hc hN hi.ok ok (fun s H C cl fp=>(hg s H C cl fp).ok) (fun s H C cl fp=>(ht s H C cl fp).ok) (fun s H C cl fp=>(he s H C cl fp).ok) hs) fun σ H Q h=>MK h⟩
end
structure wu (K:PySem.W.Frag) (mg:Str->Option Value) (x:Str) (st:Stmt):Prop where
 ex:∃ f fd,Fun K x x st f fd /\ mg x=some (.ref f) /\ ∃ P,Tab K mg false P /\ AB K fd.code P
section
variable {P:Program} {w:World} {K:PySem.W.Frag} {mg:Str->Option Value} {base:Heap}
theorem yI {x : Str} {st : Stmt} {N ps : List Str} {k np : Nat} {fx : List Bool} {fs : Fs} (d : wu K mg x st) (S : aN N ps (ah st)) (hp : ps.length = fx.length) (hn : fx.length <= N.length) (hnp : fx.length = np)
    (hb:∀ (kV doc pm:Value) (an:Option Addr) (cdv ct:Value) (us:List Value),us.length=ps.length->bindArgs (PySem.W.fnOf x x (aM st) (aG st) (ah st) .none kV doc pm an cdv ct) ⟨us,[]⟩=pure (ps.zip us))
    (hbody:∀ (f:Addr) (cdv:Value) (A:Around) (outer:List Env) (s:Shared) (H:Hp) (E:XK),uN (ja CX0 P w K mg base N x (ah st) f cdv A outer s H E).nox->bZ k (A.deeper (envOfC x (ah st) s.heap.objs.size f cdv)) ->
     DSs (ja CX0 P w K mg base N x (ah st) f cdv A outer s H E).nox (rS fx) (aG st) fs):Cal P w K mg base (k + 1) x np (fnOf fx N.length fs):=by
 obtain ⟨f,fd,F,h,p,t1,t2⟩:=d.ex
 subst hnp
 exact ⟨f,fd,ps,Ei F S hp hn fun cdv hcd A outer s H E hr=>hbody f cdv A outer s H E ⟨p,t1,by subst hcd;exact t2⟩ hr,h,F.kp,F.binds hb⟩
def recC(K:PySem.W.Frag)(cd:Value):Option Addr:=match cd with
 | .ref c=>(match K.lookup c with
  | some ⟨.type "code",_,.fields vs,_⟩=>(match (vs[11]? : Option Value),vs.getD 18 .none,vs.getD 7 .none,vs.getD 9 .none,vs.getD 10 .none with
   | some (.ref P),.str _ _,.int _ _,.bool _,.int _ _=>some P
   | _,_,_,_,_=>none)
  | _=>none)
 | _=>none
theorem rec_of{cd:Value}{P:Addr}(h:recC K cd=some P):AB K cd P:=by
 unfold recC at h
 split at h
 . rename_i c
   split at h
   . rename_i od vs sl hl
     split at h
     . rename_i P' x1 x2 y1 y2 z1 u1 u2 h11 h18 h7 h9 h10
       cases h
       exact ⟨c,_,od,vs,sl,rfl,hl,by rw [Array.getD_eq_getD_getElem?,h11];rfl,rfl,h11,⟨x1,x2,h18⟩,⟨y1,y2,h7⟩,⟨z1,h9⟩,u1,u2,h10⟩
     . cases h
   . cases h
 . cases h
end
end
section
def CY(i:Int)(n:Nat):List D:=(List.range n).map fun (k:Nat)=>.int (i - k)
def MO(f:Fa):Fi:=fun ρ=>(f ρ).bind fun p=>(cu p.2 p.1).bind fun xs=>match xs with
 | [.int i,.int j,.int c]=>if c = -1 /\ (-(2 ^ 62) <= i /\ i < 2 ^ 62 /\ -(2 ^ 62) <= j /\ j < 2 ^ 62) then some (CY i (i - j).toNat,p.2) else none
 | _=>none
theorem Ks{K:PySem.W.Frag}{Fz:Addr->Prop}{H:Hp}{i:Int}{n:Nat}:Walk K Fz H (Itc i (-1) n) (CY i n):=by
 intro Fz' H' g k l
 refine ⟨fun m x hx=>?_,?_⟩
 . unfold CY at hx
   rw [List.getElem?_map] at hx
   cases e:(List.range n)[m]? with
   | none=>rw [e] at hx;cases hx
   | some y =>
    rw [e] at hx
    have hm:m < n:=by simpa using mB e
    have hy:y=m:=by simpa [hm] using e.symm
    subst hy
    cases hx
    refine ⟨hm,fun v H'' hv=>?_⟩
    obtain ⟨rfl,rfl⟩:=hv
    refine ⟨Fz',.val l ?_⟩
    have:i + ((y:Nat):Int) * (-1)=i - (y:Int):=by omega
    rw [this];exact .int _
 . show n <= _
   unfold CY
   rw [List.length_map,List.length_range];exact Nat.le_refl _
section
variable {X:Cx} {tg:Expr}
theorem OO{α β:Type}{R:α->β->Prop}{vs:List α}{x y z:β}(h:Paired R vs [x,y,z]):∃ v u t,vs = [v,u,t] /\ R v x /\ R u y /\ R t z:=by
 cases h with
 | cons a t =>
  obtain ⟨u,w,rfl,b,c⟩:=cH t
  exact ⟨_,u,w,rfl,a,b,c⟩
theorem Kt{a b c:Expr}{f:Fa}{p pos:Pos} (hg:Gl X "range") (hm:X.mg "range" = none) (ha:DA X [a,b,c] f) (hs:starEach [a,b,c] X.env=(false,eval a X.env) :: starEach [b,c] X.env:=by rfl) (hpl:(backTo pos (starEach [b,c] X.env)).any (·.1)=false:=by rfl):DI X tg (.Call (.Name "range" p) [a,b,c] [] pos) (MO f) :=
 ⟨PI.imp (JZ hg hm ha.ok hs hpl) fun σ H R h=>by
  obtain ⟨Fz,ρ,items,ρ',r,e,q⟩:=h
  unfold MO at e
  cases e1:f ρ with
  | none=>rw [e1] at e;cases e
  | some z =>
   obtain ⟨ws,ρ1⟩:=z
   simp only [e1,Option.bind_some] at e
   cases e2:cu ρ1 ws with
   | none=>rw [e2] at e;cases e
   | some xs =>
    simp only [e2,Option.bind_some] at e
    split at e
    . rename_i i j c
      obtain ⟨hc,z⟩:=bc e
      cases z
      obtain ⟨rfl,h1,h2,h3,h4⟩:=hc
      refine ⟨Fz,ρ,ws,ρ',r,e1,fun vs H1 Fz1 p1=>?_⟩
      obtain ⟨v,u,t,rfl,k1,k2,k3⟩:=OO (p1.rel.kO p1.rep e2)
      rw [k1.int,k2.int,k3.int]
      exact ⟨i,j,-1,(i - j).toNat,rfl,RgC.neg h1 h2 h3 h4,q _ H1 Fz1 p1.drop Ks⟩
    . cases e⟩
end
def Gw:Fs:=fun _=>none
theorem yJ{X:Cx}{fix:Nat->Bool}{st:Stmt}:DS X fix st Gw:=⟨fun pins s σ H D I h=>by
 obtain ⟨Fz,ρ,o,ρ',r,e,q⟩:=h
 cases e⟩
end
end L2.Q3
end
section
namespace L2
open PySem PySem.Spec PyProof.Rows
section
structure vq (X:Cx):Prop where
 ex:∃ P,Tab X.K X.mg true P /\ AB X.K X.env.code P
def Iu(H H':Hp):Prop:=H'=H \/ ∃ c o P,H c=none /\ H'=upd H c (.frz o (.own P))
def sg(H:Hp)(c:Addr):Prop:=∃ o P vs q t,H c=some (.frz o (.own P)) /\ o.data = .fields vs /\ vs[1]? = some (.str q t)
theorem eV.hit{H:Hp}{a:Addr}{pos:Pos}{cv:Value}{l:List Value}(x:eV H a l)(h:codeAmong pos l=some cv):∃ c,cv = .ref c /\ sg H c:=by
 fun_induction eV H a l with
 | case1=>cases h
 | case2 i t j u c rest ih =>
  obtain ⟨⟨o,vs,q,tt,x1,x3,x4⟩,x5⟩:=x
  unfold codeAmong at h
  split at h
  . cases h;exact ⟨c,rfl,o,a,vs,q,tt,x1,x3,x4⟩
  . exact ih x5 h
 | case3=>exact x.elim
theorem eV.snoc{H:Hp}{a c:Addr}{i j:Int}{l:List Value}(x:eV H a l)(h:∃ o vs q t,H c=some (.frz o (.own a)) /\ o.data = .fields vs /\ vs[1]? = some (.str q t)):eV H a (l ++ [rawInt i,rawInt j,.ref c]):=by
 fun_induction eV H a l with
 | case1=>exact ⟨h,trivial⟩
 | case2 i t j u c rest ih=>exact ⟨x.1,ih x.2⟩
 | case3=>exact x.elim
section
variable {X:Cx} {pins:List (Addr × Obj)} {σ:St} {H:Hp} {s:Shared}
abbrev pR(fd:FuncData):Obj:={ cls:=.type "function",data:=.func fd }
theorem Lj {A : Around} {params : Arguments} {body : Expr} {scope : Scope} {pos : Pos} {own : List (Str × Nat)} {Q : Value -> Shared -> Prop} {E : Value -> Shared -> Prop} (I : Inv X pins σ H s) (G : vq X)
    (hdef:defaultsOf params X.env=([],[])) (ok:gF X.N X.env.scope scope own)
    (hQ:∀ (f:Addr) (fd:FuncData) (c:Addr) (H':Hp) (s':Shared),Iu H H'->Inv X (pins ++ [(f,pR fd)]) σ H' s'->sg H' c ->
     (∃ nm qual pm ctv,fd=PySem.W.kla_fn nm qual params body scope (aW X.env.cells scope.names []) pm (.ref c) ctv)->Q (.ref f) s') :
    wpAny (model X.prog X.w) A (eval (.Lambda params body scope pos) X.env) Q E s:=by
 obtain ⟨P,hT,c,oc,od,vs,sl,hc,lk,h11,hcl,h11',⟨f1,f2,h18⟩,⟨g1,g2,h7⟩,⟨k1,h9⟩,t1,t2,h10⟩:=G.ex
 obtain ⟨ps,hP,hfl⟩:=I.tabs P true hT
 obtain ⟨qs,ePt,tri,own0⟩:=I.hok P _ hP
 have ownC:=own0 hfl
 have ec:s.heap.get? c=some ⟨oc,od,.fields vs,sl⟩:=I.kIn c _ lk
 have nc:H c=none:=(I.bs c _ (I.ok.mod.kin c _ lk)).2
 have hne:c ≠ P:=fun e=>by rw [e,hP] at nc;cases nc
 have C:PySem.W.CodeHd s.heap c P:=⟨_,vs,f1,f2,g1,g2,k1,t1,t2,ec,hcl,rfl,h11',h11,h18,h7,h9,h10,hne⟩
 have hfree:∀ y ∈ scope.names,y.2 = .free->∃ c,X.env.cells.lookup y.1=some c:=fun y hy e=>by
  rcases ok.free y hy e with k | k
  . exact I.ok.has _ (.inl k)
  . exact I.ok.has _ (.inr k)
 have hg:s.heap.Ns mainGlobals X.mg:=I.mod.glob.keeps I.bk
 have hgP:mainGlobals ≠ P:=fun q=>by
  obtain ⟨o,es,ep,e,hd,_⟩:=hg
  rw [q,ePt] at e;cases e;cases hd
 obtain ⟨bm,ob,b1,b2,b3,b4,b5,b6⟩:=I.mod.bmain
 have b3':=I.bk _ _ b3
 have hbP:bm ≠ P:=fun q=>by rw [q,ePt] at b3';cases b3';cases b4
 have hbG:bm ≠ mainGlobals:=fun q=>by
  obtain ⟨o,es,ep,e,hd,_⟩:=hg
  rw [q,e] at b3';cases b3';rw [hd] at b6;cases b6
 have hB:s.heap.BuiltinsAt X.mg P:=⟨bm,ob,b1,b2,hbG,hbP,b3',b4,b5,b6⟩
 refine PySem.W.kla_eval hdef ?_
 have newPin:∀ {h':Heap} {tk:Nat} {fd:FuncData} {H':Hp},s.heap.objs.size <= h'.objs.size->H' h'.objs.size=none->Inv X pins σ H' { s with heap:=h'.push (pR fd),toks:=tk }->Inv X (pins ++ [(h'.objs.size,pR fd)]) σ H' { s with heap:=h'.push (pR fd),toks:=tk }:=by
  intro h' tk fd H' hsz hn I'
  refine I'.D0 fun p hp=>?_
  rcases List.mem_append.mp hp with hp | hp
  . exact I'.pin p (List.mem_append_right _ hp)
  . have hp:p=(h'.objs.size,pR fd):=by simpa using hp
    subst hp
    refine ⟨Heap.get?_push_size _ rfl,hn,Nat.ne_of_gt (Nat.lt_of_lt_of_le I.lt hsz),I.Ph hsz,fun v z=>nomatch z⟩
 cases hnf:codeAmong pos qs.toList with
 | some cv =>
  obtain ⟨c1,rfl,ct⟩:=ownC.hit hnf
  refine PySem.W.kla_makeFunctionHit (n4 hfree) I.ok.glob hg hc C ePt tri hnf hB fun ctv h' tk hk hsz=>?_
  exact hQ _ _ c1 H _ (.inl rfl) (newPin hsz (I.hok.fresh hsz) (I.kept (t':=tk) fun b u e=>Heap.get?_push_of_some _ (hk b u e))) ct ⟨_,_,_,_,rfl⟩
 | none =>
  refine PySem.W.kla_makeFunction (n4 hfree) I.ok.glob hg hc C ePt tri hnf hgP hB fun c' ctv h' tk hx hge hlt hrec htb=>?_
  obtain ⟨c2,o2,vs2,tt2,e2,hoc,hd2,hv2⟩:=hrec
  cases e2
  have hcn:H c'=none:=I.hok.fresh hge
  have hsz:s.heap.objs.size <= h'.objs.size:=Nat.le_trans hge (Nat.le_of_lt hlt)
  have hfn:upd H c' (.frz o2 (.own P)) h'.objs.size=none:=by rw [aL (Nat.ne_of_gt hlt)];exact I.hok.fresh hsz
  have hcP:c' ≠ P:=fun z=>by rw [z,hP] at hcn;cases hcn
  have old:∀ b o,H b=none->s.heap.get? b=some o->h'.get? b=some o:=fun b o n e=>hx b o (fun z=>by rw [z,hP] at n;cases n) e
  have nec:∀ b o,s.heap.get? b=some o->b ≠ c':=fun b o e=>Nat.ne_of_lt (Nat.lt_of_lt_of_le (Heap.lt_size e) hge)
  refine hQ _ _ c' _ _ (.inr ⟨c',o2,P,hcn,rfl⟩) (newPin (H':=upd H c' (.frz o2 (.own P))) (tk:=tk) hsz hfn ?_) ⟨o2,P,vs2,_,tt2,bt,hd2,hv2⟩ ⟨_,_,_,_,rfl⟩
  refine I.step (g':=s.gens) (d':=s.drawn) (t':=tk) (ch:=[]) (fun _ z=>nomatch z) (fun b o _ _ _ e n=>Heap.get?_push_of_some _ (old b o n e)) (fun b o _ _ _ e n=>⟨o.slots,Heap.get?_push_of_some _ (old b o n e)⟩) (fun b o _ e n=>by rw [aL (nec b o e)];exact n)
   (fun b o _ e=>?_) (fun b xs e=>by rw [aL (aQ e hcn)];exact e) (fun b o u e=>by rw [aL (aQ e hcn)];exact e) (fun b ps e=>⟨#[],by rw [aL (aQ e hcn),e];simp⟩) (fun m hm=>?_) (fun b u e=>?_) I.bare.self
  . by_cases hb:b=P
    . rw [hb];exact ⟨_,Heap.get?_push_of_some _ htb⟩
    . exact ⟨o,Heap.get?_push_of_some _ (hx b o hb e)⟩
  . obtain ⟨o',es',ep',ho',r'⟩:=hm
    exact ⟨o',es',ep',Heap.get?_push_of_some _ (old _ _ I.free ho'),r'⟩
  . by_cases hb:b=c'
    . subst hb
      rw [bt] at e
      cases e
      exact ⟨Heap.get?_push_of_some _ hoc,o2,Heap.get?_push_of_some _ hoc⟩
    . rw [aL hb] at e
      by_cases hbP:b=P
      . subst hbP
        rw [hP] at e
        cases e
        refine ⟨_,Heap.get?_push_of_some _ htb,?_,fun _=>?_⟩
        . rw [Array.toList_append];exact TriplesOk_snoc _ _ _ _ tri
        . rw [Array.toList_append]
          exact (ownC.xy fun d o q=>by rw [aL (aQ q hcn)];exact q).snoc ⟨o2,vs2,_,tt2,bt,hd2,hv2⟩
      . refine (I.hok b u e).xy (fun d v hd q=>Heap.get?_push_of_some _ (hx d v ?_ q)) (fun d q=>by rw [aL (aQ q hcn)];exact q) (fun d xs q=>by rw [aL (aQ q hcn)];exact q) fun d xs q=>by rw [aL (aQ q hcn)];exact q
        rcases hd with rfl | hd
        . exact hbP
        . intro z;rw [z,hP] at hd;cases hd
end
section
variable {X:Cx} {pins:List (Addr × Obj)} {σ:St} {H:Hp} {s:Shared}
end
end
section
section
variable {X:Cx} {pins:List (Addr × Obj)} {σ:St} {A:Around} {xs:List V} {ks:Nat->Int} {W:Nat->Hp->Prop} {a f c S It:Addr} {R:Result->Shared->Prop}
theorem mH.at{H H':Hp}{b:Addr}(h:mH X pins H b)(n:H' b=none):mH X pins H' b:=⟨n,h.2⟩
end
end
section
section
variable {X:Cx} {k:Nat} {e body:Expr} {scope:Scope} {own:List (Str × Nat)} {vs:List Nat} {pn:Str} {ap p lpos k1 k2 cp pos:Pos} {ji:Nat} {j:Nat} {te tb:TE}
end
end
end L2
end
section
namespace L2.Q3
open PySem PySem.Spec PyProof.Rows
section
def Pd(f:Fe):Prop:=∀ ρ w ρ',f ρ=some (w,ρ')->ρ'=ρ
def IU(f:Fa):Prop:=∀ ρ w ρ',f ρ=some (w,ρ')->ρ'=ρ
theorem cY{i:Nat}:Pd (ag i):=fun ρ w ρ' h=>by
 unfold ag at h
 split at h <;> first | cases h | skip
 all_goals first | rfl | (cases h)
theorem pure_nil:IU aj:=fun ρ w ρ' h=>by cases h;rfl
theorem pure_cons{f:Fe}{g:Fa}(a:Pd f)(b:IU g):IU (aa f g):=fun ρ w ρ' h=>by
 obtain ⟨w1,ρ1,us,h1,h2,_⟩:=bP h
 rw [b _ _ _ h2,a _ _ _ h1]
theorem Ar{K:PySem.W.Frag}{Fz Ow:Addr->Prop}{H H2:Hp}(l:∀ q,Fz q->H q ≠ none)(h:Iu H H2):Step Ow Fz Fz H H2:=by
 rcases h with rfl | ⟨c,o,P,n,rfl⟩
 . exact .refl l
 . exact ⟨fun q z e=>l q z (ba q e),fun q u e _=>by rw [aL (aQ e n)];exact e,fun q e=>ba q e,fun _ z=>z,fun _ z=>.inl z⟩
section
variable {X:Cx} {k:Nat} {e body:Expr} {scope:Scope} {own:List (Str × Nat)} {vs:List Nat} {pn:Str} {ap p lpos k1 k2 cp pos:Pos} {ji:Nat} {j:Nat} {fi fb:Fe}
end
end
section
structure Pn (K:PySem.W.Frag) (mg:Str->Option Value) (x:Str) (st:Stmt):Prop where
 ex:∃ f fd,Fun K x x st f fd /\ mg x=some (.ref f) /\ ∃ P,Tab K mg true P /\ AB K fd.code P
section
variable {P:Program} {w:World} {K:PySem.W.Frag} {mg:Str->Option Value} {base:Heap}
theorem OP {x : Str} {st : Stmt} {N ps : List Str} {k np : Nat} {fx : List Bool} {fs : Fs} (d : Pn K mg x st) (S : aN N ps (ah st)) (hp : ps.length = fx.length) (hn : fx.length <= N.length) (hnp : fx.length = np)
    (hb:∀ (kV doc pm:Value) (an:Option Addr) (cdv ct:Value) (us:List Value),us.length=ps.length->bindArgs (PySem.W.fnOf x x (aM st) (aG st) (ah st) .none kV doc pm an cdv ct) ⟨us,[]⟩=pure (ps.zip us))
    (hbody:∀ (f:Addr) (cdv:Value) (A:Around) (outer:List Env) (s:Shared) (H:Hp) (E:XK),vq (ja CX0 P w K mg base N x (ah st) f cdv A outer s H E).nox->bZ k (A.deeper (envOfC x (ah st) s.heap.objs.size f cdv)) ->
     DSs (ja CX0 P w K mg base N x (ah st) f cdv A outer s H E).nox (rS fx) (aG st) fs):Cal P w K mg base (k + 1) x np (fnOf fx N.length fs):=by
 obtain ⟨f,fd,F,h,p,t1,t2⟩:=d.ex
 subst hnp
 exact ⟨f,fd,ps,Ei F S hp hn fun cdv hcd A outer s H E hr=>hbody f cdv A outer s H E ⟨p,t1,by subst hcd;exact t2⟩ hr,h,F.kp,F.binds hb⟩
theorem yA {nm : Str} {f P : Addr} {oc : Value} {od : Option Addr} {fd : FuncData} {sl : Array (Option Value)} (a : mg nm = some (.ref f)) (l : K.lookup f = some ⟨oc, od, .func fd, sl⟩) (r : AB K fd.code P) {b : Addr} (hne : (b == P) = false)
    {f':Addr} {oc':Value} {od':Option Addr} {fd':FuncData} {sl':Array (Option Value)} (e1:mg nm=some (.ref f')) (e2:K.lookup f'=some ⟨oc',od',.func fd',sl'⟩) (e3:AB K fd'.code b):False:=by
 rw [a] at e1
 cases e1
 rw [l] at e2
 cases e2
 obtain ⟨c1,oc1,od1,vs1,sl1,h1,h2,h3,_⟩:=r
 obtain ⟨c2,oc2,od2,vs2,sl2,g1,g2,g3,_⟩:=e3
 rw [h1] at g1
 cases g1
 rw [h2] at g2
 cases g2
 rw [h3] at g3
 cases g3
 simp at hne
end
end
section
def SO(fe fs:Fe):Fe:=fun ρ=>(aa fe (aa fs aj) ρ).bind fun p=>(cu p.2 p.1).bind fun xs=>match xs with
 | [.tuple xs,.int k]=>if k = -1 then some (.d (.tuple xs.reverse),p.2) else none
 | [.list xs,.int k]=>if k = -1 then some (.fr xs.reverse,p.2) else if k=1 then some (.fr xs,p.2) else none
 | _=>none
section
variable {X:Cx}
end
end
section
section
variable {K:PySem.W.Frag} {Fz Fz' Fz1:Addr->Prop} {ρ ρ' ρ1:Rho} {σ σ':St} {H H' H1:Hp} {w:W} {v:V}
structure SJ (K:PySem.W.Frag) (Fz':Addr->Prop) (H':Hp) (Ow Nw:Addr->Prop) (p C:Addr) (ns:List Str) (wf:List W) (fs:List (Str × V)):Prop where
 ins:∃ dx,H' p=some (.ins C dx fs)
 nf:¬ Fz' p
 nms:fs.map (·.1)=ns
 nd:ns.Nodup
 len:wf.length=fs.length
 rep:∀ (k:Nat) (w:W),wf[k]? = some w->∃ v,(fs.map (·.2))[k]? = some v /\ vA K Fz' H' w v
 own:∀ (k:Nat) (x:OX) (q:Addr),wf[k]? = some (W.own x)->(fs.map (·.2))[k]? = some (V.ref q)->¬ Fz' q /\ (Ow q \/ Nw q)
 apart:∀ (j k:Nat) (x y:OX) (q:Addr),wf[j]? = some (W.own x)->wf[k]? = some (W.own y)->(fs.map (·.2))[j]? = some (V.ref q)->(fs.map (·.2))[k]? = some (V.ref q)->j=k
end
end
section
section
variable {K:PySem.W.Frag} {Fz Fz' Fz1:Addr->Prop} {ρ ρ' ρ1:Rho} {σ σ':St} {H H' H1:Hp} {w:W} {v:V}
structure Ue (K:PySem.W.Frag) (Fz:Addr->Prop) (ρ:Rho) (σ:St) (H:Hp) (i g:Nat) (p C dx:Addr) (ns:List Str) (wf:List W) (fs:List (Str × V)):Prop where
 slot:σ[i]? = some (some (V.ref p))
 ins:H p=some (.ins C dx fs)
 nf:¬ Fz p
 nms:fs.map (·.1)=ns
 nd:ns.Nodup
 len:wf.length=fs.length
 far:40 <= g
 rep:∀ (k:Nat) (w:W),wf[k]? = some w->∃ v,(fs.map (·.2))[k]? = some v /\ vA K Fz H w v /\ ρ[g + k]? = some (some w) /\ σ[g + k]? = some (some v)
 args:uJ K Fz H wf (fs.map (·.2))
end
structure Ug (K:PySem.W.Frag) (c:Str) (C:Addr):Prop where
 at_:PySem.W.nsIn K mainGlobals c=some (some (.ref C))
 cls:Cls K C
section
variable {X:Cx} {fix:Nat->Bool} {i:Nat} {c x f:Str} {C:Addr} {p pos:Pos} {e:Expr} {fe:Fe}
end
end
section
structure SK (K:PySem.W.Frag) (Fz Fz':Addr->Prop) (H H':Hp) (p C:Addr) (ns':List Str) (wf:List W) (fvs:List V) (r:W) (v:V) (wf':List W) (fs':List (Str × V)):Prop where
 step:Step (fun q=>yx wf fvs q \/ q=p) Fz Fz' H H'
 new:SJ K Fz' H' (yx wf fvs) (fun q=>H q=none) p C ns' wf' fs'
 rep:vA K Fz' H' r v
 fresh:∀ x q,r = .own x->v = .ref q->¬ Fz' q /\ (yx wf fvs q \/ H q=none) /\ ∀ (k:Nat) (y:OX),wf'[k]? = some (W.own y)->(fs'.map (·.2))[k]? ≠ some (V.ref q)
abbrev MFn:=List W->List D->Option (W × List W)
def spM(K:PySem.W.Frag)(c:Str)(ns ns':List Str)(np:Nat)(F:MFn):Sp:=fun vs H Q _=>vs.length=np + 1 /\ ∃ Fz p C dx fs us wf xs r wf',vs = .ref p :: us /\ PySem.W.nsIn K mainGlobals c=some (some (.ref C)) /\ H p=some (.ins C dx fs) /\ ¬ Fz p /\ fs.map (·.1)=ns /\
 uJ K Fz H wf (fs.map (·.2)) /\ aD K Fz H us xs /\ F wf xs=some (r,wf') /\ ∀ v H' Fz' fs',SK K Fz Fz' H H' p C ns' wf (fs.map (·.2)) r v wf' fs'->Q v H'
section
variable {K:PySem.W.Frag} {Fz:Addr->Prop} {H:Hp}
end
section
variable {P:Program} {w:World} {K:PySem.W.Frag} {mg:Str->Option Value} {base:Heap}
end
structure Uh (P:Program) (w:World) (K:PySem.W.Frag) (mg:Str->Option Value) (base:Heap) (k:Nat) (c m:Str) (C:Addr) (ns ns':List Str) (np:Nat) (F:MFn):Prop where
 ex:∃ f fd ps,jd P w K mg base CX0 k f fd ps (spM K c ns ns' np F) /\ Meth K C m f /\ Binds K fd ps []
 no:m ∉ ns
section
variable {X:Cx} {fix:Nat->Bool} {i k np:Nat} {c x m:Str} {C:Addr} {p apos pos spos:Pos} {e:Expr} {es:List Expr} {fa:Fa} {ns:List Str} {F:MFn}
structure Ui (K:PySem.W.Frag) (C:Addr) (m qual:Str) (st:Stmt):Prop where
 ex:∃ f fd,Fun K m qual st f fd /\ Meth K C m f
end
end
section
def spR(K:PySem.W.Frag)(c:Str)(ns:List Str)(F:Fn):Sp:=fun vs H Q _=>vs.length=1 /\ ∃ Fz p C dx fs wf r fin,vs = [.ref p] /\ PySem.W.nsIn K mainGlobals c=some (some (.ref C)) /\ H p=some (.ins C dx fs) /\ ¬ Fz p /\ fs.map (·.1)=ns /\
 uJ K Fz H wf (fs.map (·.2)) /\ F wf=some (r,fin) /\ ∀ v H' Fz',L6 K Fz Fz' H H' wf (fs.map (·.2)) r v fin->Q v H'
structure Uj (P:Program) (w:World) (K:PySem.W.Frag) (mg:Str->Option Value) (base:Heap) (k:Nat) (c m:Str) (C:Addr) (ns:List Str) (F:Fn):Prop where
 ex:∃ f fd ps,jd P w K mg base CX0 k f fd ps (spR K c ns F) /\ Meth K C m f /\ Binds K fd ps []
 no:m ∉ ns
section
variable {P:Program} {w:World} {K:PySem.W.Frag} {mg:Str->Option Value} {base:Heap}
end
section
variable {X:Cx} {fix:Nat->Bool} {i g k np:Nat} {c x m:Str} {C:Addr} {p apos pos spos:Pos} {e:Expr} {es:List Expr} {fa:Fa} {ns:List Str} {F:Fn}
end
end
section
structure T8 (P:Program) (w:World) (K:PySem.W.Frag) (mg:Str->Option Value) (base:Heap) (k:Nat) (c:Str) (C:Addr) (ns:List Str) (np:Nat) (F:MFn):Prop where
 ex:∃ f fd ps,jd P w K mg base CX0 k f fd ps (spM K c [] ns np F) /\ Mk K C f /\ Binds K fd ps []
 mg:mg c=some (.ref C)
section
variable {X:Cx} {fix:Nat->Bool} {i g k np:Nat} {c x:Str} {C:Addr} {p px pos spos:Pos} {e:Expr} {es:List Expr} {fa:Fa} {ns:List Str} {F:MFn}
end
end
section
section
variable {X:Cx} {tg iter elt:Expr} {fg:Fg} {ft:Ft} {fe:Fe}
end
end
end L2.Q3
end
section
namespace PySem.SeqAt
open MeetsSeq PySem.Spec
end PySem.SeqAt
namespace L2.Q3
open PySem PySem.Spec PyProof.Rows
section
variable {X:Cx}
end
end L2.Q3
end
section
namespace PySem
open Sem (wp)
section
abbrev TV(h:Heap)(z TI TO:Addr)(f0:Value)(f:Bool):Prop :=
 h.get? z=some { cls:=.type "zip",dict:=none,data:=.fields #[f0,.bool f,.bool false,.ref TI,.ref TO],slots:=#[] }
structure ZS (h:Heap) (z TI TO i1 i2:Addr) (av:List Addr):Prop where
 pr:IsPair h TI (.ref i1) (.ref i2)
 st:(IsZip h z TI TO .none /\ ∃ a b,IsPair h TO a b) \/ ∃ (T:Addr) (f:Bool) (oT:Obj),TV h z TI TO (rawInt T) f /\ h.get? T=some oT /\ T ∉ av
section
variable {prog:Program} {w:World} {A:Around} {E:Value->Shared->Prop} {s:Shared}
variable {z TI TO i1 i2:Addr} {f1 f2:List Addr} {xs ys:Array Value} {S1 S2:Nat->Heap->Prop} {k:Nat}
end
end
end PySem
end
section
namespace L2
open PySem PySem.Spec PyProof.Rows
section
section
variable {prog:Program} {w:World} {A:Around} {E:Value->Shared->Prop}
end
end
end L2
end
section
namespace L2.Q3
open PySem PySem.Spec PyProof.Rows
section
def uL(con:Con)(fg:Fg)(ft:Ft)(fe:Fe)(vs:List Nat)(x:D)(acc:List D)(ρ:Rho)(K:List D->Rho->Prop)(S:List D->Rho->Prop):Prop :=
 oS (fg x (ar ρ vs)) fun ρ1=>oS (ft ρ1) fun p=>if p.1=true then oS (fe p.2) fun q=>oS (f7 q.2 q.1) fun z=>oS (con z.1 acc) fun o=>match o with | some acc'=>K acc' z.2 | none=>S acc z.2 else K acc p.2
section
variable {con:Con} {fg fg1:Fg} {ft ft1:Ft} {fi fi1:Fi} {fe:Fe} {vs vs1:List Nat} {out:Bool->List D->W} {ρ:Rho} {Q:W × Rho->Prop}
theorem rY {Inv : List D -> List D -> Rho -> Prop} {R : Bool × List D × Rho -> Prop} (hd : ∀ acc ρ, Inv [] acc ρ -> R (true, acc, ρ)) (hs : ∀ x xs acc ρ, Inv (x :: xs) acc ρ -> uL con fg ft fe vs x acc ρ (Inv xs) fun acc ρ => R (false, acc, ρ)) :
    ∀ (items acc:List D) (ρ:Rho),Inv items acc ρ->oS (sW con fg ft fe vs items ρ acc) R
 | [],acc,ρ,h=>⟨_,rfl,hd _ _ h⟩
 | x :: xs,acc,ρ,h=>by
  unfold sW
  simp only [aC]
  refine aT (hs x xs acc ρ h) fun ρ1 h=>aT h fun p h=>?_
  obtain ⟨b,ρ2⟩:=p
  cases b with
  | true =>
   simp only [if_true,aC] at h ⊢
   refine aT h fun q h=>aT h fun z h=>aT h fun o h=>?_
   cases o with
   | some acc'=>exact rY hd hs xs _ _ h
   | none=>exact au.mpr h
  | false=>exact rY hd hs xs acc ρ2 h
theorem xb {Inv : List D -> List D -> Rho -> Prop} {R : Bool × List D × Rho -> Prop} (hd : ∀ acc ρ, Inv [] acc ρ -> R (true, acc, ρ))
    (hs:∀ x xs acc ρ,Inv (x :: xs) acc ρ->oS (fg x (ar ρ vs)) fun ρ1=>oS (ft ρ1) fun p=>if p.1=true then oS (fi1 p.2) fun q=>∃ Inv1:List D->List D->Rho->Prop,Inv1 q.1 acc q.2 /\ (∀ acc ρ,Inv1 [] acc ρ->Inv xs acc ρ) /\
     ∀ y ys acc ρ,Inv1 (y :: ys) acc ρ->uL con fg1 ft1 fe vs1 y acc ρ (Inv1 ys) fun acc ρ=>R (false,acc,ρ) else Inv xs acc p.2) :
    ∀ (items acc:List D) (ρ:Rho),Inv items acc ρ->oS (qv con fg ft fi1 fg1 ft1 fe vs vs1 items ρ acc) R
 | [],acc,ρ,h=>⟨_,rfl,hd _ _ h⟩
 | x :: xs,acc,ρ,h=>by
  unfold qv
  simp only [aC]
  refine aT (hs x xs acc ρ h) fun ρ1 h=>aT h fun p h=>?_
  obtain ⟨b,ρ2⟩:=p
  cases b with
  | true =>
   simp only [if_true,aC] at h ⊢
   refine aT h fun q ⟨Inv1,h0,hd1,hs1⟩=>?_
   refine aT (rY (R:=fun r=>if r.1=true then Inv xs r.2.1 r.2.2 else R (false,r.2.1,r.2.2)) (fun acc ρ z=>by simpa using hd1 acc ρ z) (fun y ys acc ρ z=>by simpa using hs1 y ys acc ρ z) q.1 acc q.2 h0) fun r hr=>?_
   obtain ⟨b,acc',ρ'⟩:=r
   cases b with
   | true=>simpa using xb hd hs xs acc' ρ' (by simpa using hr)
   | false=>exact au.mpr (by simpa using hr)
  | false=>exact xb hd hs xs acc ρ2 h
theorem T9 (h : oS (fi ρ) fun p => ∃ Inv : List D -> List D -> Rho -> Prop, Inv p.1 [] p.2 /\ (∀ acc ρ, Inv [] acc ρ -> Q (out true acc, b8 p.2 ρ vs)) /\ ∀ x xs acc ρ, Inv (x :: xs) acc ρ -> uL con fg ft fe vs x acc ρ (Inv xs) fun acc ρ => Q (out false acc, b8 p.2 ρ vs)) :
    oS (sU con out fi fg ft fe vs ρ) Q:=by
 unfold sU
 simp only [aC]
 refine aT h fun p ⟨Inv,h0,hd,hs⟩=>?_
 simp only [au]
 exact rY (R:=fun r=>Q (out r.1 r.2.1,b8 p.2 r.2.2 vs)) hd hs p.1 [] p.2 h0
theorem SV (h : oS (fi ρ) fun p => ∃ Inv : List D -> List D -> Rho -> Prop, Inv p.1 [] p.2 /\ (∀ acc ρ, Inv [] acc ρ -> Q (out true acc, b8 p.2 ρ vs)) /\
    ∀ x xs acc ρ,Inv (x :: xs) acc ρ->oS (fg x (ar ρ vs)) fun ρ1=>oS (ft ρ1) fun z=>if z.1=true then oS (fi1 z.2) fun q=>∃ Inv1:List D->List D->Rho->Prop,Inv1 q.1 acc q.2 /\ (∀ acc ρ,Inv1 [] acc ρ->Inv xs acc ρ) /\
     ∀ y ys acc ρ,Inv1 (y :: ys) acc ρ->uL con fg1 ft1 fe vs1 y acc ρ (Inv1 ys) fun acc ρ=>Q (out false acc,b8 p.2 ρ vs) else Inv xs acc z.2) :
    oS (HV con out fi fg ft fi1 fg1 ft1 fe vs vs1 ρ) Q:=by
 unfold HV
 simp only [aC]
 refine aT h fun p ⟨Inv,h0,hd,hs⟩=>?_
 simp only [au]
 exact xb (R:=fun r=>Q (out r.1 r.2.1,b8 p.2 r.2.2 vs)) hd hs p.1 [] p.2 h0
theorem Jd{y:D}{acc:List D}{Q:Option (List D)->Prop}:oS (eU y acc) Q ↔ acc.length < 16777216 /\ Q (some (acc ++ [y])):=by
 unfold eU
 rw [aE,au]
theorem HY{go b:Bool}{acc:List D}{Q:Option (List D)->Prop}:oS (OK go (.bool b) acc) Q ↔ Q (if b=go then some acc else none):=by
 show oS (if b=go then some (some acc) else some none) Q ↔ _
 by_cases h:b=go
 . rw [if_pos h,if_pos h,au]
 . rw [if_neg h,if_neg h,au]
theorem Kv{f:Fa}{Q:List D × Rho->Prop}:oS (MO f ρ) Q ↔ oS (f ρ) fun p=>oS (cu p.2 p.1) fun xs=>oS (match xs with
 | [.int i,.int j,.int c]=>if c = -1 /\ (-(2 ^ 62) <= i /\ i < 2 ^ 62 /\ -(2 ^ 62) <= j /\ j < 2 ^ 62) then some (CY i (i - j).toNat,p.2) else none
 | _=>none) Q:=by unfold MO;simp only [aC] <;> exact Iff.rfl
end
end
section
theorem Ay{ρ0 ρ:Rho}{vs:List Nat}(h:ar ρ vs=ar ρ0 vs):b8 ρ0 ρ vs=ρ0:=by
 have hl:ρ.length=ρ0.length:=by
  have:=congrArg List.length h
  rw [di,di] at this
  exact this
 apply List.ext_getElem?
 intro i
 by_cases hi:i ∈ vs
 . by_cases hlt:i < ρ0.length
   . rw [Ao (by omega) (List.getElem?_eq_getElem hlt) hi,List.getElem?_eq_getElem hlt]
   . rw [List.getElem?_eq_none (by rw [fB];omega),List.getElem?_eq_none (by omega)]
 . rw [nY hi]
   have:=congrArg (fun l=>l[i]?) h
   simp only [aF hi] at this
   exact this
section
variable {α β:Type} {con:Con} {fg fg1:Fg} {ft ft1:Ft} {fi fi1:Fi} {fe:Fe} {vs vs1:List Nat} {ρ:Rho} {Q:W × Rho->Prop} {g:α->D} {p:α->Bool} {f:α->D}
def rX(fg:Fg)(ft:Ft)(fe:Fe)(vs:List Nat)(ρ:Rho)(x y:D)(b:Bool):Prop :=
 oS (fg x (ar ρ vs)) fun ρ1=>oS (ft ρ1) fun t=>(if t.1=true then b=true /\ oS (fe t.2) fun q=>oS (f7 q.2 q.1) fun z=>z.1=y /\ ar z.2 vs=ar ρ vs else b=false /\ ar t.2 vs=ar ρ vs)
theorem rX.same{x y:D}{b:Bool}{ρ':Rho}(h:rX fg ft fe vs ρ x y b)(e:ar ρ' vs=ar ρ vs):rX fg ft fe vs ρ' x y b:=by
 unfold rX at h ⊢
 rw [e];exact h
theorem tQ{L:List α}{n:Nat}(h:L.length <= n):∀ {d r:List α},L=d ++ r->((d.filter p).map f).length <= n:=fun {d r} e=>by
 rw [List.length_map]
 have:=List.length_filter_le p d
 rw [e,List.length_append] at h
 omega
theorem Ku{ρ0:Rho}(ρ:Rho){L:List α}(h:oS (fi ρ0) fun z=>z=(L.map g,ρ))(hv:vs.all (fun i=>(sT ρ i).isNone)=true)(hl:L.length <= 1000000)(ht:∀ x ∈ L,rX fg ft fe vs ρ (g x) (f x) (p x))(hQ:Q (.fr ((L.filter p).map f),ρ)):oS (gU fi fg ft fe vs ρ0) Q:=by
 refine pF (aT h fun z hz=>?_)
 subst hz
 refine ⟨hv,fun items acc ρ'=>ar ρ' vs=ar ρ vs /\ ∃ d r,L=d ++ r /\ items=r.map g /\ acc=(d.filter p).map f,⟨rfl,[],L,rfl,rfl,rfl⟩,?_,?_⟩
 . rintro acc ρ' ⟨hw,d,r,e1,e2,rfl⟩
   have:r = []:=by simpa using e2.symm
   subst this
   rw [List.append_nil] at e1
   subst e1
   rw [Ay hw];exact hQ
 . rintro x xs acc ρ' ⟨hw,d,r,e1,e2,rfl⟩
   cases r with
   | nil=>cases e2
   | cons a r =>
    rw [List.map_cons] at e2
    cases e2
    have hlen:=tQ (p:=p) (f:=f) hl e1
    have:=(ht a (by rw [e1];simp)).same hw
    refine aT this fun ρ1 h1=>aT h1 fun t h2=>?_
    have e3:L=(d ++ [a]) ++ r:=by rw [e1];simp
    split at h2
    . rename_i ht1
      rw [if_pos ht1]
      obtain ⟨hb,h2⟩:=h2
      refine aT h2 fun q h3=>aT h3 fun z h4=>⟨by omega,h4.2.trans hw,d ++ [a],r,e3,rfl,?_⟩
      rw [List.filter_append]
      simp [hb,h4.1]
    . rename_i ht1
      rw [if_neg ht1]
      refine ⟨h2.2.trans hw,d ++ [a],r,e3,rfl,?_⟩
      rw [List.filter_append]
      simp [h2.1]
theorem K9{L:List α}(h:oS (fi ρ) fun z=>z=(L.map g,ρ))(hv:vs.all (fun i=>(sT ρ i).isNone)=true)(hl:L.length <= 1000000)(ht:∀ x ∈ L,rX fg ft fe vs ρ (g x) (f x) (p x))(hQ:Q (.fr ((L.filter p).map f),ρ)):oS (gU fi fg ft fe vs ρ) Q:=Ku ρ h hv hl ht hQ
theorem T3 {L : List α} (hl : L.length <= 1000000) {sY : List D} (h0 : sY.length <= 4000000) (ht : ∀ x ∈ L, rX fg ft fe vs ρ (g x) (f x) (p x)) {ρ0 : Rho} (hw0 : ar ρ0 vs = ar ρ vs) {R : Bool × List D × Rho -> Prop} (hR : ∀ ρ', ar ρ' vs = ar ρ vs -> R (true, sY ++ (L.filter p).map f, ρ')) :
    oS (sW eU fg ft fe vs (L.map g) ρ0 sY) R:=by
 refine rY (Inv:=fun items acc ρ'=>ar ρ' vs=ar ρ vs /\ ∃ d r,L=d ++ r /\ items=r.map g /\ acc=sY ++ (d.filter p).map f) ?_ ?_ _ _ _ ⟨hw0,[],L,rfl,rfl,by simp⟩
 . rintro acc ρ' ⟨hw,d,r,e1,e2,rfl⟩
   have:r = []:=by simpa using e2.symm
   subst this
   rw [List.append_nil] at e1
   subst e1
   exact hR ρ' hw
 . rintro x xs acc ρ' ⟨hw,d,r,e1,e2,rfl⟩
   cases r with
   | nil=>cases e2
   | cons a r =>
    rw [List.map_cons] at e2
    cases e2
    have hlen:=tQ (p:=p) (f:=f) hl e1
    have:=(ht a (by rw [e1];simp)).same hw
    refine aT this fun ρ1 h1=>aT h1 fun t h2=>?_
    have e3:L=(d ++ [a]) ++ r:=by rw [e1];simp
    split at h2
    . rename_i ht1
      rw [if_pos ht1]
      obtain ⟨hb,h2⟩:=h2
      refine aT h2 fun q h3=>aT h3 fun z h4=>Jd.mpr ⟨by rw [List.length_append];omega,h4.2.trans hw,d ++ [a],r,e3,rfl,?_⟩
      rw [List.filter_append]
      simp [hb,h4.1]
    . rename_i ht1
      rw [if_neg ht1]
      refine ⟨h2.2.trans hw,d ++ [a],r,e3,rfl,?_⟩
      rw [List.filter_append]
      simp [h2.1]
theorem Ir{ρ0:Rho}(ρ:Rho){out:Bool->List D->W}{L:List α}(h:oS (fi ρ0) fun z=>z=(L.map g,ρ))(hl:L.length <= 1000000)(ht:∀ x ∈ L,rX fg ft fe vs ρ (g x) (f x) (p x))(hQ:Q (out true ((L.filter p).map f),ρ)):oS (sU eU out fi fg ft fe vs ρ0) Q:=by
 unfold sU
 simp only [aC]
 refine aT h fun z hz=>?_
 subst hz
 refine T3 hl (by simp) ht rfl fun ρ' hw=>?_
 rw [au,Ay hw,List.nil_append]
 exact hQ
theorem G2{out:Bool->List D->W}{L:List α}(h:oS (fi ρ) fun z=>z=(L.map g,ρ))(hl:L.length <= 1000000)(ht:∀ x ∈ L,rX fg ft fe vs ρ (g x) (f x) (p x))(hQ:Q (out true ((L.filter p).map f),ρ)):oS (sU eU out fi fg ft fe vs ρ) Q:=Ir ρ h hl ht hQ
end
end
section
section
variable {X:Cx} {K:PySem.W.Frag} {Fz Fz1 Fz2:Addr->Prop} {ρ ρ1 ρ2:Rho} {σ:St} {H H1 H2:Hp} {w:W} {ws:List W} {vs:List V}
end
end
end L2.Q3
end
section
namespace L2
open PySem PySem.Spec PyProof.Rows
section
variable {X:Cx}
end
end L2
namespace L2.Q3
open PySem PySem.Spec PyProof.Rows
end L2.Q3
end
section
namespace PySem
open Sem (wp)
section
section
variable {prog:Program} {w:World} {A:Around} {E:Value->Shared->Prop} {s:Shared}
end
section
variable {prog:Program} {w:World} {A:Around} {E:Value->Shared->Prop} {s:Shared}
end
section
variable {prog:Program} {w:World} {A:Around} {R:Result->Shared->Prop} {I:Addr} {fp wr:List Addr} {G:Array GenState->Array GenState->Prop} {n:Nat} {P:Nat->Value->Prop} {St:Nat->Shared->Prop}
end
section
variable {prog:Program} {w:World} {A:Around} {E:Value->Shared->Prop} {s:Shared}
end
end
end PySem
end
section
namespace L2
open PySem PySem.Spec PyProof.Rows
section
section
variable {prog:Program} {w:World} {A:Around} {E:Value->Shared->Prop}
end
end
end L2
end
section
namespace L2.Q3
open PySem PySem.Spec PyProof.Rows
section
section
variable {X:Cx}
end
end
section
section
variable {X:Cx}
end
end
section
section
variable {X:Cx} {a b:Expr} {fa fb:Fe} {pos:Pos}
end
section
variable {X:Cx} {o:Expr} {fo:Fe} {fa:Fa} {r:V->List V->Hp->VK->Prop} {g:List D->Option W}
end
end
section
structure GTx (K:PySem.W.Frag) (mg:Str->Option Value) (x:Str) (xs:List Str):Prop where
 ex:∃ (a:Addr) (o:Obj) (its:Array Value) (n:Nat),mg x=some (.ref a) /\ K.lookup a=some o /\ (o.cls,o.dict)=(Value.type "tuple",none) /\ o.data = .seq its n /\ its.size <= sizeLine /\ Vals (xs.map V.str) its.toList
end
end L2.Q3
end
section
namespace L2
open PySem PySem.Spec PyProof.Rows
section
section
variable {X:Cx}
end
end
section
section
variable {X:Cx}
end
end
section
section
variable {X:Cx}
end
end
section
section
variable {X:Cx}
end
end
end L2
end
section
namespace PySem
open Sem (wp)
section
theorem Ris.lt{xs:Array Nat}(h:Ris xs){i k:Nat}(hi:i < k)(hk:k < xs.size):xs[i]'(Nat.lt_trans hi hk) < xs[k]:=by
 have:=List.pairwise_iff_getElem.mp h i k (by rw [Array.length_toList];omega) (by rw [Array.length_toList];omega) hi
 simpa using this
end
end PySem
end
section
namespace L2.Q3.Tx
open PySem PySem.Spec PyProof.Rows
section
def lY:Fs:=bf (fIf (ftB (fe2 (nV pLt qLt) (ag 1) (aI f9 (aa (ag 0) (aj))))) (dP 2 (fe2 gIx (ag 0) (ag 1))) (fNx)) (dP 2 (fC (.int 0)))
def eQ:Fn:=fnOf [true,true] 2 lY
def rF:Fs:=bf (fIf (rR (ftB (fe2 lZ (fe2 gIx (ag 0) (fC (.int 1))) (fC (.int 1)))) (ftB (fe2 (nV pGt qGt) (fe2 gIx (ag 0) (fC (.int 0))) (fC (.int 0))))) (bf (cG 3 (fe2 F6 (fe2 gIx (ag 0) (fC (.int 0))) (ag 1))) (bf (w6 (fe2 N3 (fe2 gIx (ag 0) (fC (.int 0))) (ag 1)) (ag 0) (fC (.int 0))) (dP 2 (ag 3)))) (fNx)) (bf (w6 (fe2 j4 (fe2 gIx (ag 0) (fC (.int 2))) (fC (.int 1))) (ag 0) (fC (.int 2))) (bf (cG 2 (fe2 F6 (fe2 Hs (fe2 j4 (fe2 gIx (ag 0) (fC (.int 3))) (fC (.int 17))) (fe2 j4 (fC (.int 69621)) (fe2 Hs (fC (.int 2)) (fe2 gIx (ag 0) (fC (.int 2)))))) (fC (.int 2147483647)))) (bf (cG 2 (fe2 F6 (fe2 j4 (fe2 j4 (fe2 Hs (ag 2) (ag 2)) (fe2 Hs (fC (.int 40503)) (fe2 gIx (ag 0) (fC (.int 2))))) (fC (.int 5))) (fC (.int 2147483629)))) (dP 2 (fe2 F6 (fe2 N3 (fe2 F6 (fe2 Hs (ag 2) (fC (.int 48271))) (fC (.int 2147483647))) (fC (.int 32))) (ag 1))))))
def ay:Fn:=fnOf [true,true] 4 rF
def uz:Fs:=dP 1 (eK (aa (ag 0) (aa (aI ve (aa (fe2 (nV pGe qGe) (ag 0) (fe2 KZ (fC (.int 10)) (fC (.int 18)))) (aj))) (aa (fC (.int 0)) (aa (fe2 F6 (ag 0) (fC (.int 1000000007))) (aj))))))
def jy:Fn:=fnOf [true] 1 uz
def pE:Fs:=bf (cG 2 (aI pL (aa (ag 1) (aj)))) (dP 2 (aI pK (aa (gU (vp (aa (aI O0 (aa (ag 1) (aa (aw ay (aa (ag 0) (aa (fC (.int 4)) (aj)))) (aj)))) (aj))) (gN 3) (l4) (jE DR (ag 2) (aa (aw ay (aa (ag 0) (aa (aI f9 (aa (ag 2) (aj))) (aj)))) (aj))) [3]) (aj))))
def gC:Fn:=fnOf [true,true] 4 pE
def pJ:Fs:=bf (cG 1 (eK (aa (eM (aj)) (aj)))) (bf (zY (w9 (ag 0)) (gT 2 (cE (gN 2) (cE (gN 3) (nO)))) (cG 1 (fe2 j4 (fe2 j4 (ag 1) (eK (aa (eM (aa (ag 2) (aj))) (aj)))) (gU (vp (aa (ag 3) (aj))) (gN 4) (l4) (eM (aa (ag 2) (aa (ag 4) (aj)))) [4])))) (dP 1 (ag 1)))
def cy:Fn:=fnOf [true] 5 pJ
def pM:Fs:=bf (cG 1 (eK (aj))) (bf (zY (vp (aa (aw ay (aa (ag 0) (aa (fC (.int 5)) (aj)))) (aj))) (gN 2) (bf (cG 3 (fe2 gIx (eK (aa (fC (.int 1)) (aa (fC (.int 1)) (aa (fC (.int 2)) (aa (fC (.int 8)) (aj)))))) (aw ay (aa (ag 0) (aa (fC (.int 4)) (aj)))))) (bf (cG 4 (fe2 gIx (eK (aa (fC (.int 4)) (aa (fC (.int 26)) (aj)))) (aI ve (aa (fe2 (nV pGt qGt) (ag 3) (fC (.int 1))) (aj))))) (kX (jE hAppend (ag 1) (aa (HA Ij (fC (.str "")) (aa (gU (vp (aa (ag 3) (aj))) (gN 5) (l4) (fe2 gIx (fC (.str "abcdefghijklmnopqrstuvwxyz")) (aw ay (aa (ag 0) (aa (ag 4) (aj))))) [5]) (aj))) (aj))))))) (dP 1 (aI pK (aa (aI vg (aa (ag 1) (aj))) (aj)))))
def jf:Fn:=fnOf [true] 6 pM
def uy:Fs:=bf (cG 1 (aI pK (aa (gU (vp (aa (fe2 j4 (fC (.int 1)) (aw ay (aa (ag 0) (aa (fC (.int 3)) (aj))))) (aj))) (gN 5) (l4) (fe2 j4 (fC (.int 1)) (aw ay (aa (ag 0) (aa (fC (.int 3)) (aj))))) [5]) (aj)))) (bf (cG 2 (aw cy (aa (ag 1) (aj)))) (bf (cG 3 (fe2 gIx (eK (aa (fC (.int 2)) (aa (fC (.int 4)) (aa (fC (.int 8)) (aj))))) (aw ay (aa (ag 0) (aa (fC (.int 3)) (aj)))))) (bf (cG 4 (eK (aj))) (bf (zY (vp (aa (aw ay (aa (ag 0) (aa (fC (.int 9)) (aj)))) (aj))) (gN 5) (bf (cG 7 (eM (aa (aw ay (aa (ag 0) (aa (ag 3) (aj)))) (aa (fe2 gIx (ag 2) (aw ay (aa (ag 0) (aa (aI f9 (aa (ag 2) (aj))) (aj))))) (aa (aw ay (aa (ag 0) (aa (fC (.int 4)) (aj)))) (aj)))))) (bf (cG 7 (fe2 j4 (ag 7) (eM (aa (fe2 j4 (fC (.int 1)) (aw ay (aa (ag 0) (aa (fC (.int 3)) (aj))))) (aa (aw gC (aa (ag 0) (aa (ag 3) (aj)))) (aj)))))) (fIf (ftB (fe2 (gIn true) (yy (ag 7) (foN) (foS (fC (.int 2)))) (lh 4 (gN 9) (l4) (yy (ag 9) (foN) (foS (fC (.int 2)))) [9]))) (kX (jE hAppend (ag 4) (aa (ag 7) (aj)))) (fNx))))) (bf (cG 6 (eK (aj))) (bf (zY (vp (aa (aw ay (aa (ag 0) (aa (fC (.int 7)) (aj)))) (aj))) (gN 5) (bf (cG 8 (aw ay (aa (ag 0) (aa (aI f9 (aa (ag 1) (aj))) (aj))))) (kX (jE hAppend (ag 6) (aa (eM (aa (eM (aa (ag 8) (aa (aw ay (aa (ag 0) (aa (fe2 gIx (ag 1) (ag 8)) (aj)))) (aj)))) (aa (aw gC (aa (ag 0) (aa (ag 3) (aj)))) (aa (aw jf (aa (ag 0) (aj))) (aj))))) (aj)))))) (dP 1 (eM (aa (ag 1) (aa (aI pK (aa (ag 4) (aj))) (aa (aI pK (aa (ag 6) (aj))) (aj))))))))))))
def jz:Fn:=fnOf [true] 10 uy
def pN(F:Fn):Fs:=bf (cG 2 (aw ay (aa (ag 0) (aa (fC (.int 12)) (aj))))) (bf (fIf (Ht (ftB (fe2 (nV pLt qLt) (ag 2) (fC (.int 8)))) (ftB (fe2 lZ (ag 1) (fC (.int 0))))) (dP 2 (fe2 gIx (eK (aa (fC .none) (aa (fC (.bool true)) (aa (fC (.bool false)) (aa (fC (.int 0)) (aa (fC (.int 1)) (aa (fe1 pH (fC (.int 1))) (aa (fC (.int 9)) (aa (fe2 KZ (fC (.int 10)) (fC (.int 39))) (aa (fC (.str "")) (aa (fC (.str "a")) (aa (eM (aj)) (aa (eK (aj)) (aj)))))))))))))) (aw ay (aa (ag 0) (aa (fC (.int 12)) (aj)))))) (fNx)) (bf (cG 3 (gU (vp (aa (aw ay (aa (ag 0) (aa (fC (.int 4)) (aj)))) (aj))) (gN 4) (l4) (aw F (aa (ag 0) (aa (fe2 uG (ag 1) (fC (.int 1))) (aj)))) [4])) (bf (fIf (ftB (fe2 lZ (ag 2) (fC (.int 8)))) (dP 2 (ag 3)) (fNx)) (bf (fIf (ftB (fe2 lZ (ag 2) (fC (.int 9)))) (dP 2 (vL "a" (ag 3))) (fNx)) (dP 2 (aI pK (aa (ag 3) (aj))))))))
def br:Nat->Fn
 | 0=>fun _=>none
 | k + 1=>fnOf [true,true] 5 (pN (br k))
def ie(F:Fn):Fs:=bf (fIf (rR (ftV (mE "tuple" (ag 1))) (rR (ftB (fe2 (gEq true) (ag 1) (eM (aj)))) (ftB (fe2 (nV pGt qGt) (aw ay (aa (ag 0) (aa (fC (.int 6)) (aj)))) (fC (.int 0)))))) (bf (cG 3 (aw ay (aa (ag 0) (aa (aI f9 (aa (ag 1) (aj))) (aj))))) (dP 2 (fe2 j4 (fe2 j4 (yy (ag 1) (foN) (foS (ag 3))) (eM (aa (aw F (aa (ag 0) (aa (fe2 gIx (ag 1) (ag 3)) (aj)))) (aj)))) (yy (ag 1) (foS (fe2 j4 (ag 3) (fC (.int 1)))) (foN))))) (fNx)) (bf (cG 2 (aw ay (aa (ag 0) (aa (fC (.int 8)) (aj))))) (bf (fIf (rR (ftV (mE "tuple" (ag 1))) (ftB (fe2 (nV pLt qLt) (ag 2) (fC (.int 4))))) (dP 2 (fe2 gIx (eK (aa (fe2 j4 (ag 1) (yy (ag 1) (foS (fe1 pH (fC (.int 1)))) (foN))) (aa (yy (ag 1) (foN) (foS (fe1 pH (fC (.int 1))))) (aa (aI Ik (aa (ag 1) (aj))) (aa (Gs (ag 1) (fe1 pH (fC (.int 1)))) (aj)))))) (ag 2))) (fNx)) (bf (fIf (rR (ftV (mE "int" (ag 1))) (ftB (fe2 (nV pLt qLt) (ag 2) (fC (.int 4))))) (dP 2 (fe2 gIx (eK (aa (fe2 j4 (ag 1) (fC (.int 1))) (aa (fe2 uG (ag 1) (fC (.int 1))) (aa (fe2 (nV pGt qGt) (ag 1) (fC (.int 0))) (aa (aI M9 (aa (ag 1) (aj))) (aj)))))) (ag 2))) (fNx)) (bf (fIf (rR (ftV (mE "str" (ag 1))) (ftB (fe2 (nV pLt qLt) (ag 2) (fC (.int 4))))) (dP 2 (fe2 gIx (eK (aa (fe2 j4 (ag 1) (fC (.str "a"))) (aa (HA HC (ag 1) aj) (aa (yy (ag 1) (foN) (foS (fe1 pH (fC (.int 1))))) (aa (fe2 j4 (fC (.str "1")) (ag 1)) (aj)))))) (ag 2))) (fNx)) (dP 2 (aw (br 6) (aa (ag 0) (aa (fC (.int 2)) (aj)))))))))
def bJ:Nat->Fn
 | 0=>fun _=>none
 | k + 1=>fnOf [true,true] 4 (ie (bJ k))
def nu:Fs:=dP 3 (vE (mE "tuple" (ag 0)) (my (nV pLe qLe) (nV pLe qLe) (ag 1) (aI f9 (aa (ag 0) (aj))) (ag 2)))
def hZ:Fn:=fnOf [true,true,true] 3 nu
def rG:Fs:=dP 1 (vE (mE "int" (ag 0)) (Gd (mE "bool" (ag 0))))
def jQ:Fn:=fnOf [true] 1 rG
def uA:Fs:=dP 3 (vE (aw jQ (aa (ag 0) (aj))) (my (nV pLe qLe) (nV pLe qLe) (ag 1) (ag 0) (ag 2)))
def aZ:Fn:=fnOf [true,true,true] 3 uA
def pI:Fs:=bf (fIf (ig (ftV (aw hZ (aa (ag 1) (aa (fC (.int 0)) (aa (fC (.int 2)) (aj))))))) (dP 2 (fC (.bool false))) (fNx)) (bf (fIf (ftB (fe2 lZ (aI f9 (aa (ag 1) (aj))) (fC (.int 0)))) (dP 2 (fC (.bool true))) (fNx)) (bf (cG 2 (fe2 gIx (ag 1) (fC (.int 0)))) (bf (fIf (ig (ftV (aw aZ (aa (ag 2) (aa (fC (.int 0)) (aa (fe2 uG (aI f9 (aa (ag 0) (aj))) (fC (.int 1))) (aj))))))) (dP 2 (fC (.bool false))) (fNx)) (dP 2 (LZ (fe2 lZ (aI f9 (aa (ag 1) (aj))) (fC (.int 1))) (aw aZ (aa (fe2 gIx (ag 1) (fC (.int 1))) (aa (fC (.int 0)) (aa (fe2 uG (fe2 gIx (ag 0) (ag 2)) (fC (.int 1))) (aj))))))))))
def je:Fn:=fnOf [true,true] 3 pI
def wG:Fs:=dP 2 (aw je (aa (fe2 gIx (ag 0) (fC (.int 0))) (aa (ag 1) (aj))))
def jw:Fn:=fnOf [true,true] 2 wG
end
section
def mf:Fs:=dP 1 (gU (MO (aa (aI f9 (aa (ag 0) (aj))) (aa (fe1 pH (fC (.int 1))) (aa (fe1 pH (fC (.int 1))) (aj))))) (gN 1) (l4) (yy (ag 0) (foN) (foS (ag 1))) [1])
def gq:Fn:=fnOf [true] 2 mf
def mh:Fs:=dP 3 (HV eU me (jg (aw gq (aa (ag 1) (aj)))) (gN 3) (l4) (w9 (fe2 gIx (ag 0) (fC (.int 1)))) (gT 2 (cE (gN 4) (cE (gN 5) (nO)))) (rR (ftB (fe2 lZ (fe2 gIx (ag 5) (fC (.int 0))) (ag 2))) (ftB (fe2 lZ (fe2 gIx (ag 5) (fC (.int 1))) (ag 3)))) (ag 4) [3,4,5] [4,5])
def bT:Fn:=fnOf [true,true,true] 6 mh
def iY:Fs:=fIf (ig (ftV (aw aZ (aa (ag 0) (aa (ag 1) (aa (ag 2) (aj))))))) (Gw) (fNx)
def dF:Fn:=fnOf [true,true,true] 3 iY
def jI:Fs:=fIf (ig (ftV (aw jw (aa (ag 0) (aa (ag 1) (aj)))))) (Gw) (fNx)
def cf:Fn:=fnOf [true,true] 2 jI
def Az:Fs:=bf (kX (aw cf (aa (ag 0) (aa (ag 1) (aj))))) (bf (kX (aw dF (aa (ag 2) (aa (fC (.int 0)) (aa (fC (.int 7)) (aj)))))) (dP 3 (aw bT (aa (ag 0) (aa (ag 1) (aa (ag 2) (aj)))))))
def jR:Fn:=fnOf [true,true,true] 3 Az
def pW:Fs:=dP 1 (N6 (ftV (ag 0)) (fe2 gIx (ag 0) (fC (.int 0))) (fC .none))
def bU:Fn:=fnOf [true] 1 pW
def uM:Fs:=dP 3 (aw bU (aa (aw jR (aa (ag 0) (aa (ag 1) (aa (ag 2) (aj))))) (aj)))
def jx:Fn:=fnOf [true,true,true] 3 uM
end
section
def ny:Fs:=dP 4 (sU eU me (jg (aw bT (aa (ag 0) (aa (ag 1) (aa (ag 2) (aj)))))) (gN 4) (ftB (fe2 (gEq true) (ag 4) (ag 3))) (ag 4) [4])
def ia:Fn:=fnOf [true,true,true,true] 5 ny
def iU:Fs:=fIf (ig (ftV (aw aZ (aa (ag 1) (aa (fC (.int 0)) (aa (fe2 uG (aI f9 (aa (fe2 gIx (ag 0) (fC (.int 1))) (aj))) (fC (.int 1))) (aj))))))) (Gw) (fNx)
def dG:Fn:=fnOf [true,true] 2 iU
def nA:Fs:=bf (kX (aw dG (aa (ag 0) (aa (ag 1) (aj))))) (bf (Kd (fe2 gIx (fe2 gIx (ag 0) (fC (.int 1))) (ag 1)) (gT 5 (cE (gN 2) (cE (gN 3) (cE (gN 4) (cE (gN 5) (cE (gN 6) (nO)))))))) (dP 2 (sU eU me (jg (ag 6)) (gN 7) (l4) (aw bU (aa (aw ia (aa (ag 0) (aa (ag 3) (aa (ag 7) (aa (ag 1) (aj)))))) (aj))) [7])))
def fL:Fn:=fnOf [true,true] 8 nA
def gX:Fs:=fIf (ig (ftV (aw aZ (aa (ag 1) (aa (fC (.int 0)) (aa (fe2 uG (aI f9 (aa (fe2 gIx (ag 0) (fC (.int 2))) (aj))) (fC (.int 1))) (aj))))))) (Gw) (fNx)
def cU:Fn:=fnOf [true,true] 2 gX
def kN:Fs:=bf (kX (aw cU (aa (ag 0) (aa (ag 1) (aj))))) (bf (Kd (fe2 gIx (fe2 gIx (ag 0) (fC (.int 2))) (ag 1)) (gT 3 (cE (gN 2) (cE (gN 3) (cE (gN 4) (nO)))))) (dP 2 (sU eU me (jg (ag 3)) (gN 5) (l4) (aw bU (aa (aw bT (aa (ag 0) (aa (ag 2) (aa (ag 5) (aj))))) (aj))) [5])))
def dY:Fn:=fnOf [true,true] 6 kN
end
end L2.Q3.Tx
end
section
namespace L2.Q3.Tx
open PySem PySem.Spec PyProof.Rows L2
local macro_rules | `(tactic| walk_at "mir") => `(tactic| simp (config := { decide := true, maxSteps := 2000000 }) only [↓nJ, ↓yi, ↓yj, ↓qc, ↓qd, ↓kG, ↓il, ↓o_C, ↓qf, ↓kH, ↓jU, ↓dJ, ↓yk, ↓ym, ↓kI, ↓kJ, ↓qg, ↓yn, ↓qh, ↓yo, ↓qi, ↓qj, ↓iq, ↓qk, ↓ql, ↓gW, ↓qm, ↓qo, ↓qp, ↓yp, ↓kK, ↓yq, ↓ir, ↓qr, ↓kL, ↓yr, ↓kM, ↓qt,
 nJ,yi,yj,qc,qd,kG,il,o_C,qf,kH,jU,dJ,yk,ym,kI,kJ,qg,yn,qh,yo,qi,qj,iq,qk,ql,gW,qm,qo,qp,yp,kK,yq,ir,qr,kL,yr,kM,qt,
 ↓aC,↓au,↓fX,↓aE,↓iu,aC,au,fX,aE,iu,Cj,Ck,Cm,Cn,Co,wB,wC,wD,Cp,Cq,Cr,Cs,Ct,Cu,nK,nL,nM,nN,
 gN,gT,nO,cE,cu,rdW,rE,bw,f7,gz,vd,slots,mq,putBack,BZ,B0,jV,kF,sT,tru,itemsOf,f9,ve,pH,
 List.getElem?_cons_zero,List.getElem?_cons_succ,List.set_cons_zero,List.set_cons_succ,List.length_cons,List.length_nil,List.take_succ_cons,List.take_zero,List.map_cons,List.map_nil,Option.getD_some,Option.isSome_some,Option.bind_some,Bool.true_and,Bool.and_true,Bool.not_true,Bool.not_false,if_true,if_false,ite_true,ite_false,reduceCtorEq,true_and,and_true,List.nodup_cons,List.not_mem_nil,not_false_eq_true,List.nodup_nil,List.mem_singleton,List.mem_cons,Nat.reduceAdd,Nat.zero_add,Nat.reduceLeDiff,Nat.reduceEqDiff,Nat.reduceLT,Int.reduceNeg,Bool.false_eq_true])
section
theorem Th:ixN 4 0=some 0:=rfl
theorem Ti:ixN 4 2=some 2:=rfl
def cW(p:List D):Prop:=∃ a b c d:Int,p = [.int a,.int b,.int c,.int d] /\ 0 <= d /\ d < 1000000007
theorem bp{p:List D}{n:Int}(hp:cW p)(hn:0 < n)(hn2:n < 1073741824){Q:W × List W->Prop}(h:∀ r p',cW p'->0 <= r->r < n->Q (.d (.int r),[.fr p',.d (.int n)])):oS (ay [.fr p,.d (.int n)]) Q:=by
 obtain ⟨a,b,c,d,rfl,h0,h1⟩:=hp
 refine dI rfl rfl ?_
 show oS (rF [some (.fr [.int a,.int b,.int c,.int d]),some (.d (.int n)),none,none]) _
 unfold rF
 walk_at "mir"
 simp only [Th,Ti]
 walk_at "mir"
 have pen:∀ x y z:Int,cW [.int x,.int y,.int z,.int d]:=fun x y z=>⟨x,y,z,d,rfl,h0,h1⟩
 have m:∀ x:Int,0 <= x % n /\ x % n < n:=fun x=>⟨Int.emod_nonneg _ (by omega),Int.emod_lt_of_pos _ hn⟩
 have m2:∀ x:Int,-2 ^ 64 < x % 2147483647 /\ x % 2147483647 < 2 ^ 64:=fun x=>by
  have a1:=Int.emod_nonneg x (show (2147483647:Int) ≠ 0 by decide)
  have a2:=Int.emod_lt_of_pos x (show (0:Int) < 2147483647 by decide)
  constructor <;> omega
 split
 . split
   . exact ⟨hn,⟨hn,hn2⟩,h _ _ (pen _ _ _) (m _).1 (m _).2⟩
   . exact ⟨.inl trivial,.inl ⟨by omega,by omega⟩,.inl (m2 _),.inl trivial,.inr trivial,hn,h _ _ (pen _ _ _) (m _).1 (m _).2⟩
 . exact ⟨.inl trivial,.inl ⟨by omega,by omega⟩,.inl (m2 _),.inl trivial,.inr trivial,hn,h _ _ (pen _ _ _) (m _).1 (m _).2⟩
theorem M7{ns:List Int}{k:Int}(hk:0 <= k){Q:W × List W->Prop}(h:∀ x,Q (.d (.int x),[B1 ns,.d (.int k)])):oS (eQ [B1 ns,.d (.int k)]) Q:=by
 refine dI rfl rfl ?_
 show oS (lY [some (B1 ns),some (.d (.int k))]) _
 unfold lY B1
 walk_at "mir"
 split
 . rename_i hl
   refine iT hk (by simpa using hl) fun x hx _=>?_
   obtain ⟨y,_,rfl⟩:=List.mem_map.mp hx
   exact h y
 . exact h 0
theorem Rt:KZ [.int 10,.int 18] = some (.d (.int 1000000000000000000)):=rfl
theorem OZ:KZ [.int 10,.int 39] = some (.d (.int 1000000000000000000000000000000000000000)):=rfl
theorem Pq{x:Int}{Q:W × List W->Prop}(h:∀ p,cW p->Q (.fr p,[.d (.int x)])):oS (jy [.d (.int x)]) Q:=by
 refine dI rfl rfl ?_
 show oS (uz [some (.d (.int x))]) _
 unfold uz
 walk_at "mir"
 simp only [Rt]
 walk_at "mir"
 exact h _ ⟨_,_,_,_,rfl,Int.emod_nonneg _ (by decide),Int.emod_lt_of_pos _ (by decide)⟩
def NS(x:D):Prop:=(∀ ys,x ≠ .dict [(.none,.list ys)]) /\ ∀ ks ys,x ≠ .dict [(.tuple ks,.list ys)]
def Good(x:D):Prop:=NS x /\ ∀ xs,x = .tuple xs->∀ y ∈ xs,NS y
theorem DX{x:D}(h:NS x)(n:String):wF n x=some (fS (cw x) n):=by
 unfold wF
 split
 . rename_i ys;exact absurd rfl (h.1 ys)
 . rename_i ks ys;exact absurd rfl (h.2 ks ys)
 . rfl
def aO(x:D)(a b:Int):Bool:=match x with
 | .int i=>decide (a <= i) && decide (i <= b)
 | _=>false
def Pr(x:D):Bool:=match x with
 | .int _=>true
 | _=>false
theorem Jz{x:D}(hx:NS x){Q:W × List W->Prop}(h:Q (.d (.bool (Pr x)),[.d x])):oS (jQ [.d x]) Q:=by
 refine dI rfl rfl ?_
 show oS (rG [some (.d x)]) _
 unfold rG
 walk_at "mir"
 simp only [DX hx]
 walk_at "mir"
 cases x with
 | int i =>
  have e1:fS (cw (.int i)) "int" = true:=rfl
  have e2:fS (cw (.int i)) "bool" = false:=rfl
  simp only [e1,e2];walk_at "mir";exact h
 | bool k =>
  have e1:fS (cw (.bool k)) "int" = true:=rfl
  have e2:fS (cw (.bool k)) "bool" = true:=rfl
  simp only [e1,e2];walk_at "mir";exact h
 | none =>
  have e1:fS (cw .none) "int" = false:=rfl
  simp only [e1];walk_at "mir";exact h
 | str y =>
  have e1:fS (cw (.str y)) "int" = false:=rfl
  simp only [e1];walk_at "mir";exact h
 | list y =>
  have e1:fS (cw (.list y)) "int" = false:=rfl
  simp only [e1];walk_at "mir";exact h
 | tuple y =>
  have e1:fS (cw (.tuple y)) "int" = false:=rfl
  simp only [e1];walk_at "mir";exact h
 | dict y =>
  have e1:fS (cw (.dict y)) "int" = false:=rfl
  simp only [e1];walk_at "mir";exact h
theorem ic{x:D}{a b:Int}(hx:NS x){Q:W × List W->Prop}(h:Q (.d (.bool (aO x a b)),[.d x,.d (.int a),.d (.int b)])):oS (aZ [.d x,.d (.int a),.d (.int b)]) Q:=by
 refine dI rfl rfl ?_
 show oS (uA [some (.d x),some (.d (.int a)),some (.d (.int b))]) _
 unfold uA
 walk_at "mir"
 refine Jz hx ?_
 walk_at "mir"
 cases x with
 | int i =>
  simp only [Pr]
  walk_at "mir"
  unfold aO at h
  cases hc:pLe a i with
  | true =>
   walk_at "mir"
   have:decide (a <= i)=true:=hc
   simp only [this,Bool.true_and] at h
   exact h
  | false =>
   walk_at "mir"
   have:decide (a <= i)=false:=hc
   simp only [this,Bool.false_and] at h
   exact h
 | _=>simp only [Pr];walk_at "mir";exact h
def JA(x:D)(a b:Int):Bool:=match x with
 | .tuple xs=>decide (a <= xs.length) && decide ((xs.length:Int) <= b)
 | _=>false
theorem K0{x:D}{a b:Int}(hx:NS x){Q:W × List W->Prop}(h:Q (.d (.bool (JA x a b)),[.d x,.d (.int a),.d (.int b)])):oS (hZ [.d x,.d (.int a),.d (.int b)]) Q:=by
 refine dI rfl rfl ?_
 show oS (nu [some (.d x),some (.d (.int a)),some (.d (.int b))]) _
 unfold nu
 walk_at "mir"
 simp only [DX hx]
 walk_at "mir"
 cases x with
 | tuple y =>
  have e1:fS (cw (.tuple y)) "tuple" = true:=rfl
  simp only [e1];walk_at "mir"
  unfold JA at h
  cases hc:pLe a (y.length:Int) with
  | true =>
   walk_at "mir"
   have:decide (a <= (y.length:Int))=true:=hc
   simp only [this,Bool.true_and] at h
   exact h
  | false =>
   walk_at "mir"
   have:decide (a <= (y.length:Int))=false:=hc
   simp only [this,Bool.false_and] at h
   exact h
 | int i =>
  have e1:fS (cw (.int i)) "tuple" = false:=rfl
  simp only [e1];walk_at "mir";exact h
 | bool k =>
  have e1:fS (cw (.bool k)) "tuple" = false:=rfl
  simp only [e1];walk_at "mir";exact h
 | none =>
  have e1:fS (cw .none) "tuple" = false:=rfl
  simp only [e1];walk_at "mir";exact h
 | str y =>
  have e1:fS (cw (.str y)) "tuple" = false:=rfl
  simp only [e1];walk_at "mir";exact h
 | list y =>
  have e1:fS (cw (.list y)) "tuple" = false:=rfl
  simp only [e1];walk_at "mir";exact h
 | dict y =>
  have e1:fS (cw (.dict y)) "tuple" = false:=rfl
  simp only [e1];walk_at "mir";exact h
end
section
def i8(ts:List Int)(x:D):Bool:=match x with
 | .tuple []=>true
 | .tuple [a]=>aO a 0 ((ts.length:Int) - 1)
 | .tuple [.int e,b]=>aO (.int e) 0 ((ts.length:Int) - 1) && aO b 0 (ts.getD e.toNat 0 - 1)
 | _=>false
theorem GV{ts:List Int}{x:D}(hx:Good x){Q:W × List W->Prop}(h:Q (.d (.bool (i8 ts x)),[.d (.tuple (ts.map .int)),.d x])):oS (je [.d (.tuple (ts.map .int)),.d x]) Q:=by
 refine dI rfl rfl ?_
 show oS (pI [some (.d (.tuple (ts.map .int))),some (.d x),none]) _
 unfold pI
 walk_at "mir"
 refine K0 hx.1 ?_
 walk_at "mir"
 have no:JA x 0 2=false->i8 ts x=false:=by
  intro e
  unfold JA at e
  unfold i8
  split <;> first | rfl | (simp at e;done) | skip
 cases e:JA x 0 2 with
 | false=>walk_at "mir";rw [no e] at h;exact h
 | true =>
  walk_at "mir"
  cases x with
  | tuple xs =>
   obtain ⟨n1,n2⟩:=hx
   have n3:=n2 xs rfl
   walk_at "mir"
   match xs,n3,e,h with
   | [],_,_,h =>
    have e0:((((([]:List D).length:Nat):Int)) == 0)=true:=rfl
    simp only [List.length_nil] at *
    walk_at "mir"
    exact h
   | [a],n3,_,h =>
    walk_at "mir"
    refine ic (n3 a (by simp)) ?_
    walk_at "mir"
    have eL:(((ts.map PyData.int).length:Nat):Int)=(ts.length:Int):=by simp
    unfold i8 at h
    simp only [List.length_map] at *
    cases hw:aO a 0 ((ts.length:Int) - 1) with
    | false=>walk_at "mir";rw [hw] at h;exact h
    | true=>walk_at "mir";rw [hw] at h;exact h
   | [a,b],n3,_,h =>
    walk_at "mir"
    refine ic (n3 a (by simp)) ?_
    walk_at "mir"
    simp only [List.length_map] at *
    cases hw:aO a 0 ((ts.length:Int) - 1) with
    | false =>
     walk_at "mir"
     have:i8 ts (.tuple [a,b])=false:=by
      cases a with
      | int i =>
       show (aO (.int i) 0 ((ts.length:Int) - 1) && _)=false
       rw [hw];rfl
      | _=>rfl
     rw [this] at h;exact h
    | true =>
     walk_at "mir"
     cases a with
     | int i =>
      have hi:0 <= i /\ i <= (ts.length:Int) - 1:=by simpa [aO] using hw
      walk_at "mir"
      refine iT hi.1 (by simp;omega) fun y _ hy=>?_
      have hy':y = .int (ts.getD i.toNat 0):=by
       rw [List.getElem?_map] at hy
       rw [List.getD_eq_getElem?_getD]
       cases hz:ts[i.toNat]? with
       | none=>rw [hz] at hy;cases hy
       | some z=>rw [hz] at hy;simpa using hy.symm
      subst hy'
      walk_at "mir"
      refine ic (n3 b (by simp)) ?_
      walk_at "mir"
      have e5:i8 ts (.tuple [.int i,b])=aO b 0 (ts.getD i.toNat 0 - 1):=by
       show (aO (.int i) 0 ((ts.length:Int) - 1) && _)=_
       rw [hw];rfl
      rw [e5] at h
      exact h
     | _=>cases hw
   | _ :: _ :: _ :: _,_,e,_ =>
    simp [JA] at e
    omega
  | _=>cases e
theorem DY{ts:List Int}{x r1 r2:D}(hx:Good x){Q:W × List W->Prop}(h:Q (.d (.bool (i8 ts x)),[.d (.tuple [.tuple (ts.map .int),r1,r2]),.d x])):oS (jw [.d (.tuple [.tuple (ts.map .int),r1,r2]),.d x]) Q:=by
 refine dI rfl rfl ?_
 show oS (wG [some (.d (.tuple [.tuple (ts.map .int),r1,r2])),some (.d x)]) _
 unfold wG
 walk_at "mir"
 refine GV hx ?_
 walk_at "mir"
 exact h
end
end L2.Q3.Tx
end
section
namespace L2.Q3.Tx
open PySem PySem.Spec PyProof.Rows L2
local macro_rules | `(tactic| walk_at "mir2") => `(tactic| simp (config := { decide := true, maxSteps := 2000000 }) only [zS, ar, b8, ↓nJ, ↓yi, ↓yj, ↓qc, ↓qd, ↓kG, ↓il, ↓o_C, ↓qf, ↓kH, ↓jU, ↓dJ, ↓yk, ↓ym, ↓kI, ↓kJ, ↓qg, ↓yn, ↓qh, ↓yo, ↓qi, ↓qj, ↓iq, ↓qk, ↓ql, ↓gW, ↓qm, ↓qo, ↓qp, ↓yp, ↓kK, ↓yq, ↓ir, ↓qr, ↓kL, ↓yr, ↓kM, ↓qt,
 nJ,yi,yj,qc,qd,kG,il,o_C,qf,kH,jU,dJ,yk,ym,kI,kJ,qg,yn,qh,yo,qi,qj,iq,qk,ql,gW,qm,qo,qp,yp,kK,yq,ir,qr,kL,yr,kM,qt,
 ↓aC,↓au,↓fX,↓aE,↓iu,aC,au,fX,aE,iu,Cj,Ck,Cm,Cn,Co,wB,wC,wD,Cp,Cq,Cr,Cs,Ct,Cu,nK,nL,nM,nN,
 gN,gT,nO,cE,cu,rdW,rE,bw,f7,gz,vd,slots,mq,putBack,BZ,B0,jV,kF,sT,tru,itemsOf,f9,ve,pH,
 List.getElem?_cons_zero,List.getElem?_cons_succ,List.set_cons_zero,List.set_cons_succ,List.length_cons,List.length_nil,List.take_succ_cons,List.take_zero,List.map_cons,List.map_nil,Option.getD_some,Option.getD_none,Option.isSome_some,Option.isNone_none,Option.isNone_some,Option.bind_some,Option.bind_none,Bool.true_and,Bool.and_true,Bool.not_true,Bool.not_false,if_true,if_false,ite_true,ite_false,reduceCtorEq,true_and,and_true,List.nodup_cons,List.not_mem_nil,not_false_eq_true,List.nodup_nil,List.mem_singleton,List.mem_cons,Nat.reduceAdd,Nat.zero_add,Nat.reduceLeDiff,Nat.reduceEqDiff,Nat.reduceLT,Int.reduceNeg,Bool.false_eq_true,List.all_cons,List.all_nil,List.append_nil])
section
def spS(ps:List (Int × Nat)):List (List Int):=[] :: ps.flatMap fun p=>[(p.2:Int)] :: (List.range p.1.toNat).map fun (t:Nat)=>[(p.2:Int),(t:Int)]
def aJ(s:List Int):D:=.tuple (s.map .int)
def kD(ts:List Int):List D:=(spS ts.zipIdx).map aJ
theorem K1(ps:List (Int × Nat))(p:Int × Nat):spS (ps ++ [p])=spS ps ++ ([(p.2:Int)] :: (List.range p.1.toNat).map fun (t:Nat)=>[(p.2:Int),(t:Int)]):=by
 unfold spS
 rw [List.flatMap_append];simp
theorem Ii(ps:List (Int × Nat))(h:∀ p ∈ ps,p.1 <= 3):(spS ps).length <= 1 + 4 * ps.length:=by
 unfold spS
 induction ps with
 | nil=>simp
 | cons p ps ih =>
  have h1:=ih fun q hq=>h q (List.mem_cons_of_mem _ hq)
  have h2:=h p List.mem_cons_self
  simp only [List.flatMap_cons,List.length_cons,List.length_append,List.length_map,List.length_range] at h1 ⊢
  omega
theorem GW{n:Nat}{x:D}(h:x ∈ jA 0 n):∃ t:Nat,x = .int (t:Int) /\ t < n:=by
 unfold jA at h
 obtain ⟨i,hi,rfl⟩:=List.mem_map.mp h
 exact ⟨i,by simp,List.mem_range.mp hi⟩
theorem zQ{ts:List Int}(hl:ts.length <= 3)(hm:∀ m ∈ ts,0 <= m /\ m <= 3){Q:W × List W->Prop}(h:Q (.fr (kD ts),[.d (.tuple (ts.map .int))])):oS (cy [.d (.tuple (ts.map .int))]) Q:=by
 refine dI rfl rfl ?_
 show oS (pJ [some (.d (.tuple (ts.map .int))),none,none,none,none]) _
 unfold pJ
 walk_at "mir2"
 refine zR ?_
 walk_at "mir2"
 refine ⟨fun items ρ=>∃ done rest o2 o3,ts.zipIdx=done ++ rest /\ items=rest.map (fun p=>.tuple [.int ((p.2:Nat):Int),.int p.1]) /\ ρ = [some (.d (.tuple (ts.map .int))),some (.fr ((spS done).map aJ)),o2,o3,none],⟨[],ts.zipIdx,none,none,rfl,?_,rfl⟩,?_,?_⟩
 . unfold rH
   rw [List.zipIdx_map,List.map_map]
   rfl
 . rintro ρ ⟨done,rest,o2,o3,e1,e2,rfl⟩
   have e3:rest = []:=by simpa using e2.symm
   subst e3
   walk_at "mir2"
   have e4:done=ts.zipIdx:=by simpa using e1.symm
   subst e4
   exact h
 . rintro x xs ρ ⟨done,rest,o2,o3,e1,e2,rfl⟩
   cases rest with
   | nil=>cases e2
   | cons p rest =>
    obtain ⟨m,ev⟩:=p
    rw [List.map_cons] at e2
    cases e2
    have hmem:(m,ev) ∈ ts.zipIdx:=by rw [e1];simp
    have hm':0 <= m /\ m <= 3:=hm m (List.fst_mem_of_mem_zipIdx hmem)
    have hall:∀ p ∈ ts.zipIdx,p.1 <= 3:=fun p hp=>(hm p.1 (List.fst_mem_of_mem_zipIdx hp)).2
    have hlen:=Ii done fun q hq=>hall q (by rw [e1];simp [hq])
    have hdl:done.length <= 3:=by
     have:=congrArg List.length e1
     simp at this
     omega
    walk_at "mir2"
    refine ⟨by rw [List.length_map];omega,?_⟩
    refine pF ?_
    walk_at "mir2"
    refine ⟨⟨by omega,by omega⟩,?_⟩
    refine ⟨fun items acc ρ => ∃ o4, acc ++ items.map (fun y => match y with | .int t => aJ [(ev : Int), t] | _ => .none) = (List.range m.toNat).map (fun (t : Nat) => aJ [(ev : Int), (t : Int)]) /\ (∀ x ∈ items, ∃ t : Int, x = .int t) /\
        ρ = [some (.d (.tuple (ts.map .int))),some (.fr ((spS done).map aJ)),some (.d (.int ev)),some (.d (.int m)),o4],⟨none,?_,fun x hx=>?_,rfl⟩,?_,?_⟩
    . unfold jA
      rw [List.nil_append,List.map_map]
      refine List.map_congr_left fun t _=>?_
      simp
    . obtain ⟨t,rfl,_⟩:=GW hx
      exact ⟨_,rfl⟩
    . rintro acc ρ ⟨o4,e3,_,rfl⟩
      walk_at "mir2"
      rw [List.map_nil,List.append_nil] at e3
      subst e3
      refine ⟨by simp;omega,done ++ [(m,ev)],rest,some (.d (.int ev)),some (.d (.int m)),by rw [e1];simp,rfl,?_⟩
      rw [K1]
      simp [aJ,Function.comp_def]
    . rintro x xs acc ρ ⟨o4,e3,e4,rfl⟩
      obtain ⟨t,rfl⟩:=e4 x List.mem_cons_self
      walk_at "mir2"
      refine ⟨?_,_,?_,fun y hy=>e4 y (List.mem_cons_of_mem _ hy),rfl⟩
      . have:=congrArg List.length e3
        simp at this
        omega
      . rw [<- e3]
        simp [aJ]
end
section
theorem mw{ps:List (Int × Nat)}{s:List Int}:s ∈ spS ps ↔ s = [] \/ ∃ p ∈ ps,s = [(p.2:Int)] \/ ∃ t:Nat,t < p.1.toNat /\ s = [(p.2:Int),(t:Int)]:=by
 unfold spS
 rw [List.mem_cons,List.mem_flatMap]
 refine or_congr Iff.rfl ⟨?_,?_⟩
 . rintro ⟨p,hp,h⟩
   refine ⟨p,hp,?_⟩
   rcases List.mem_cons.mp h with h | h
   . exact .inl h
   . obtain ⟨t,ht,rfl⟩:=List.mem_map.mp h
     exact .inr ⟨t,List.mem_range.mp ht,rfl⟩
 . rintro ⟨p,hp,h | ⟨t,ht,rfl⟩⟩
   . exact ⟨p,hp,List.mem_cons.mpr (.inl h)⟩
   . exact ⟨p,hp,List.mem_cons.mpr (.inr (List.mem_map.mpr ⟨t,List.mem_range.mpr ht,rfl⟩))⟩
theorem pG{ts:List Int}{m:Int}{e:Nat}:(m,e) ∈ ts.zipIdx ↔ ts[e]? = some m:=by
 rw [List.mem_zipIdx_iff_getElem?]
theorem vf(ts:List Int)(hm:∀ m ∈ ts,0 <= m)(x:D):i8 ts x=true ↔ ∃ s ∈ spS ts.zipIdx,x=aJ s:=by
 constructor
 . intro h
   unfold i8 at h
   split at h
   . exact ⟨[],mw.mpr (.inl rfl),rfl⟩
   . rename_i a
     cases a with
     | int i =>
      have hi:0 <= i /\ i <= (ts.length:Int) - 1:=by simpa [aO] using h
      have hl:i.toNat < ts.length:=by omega
      have e:((i.toNat:Nat):Int)=i:=by omega
      refine ⟨[i],mw.mpr (.inr ⟨(ts[i.toNat],i.toNat),pG.mpr (List.getElem?_eq_getElem hl),.inl (by simp only [e])⟩),rfl⟩
     | _=>cases h
   . rename_i i b
     rw [Bool.and_eq_true] at h
     obtain ⟨h1,h2⟩:=h
     have hi:0 <= i /\ i <= (ts.length:Int) - 1:=by simpa [aO] using h1
     have hl:i.toNat < ts.length:=by omega
     have e:((i.toNat:Nat):Int)=i:=by omega
     cases b with
     | int t =>
      have ht:0 <= t /\ t <= ts.getD i.toNat 0 - 1:=by simpa [aO] using h2
      have eg:ts.getD i.toNat 0=ts[i.toNat]:=by rw [List.getD_eq_getElem?_getD,List.getElem?_eq_getElem hl];rfl
      rw [eg] at ht
      refine ⟨[i,t],mw.mpr (.inr ⟨(ts[i.toNat],i.toNat),pG.mpr (List.getElem?_eq_getElem hl),.inr ⟨t.toNat,by show t.toNat < ts[i.toNat].toNat;omega,?_⟩⟩),rfl⟩
      have e2:((t.toNat:Nat):Int)=t:=by omega
      simp only [e,e2]
     | _=>cases h2
   . cases h
 . rintro ⟨s,hs,rfl⟩
   rcases mw.mp hs with rfl | ⟨⟨m,e⟩,hp,rfl | ⟨t,ht,rfl⟩⟩
   . rfl
   . have h1:=pG.mp hp
     have h2:e < ts.length:=(List.getElem?_eq_some_iff.mp h1).1
     show aO (.int (e:Int)) 0 ((ts.length:Int) - 1)=true
     simp [aO];omega
   . have h1:=pG.mp hp
     have h2:e < ts.length:=(List.getElem?_eq_some_iff.mp h1).1
     have hm':0 <= m:=hm m (List.mem_of_getElem? h1)
     show (aO (.int (e:Int)) 0 ((ts.length:Int) - 1) && aO (.int (t:Int)) 0 (ts.getD ((e:Nat):Int).toNat 0 - 1))=true
     have eg:ts.getD ((e:Nat):Int).toNat 0=m:=by rw [List.getD_eq_getElem?_getD,Int.toNat_natCast,h1];rfl
     rw [eg]
     have ht':t < m.toNat:=ht
     simp [aO]
     omega
end
section
theorem sf{xs:List D}{Q:W->Prop}:oS (pK [.list xs]) Q ↔ Q (.d (.tuple xs)):=au
theorem Rp{n:Int}{Q:W->Prop}:oS (pL [.int n]) Q ↔ (n <= 16777216 /\ -16777216 <= n) /\ Q (.fr ((List.range n.toNat).map fun k=>.int ((k:Nat):Int))):=by
 show oS (if _ then _ else none) Q ↔ _
 rw [aE,au]
theorem OV{i j:Int}{Q:W->Prop}:oS (O0 [.int i,.int j]) Q ↔ Q (.d (.int (if j < i then j else i))):=au
theorem Ru{i j:Int}{Q:W->Prop}:oS (Rv [.int i,.int j]) Q ↔ Q (.d (.int (if j > i then j else i))):=au
theorem gx{lo:Int}{n:Nat}:(jA lo n).length=n:=by simp [jA]
end
section
theorem uB:∀ (ss:List Str),strsOf (ss.map .str)=some ss
 | []=>rfl
 | s :: ss=>by
  show (strsOf (ss.map .str)).bind _=_
  rw [uB ss];rfl
theorem Rw{z:Str}{i:Int}{Q:W->Prop}:oS (gIx [.str z,.int i]) Q ↔ z.length <= 16777216 /\ oS (atI z.cps.toList i) fun c=>Q (.d (.str ⟨#[c]⟩)):=by
 show oS (if _ then _ else none) Q ↔ _
 rw [aE,aC];simp only [au]
theorem Pt{cs:List Str}{Q:D->Prop}(hc:∀ c ∈ cs,c.length=1)(hl:cs.length <= 8) (h:Q (.str (Txt.join "" cs))):oS (Ij (.str "") [.list (cs.map .str)]) Q:=by
 show oS ((strsOf (cs.map .str)).bind _) Q
 rw [uB,Option.bind_some,aE,au]
 refine ⟨?_,h⟩
 have e:(cs.map (·.length)).sum=cs.length:=by
  clear h hl
  induction cs with
  | nil=>rfl
  | cons c cs ih =>
   have:=ih fun c hc'=>hc c (List.mem_cons_of_mem _ hc')
   have:=hc c List.mem_cons_self
   simp only [List.map_cons,List.sum_cons,List.length_cons]
   omega
 have e0:(("" : Str)).length=0:=rfl
 rw [e,e0];omega
theorem Pu{ss:List Str}{Q:W->Prop}(hl:ss.length < 60)(h:Q (.fr ((zT ss).map .str))):oS (vg [.list (ss.map .str)]) Q:=by
 show oS ((strsOf (ss.map .str)).bind _) Q
 rw [uB,Option.bind_some,aE,au]
 exact ⟨hl,h⟩
theorem vc{xs:List D}{y:D}{Q:D × List D->Prop}:oS (hAppend xs [y]) Q ↔ xs.length < 16777216 /\ Q (.none,xs ++ [y]):=by
 show oS (if _ then _ else none) Q ↔ _
 rw [aE,au]
theorem M8:(("abcdefghijklmnopqrstuvwxyz" : Str)).cps.toList.length=26:=by decide +kernel
theorem Pw:(("abcdefghijklmnopqrstuvwxyz" : Str)).length <= 16777216:=by decide +kernel
theorem KS{p:List D}(hp:cW p){Q:W × List W->Prop}(h:∀ (us:List Str) p',cW p'->Q (.d (.tuple (us.map .str)),[.fr p'])):oS (jf [.fr p]) Q:=by
 refine dI rfl rfl ?_
 show oS (pM [some (.fr p),none,none,none,none,none]) _
 unfold pM
 try walk_at "mir2"
 refine zR ?_
 try walk_at "mir2"
 refine bp hp (by decide) (by decide) fun r p1 hp1 r0 r1=>?_
 try walk_at "mir2"
 refine ⟨⟨by omega,by omega⟩,fun items ρ=>∃ p ss o2 o3 o4,cW p /\ ρ = [some (.fr p),some (.fr ((ss:List Str).map .str)),o2,o3,o4,none] /\ ss.length + items.length <= 4,⟨p1,[],none,none,none,hp1,rfl,by rw [gx];simp;omega⟩,?_,?_⟩
 . rintro ρ ⟨p2,ss,o2,o3,o4,hp2,rfl,hl⟩
   try walk_at "mir2"
   refine Pu (by simp at hl;omega) ?_
   try walk_at "mir2"
   simp only [sf]
   try walk_at "mir2"
   exact h _ p2 hp2
 . rintro x xs ρ ⟨p2,ss,o2,o3,o4,hp2,rfl,hl⟩
   simp only [List.length_cons] at hl
   try walk_at "mir2"
   refine bp hp2 (by decide) (by decide) fun r2 p3 hp3 s0 s1=>?_
   try walk_at "mir2"
   refine iT s0 (by simp;omega) fun y hy _=>?_
   obtain ⟨l,rfl,l1,l8⟩:∃ l:Int,y = .int l /\ 1 <= l /\ l <= 8:=by
    simp only [List.mem_cons,List.not_mem_nil,or_false] at hy
    rcases hy with rfl | rfl | rfl | rfl
    . exact ⟨1,rfl,by decide,by decide⟩
    . exact ⟨1,rfl,by decide,by decide⟩
    . exact ⟨2,rfl,by decide,by decide⟩
    . exact ⟨8,rfl,by decide,by decide⟩
   try walk_at "mir2"
   have hb:0 <= (if pGt l 1=true then (1:Int) else 0) /\ (if pGt l 1=true then (1:Int) else 0) < 2:=by split <;> decide
   refine iT hb.1 (by simpa using hb.2) fun y hy _=>?_
   obtain ⟨m,rfl,m1,m8⟩:∃ m:Int,y = .int m /\ 1 <= m /\ m <= 26:=by
    simp only [List.mem_cons,List.not_mem_nil,or_false] at hy
    rcases hy with rfl | rfl
    . exact ⟨4,rfl,by decide,by decide⟩
    . exact ⟨26,rfl,by decide,by decide⟩
   try walk_at "mir2"
   refine pF ?_
   try walk_at "mir2"
   refine ⟨⟨by omega,by omega⟩,fun items acc ρ=>∃ p cs o5,cW p /\ ρ = [some (.fr p),some (.fr (ss.map .str)),some (.d x),some (.d (.int l)),some (.d (.int m)),o5] /\ acc=(cs:List Str).map .str /\ (∀ c ∈ cs,c.length=1) /\ cs.length + items.length <= 8,
    ⟨p3,[],none,hp3,rfl,rfl,fun c hc=>absurd hc (by simp),by rw [gx];simp;omega⟩,?_,?_⟩
   . rintro acc ρ ⟨p4,cs,o5,hp4,rfl,rfl,hc,hl8⟩
     try walk_at "mir2"
     refine Pt hc (by simpa using hl8) ?_
     try walk_at "mir2"
     simp only [vc]
     try walk_at "mir2"
     refine ⟨by simp;omega,p4,ss ++ [Txt.join "" cs],some (.d x),some (.d (.int l)),some (.d (.int m)),hp4,?_,by simp;omega⟩
     simp
   . rintro z zs acc ρ ⟨p4,cs,o5,hp4,rfl,rfl,hc,hl8⟩
     simp only [List.length_cons] at hl8
     try walk_at "mir2"
     refine bp hp4 (by omega) (by omega) fun r3 p5 hp5 t0 t1=>?_
     try walk_at "mir2"
     simp only [Rw]
     refine ⟨Pw,iT t0 (by rw [M8];omega) fun c hcc _=>?_⟩
     try walk_at "mir2"
     refine ⟨by simp;omega,p5,cs ++ [⟨#[c]⟩],_,hp5,rfl,by simp,fun d hd=>?_,by simp;omega⟩
     rcases List.mem_append.mp hd with hd | hd
     . exact hc d hd
     . rw [List.mem_singleton.mp hd];rfl
end
section
theorem vh:∀ (s:List Int),PyData.canLayAll0 (s.map .int)=true /\ PyData.depthAll (s.map .int)=0
 | []=>⟨rfl,rfl⟩
 | i :: s=>by
  obtain ⟨h1,h2⟩:=vh s
  constructor
  . show (PyData.canLay0 (.int i) && PyData.canLayAll0 (s.map .int))=true
    rw [h1];rfl
  . show max (PyData.depth (.int i)) (PyData.depthAll (s.map .int))=0
    rw [h2];rfl
theorem FA(a:Int)(s:List Int):PyData.canLay0 (.tuple [.int a,aJ s])=true /\ PyData.depth (.tuple [.int a,aJ s]) <= 64:=by
 obtain ⟨h1,h2⟩:=vh s
 constructor
 . show (PyData.canLay0 (.int a) && (PyData.canLayAll0 (s.map .int) && true))=true
   rw [h1];rfl
 . show max (PyData.depth (.int a)) (max (PyData.depthAll (s.map .int) + 1) 0) + 1 <= 64
   have e:PyData.depth (.int a)=0:=rfl
   rw [h2,e];decide
theorem Rr(x y:D)(r:List D):gSl (.tuple (x :: y :: r)) none (some 2)=some (.d (.tuple [x,y])):=by
 show some (W.d (.tuple (cutD (x :: y :: r) none (some 2))))=_
 have e1:HT.sIx (x :: y :: r).length 0 none=0:=rfl
 have e2:HT.sIx (x :: y :: r).length (x :: y :: r).length (some 2)=2:=by
  show (if (2:Int) < 0 then ((2:Int) + ((x :: y :: r).length:Int)).toNat else min (2:Int).toNat (x :: y :: r).length)=2
  rw [if_neg (by decide)]
  simp only [List.length_cons]
  show min 2 (r.length + 1 + 1)=2
  omega
 unfold cutD
 rw [e1,e2]
 rfl
def xp(x:D):Prop:=∃ a s,x = .tuple [.int a,aJ s]
theorem Fy:∀ (ys:List D),(∀ y ∈ ys,xp y)->PyData.canLayAll0 ys=true
 | [],_=>rfl
 | y :: ys,h=>by
  obtain ⟨a,s,rfl⟩:=h y List.mem_cons_self
  show (PyData.canLay0 _ && PyData.canLayAll0 ys)=true
  rw [(FA a s).1,Fy ys fun z hz=>h z (List.mem_cons_of_mem _ hz)];rfl
theorem Ci{ts:List Int}{y:D}(h:y ∈ kD ts):∃ s,y=aJ s /\ s ∈ spS ts.zipIdx:=by
 obtain ⟨s,hs,rfl⟩:=List.mem_map.mp h
 exact ⟨s,rfl,hs⟩
theorem Cf(ts:List Int):0 < (kD ts).length:=by simp [kD,spS]
theorem Cg{ts:List Int}(hl:ts.length <= 3)(hm:∀ m ∈ ts,0 <= m /\ m <= 3):(kD ts).length <= 13:=by
 have:=Ii ts.zipIdx fun p hp=>(hm p.1 (List.fst_mem_of_mem_zipIdx hp)).2
 simp at this
 simp [kD]
 omega
def xo(ts:List Int):Prop:=1 <= ts.length /\ ts.length <= 3 /\ ∀ m ∈ ts,1 <= m /\ m <= 3
theorem DV{ts:List Int}(h:xo ts):∀ m ∈ ts,0 <= m /\ m <= 3:=fun m hm=>⟨by have:=h.2.2 m hm;omega,(h.2.2 m hm).2⟩
end
section
theorem Cd{α:Type}:∀ (l:List α) (i:Nat) (h:i < l.length),l.Perm (l[i] :: l.eraseIdx i)
 | x :: xs,0,_=>.refl _
 | x :: xs,i + 1,h=>by
  have ih:=Cd xs i (by simpa using h)
  show (x :: xs).Perm (xs[i]'(by simpa using h) :: x :: xs.eraseIdx i)
  exact (ih.cons x).trans (.swap _ _ _)
theorem tJ{α β:Type}(f:α->β):∀ (l:List α) (i:Nat),(l.map f).eraseIdx i=(l.eraseIdx i).map f
 | [],_=>rfl
 | _ :: _,0=>rfl
 | x :: xs,i + 1=>by
  show f x :: (xs.map f).eraseIdx i=f x :: (xs.eraseIdx i).map f
  rw [tJ f xs i]
theorem Po{l:List Int}{i:Int}{Q:D × List D->Prop}(h0:0 <= i)(h1:i < l.length)(h2:l.length <= 16777216)(h:∀ (x:Int) (r:List Int),l.Perm (x :: r)->Q (.int x,r.map .int)):oS (DR (l.map .int) [.int i]) Q:=by
 show oS (if _ then _ else none) Q
 have hl:i.toNat < l.length:=by omega
 rw [aE]
 refine ⟨⟨h0,by simpa using h1,by first | omega | (simp;omega)⟩,?_⟩
 rw [List.getElem?_map,List.getElem?_eq_getElem hl,Option.map_some,Option.bind_some,au]
 have:=h _ _ (Cd l i.toNat hl)
 rw [<- tJ] at this
 exact this
structure lg (many:Int) (ns:List Int):Prop where
 nd:ns.Nodup
 len:ns.length <= 3
 rng:∀ n ∈ ns,0 <= n /\ n < many
theorem lg.mono{a b:Int}{ns:List Int}(h:lg a ns)(l:a <= b):lg b ns:=⟨h.nd,h.len,fun n hn=>by have:=h.rng n hn;omega⟩
theorem Ce{p:List D}{names:Int}(hp:cW p)(hn:0 < names)(hn8:names <= 8){Q:W × List W->Prop}(h:∀ ns p',cW p'->lg names ns->Q (.d (aJ ns),[.fr p',.d (.int names)])):oS (gC [.fr p,.d (.int names)]) Q:=by
 refine dI rfl rfl ?_
 show oS (pE [some (.fr p),some (.d (.int names)),none,none]) _
 unfold pE
 walk_at "mir2"
 simp only [Rp]
 walk_at "mir2"
 refine ⟨⟨by omega,by omega⟩,?_⟩
 refine pF ?_
 walk_at "mir2"
 refine bp hp (by decide) (by decide) fun r p1 hp1 r0 r1=>?_
 walk_at "mir2"
 simp only [OV]
 walk_at "mir2"
 refine ⟨⟨by split <;> omega,by split <;> omega⟩,?_⟩
 refine ⟨fun items acc ρ=>∃ p ls as o3,cW p /\ ρ = [some (.fr p),some (.d (.int names)),some (.fr ((ls:List Int).map .int)),o3] /\ acc=(as:List Int).map .int /\ items.length <= ls.length /\ (as ++ ls).Nodup /\ (∀ n ∈ as ++ ls,0 <= n /\ n < names) /\ as.length + items.length <= 3 /\ ls.length <= 8,
  ⟨p1,(List.range names.toNat).map fun k=>((k:Nat):Int),[],none,hp1,by rw [List.map_map];rfl,rfl,?_,?_,?_,?_,?_⟩,?_,?_⟩
 . rw [gx];simp;split <;> omega
 . rw [List.nil_append]
   exact List.pairwise_map.mpr (List.nodup_range.imp fun h e=>h (Int.ofNat.inj e))
 . intro n hn'
   rw [List.nil_append] at hn'
   obtain ⟨k,hk,rfl⟩:=List.mem_map.mp hn'
   have:=List.mem_range.mp hk
   omega
 . rw [gx];simp;split <;> omega
 . simp;omega
 . rintro acc ρ ⟨p2,ls,as,o3,hp2,rfl,rfl,_,hnd,hr,hl,_⟩
   walk_at "mir2"
   simp only [sf]
   walk_at "mir2"
   exact h as p2 hp2 ⟨(List.nodup_append.mp hnd).1,by simpa using hl,fun n hn'=>hr n (List.mem_append_left _ hn')⟩
 . rintro x xs acc ρ ⟨p2,ls,as,o3,hp2,rfl,rfl,hle,hnd,hr,hl,hl8⟩
   simp only [List.length_cons] at hle hl
   walk_at "mir2"
   simp only [List.length_map]
   refine bp hp2 (by omega) (by omega) fun r p3 hp3 r0 r1=>?_
   walk_at "mir2"
   refine Po r0 r1 (by omega) fun y rest hpm=>?_
   have hlen:=hpm.length_eq
   simp only [List.length_cons] at hlen
   have hpp:(as ++ ls).Perm ((as ++ [y]) ++ rest):=by
    rw [List.append_assoc]
    exact hpm.append_left as
   walk_at "mir2"
   refine ⟨by first | omega | (simp;omega),p3,rest,as ++ [y],_,hp3,rfl,by simp,by omega,hpp.nodup hnd,fun n hn'=>hr n (hpp.mem_iff.mpr hn'),by simp;omega,by omega⟩
structure Rcp where
 name:Int
 nt:List Int
 keep:Int
 sorts:Int
 gy:List Int
structure Tst where
 ev:Int
 tb:Int
 gy:List Int
 words:List Str
def Rcp.D(r:Rcp):Q3.D:=.tuple [.int r.name,aJ r.nt,.int r.keep,.int r.sorts,aJ r.gy]
def Tst.D(t:Tst):Q3.D:=.tuple [aJ [t.ev,t.tb],aJ t.gy,.tuple (t.words.map .str)]
structure OW (ts:List Int) (r:Rcp):Prop where
 name:0 <= r.name /\ r.name < 8
 nt:r.nt ∈ spS ts.zipIdx
 keep:0 <= r.keep /\ r.keep <= 3
 sorts:1 <= r.sorts /\ r.sorts <= 3
 gy:lg 8 r.gy
structure OY (ts:List Int) (t:Tst):Prop where
 nt:[t.ev,t.tb] ∈ spS ts.zipIdx
 gy:lg 8 t.gy
structure fW where
 ts:List Int
 rs:List Rcp
 tt:List Tst
def fW.D(h:fW):Q3.D:=.tuple [aJ h.ts,.tuple (h.rs.map Rcp.D),.tuple (h.tt.map Tst.D)]
structure dg (h:fW):Prop where
 tab:xo h.ts
 DU:h.rs.length <= 8
 rok:∀ r ∈ h.rs,OW h.ts r
 nd:(h.rs.map fun r=>(r.name,r.nt)).Nodup
 Jw:h.tt.length <= 6
 tok:∀ t ∈ h.tt,OY h.ts t
theorem zP(s t:List Int):PyData.eqvAll (s.map .int) (t.map .int)=decide (s=t):=by
 induction s generalizing t with
 | nil=>cases t <;> simp [PyData.eqvAll]
 | cons a s ih =>
  cases t with
  | nil=>simp [PyData.eqvAll]
  | cons b t=>simp [PyData.eqvAll,PyData.eqv,ih,Bool.beq_eq_decide_eq]
def BY(k:Int × List Int):D:=.tuple [.int k.1,aJ k.2]
theorem M5(k l:Int × List Int):PyData.eqv (BY k) (BY l)=decide (k=l):=by
 obtain ⟨a,s⟩:=k
 obtain ⟨b,t⟩:=l
 show PyData.eqvAll [.int a,aJ s] [.int b,aJ t] = _
 have e:PyData.eqv (aJ s) (aJ t)=decide (s=t):=zP s t
 simp [PyData.eqvAll,PyData.eqv,e,Bool.beq_eq_decide_eq]
theorem Jx(ks:List (Int × List Int)):PyData.canLayAll0 (ks.map BY)=true:=Fy _ fun y hy=>by
 obtain ⟨k,_,rfl⟩:=List.mem_map.mp hy
 exact ⟨k.1,k.2,rfl⟩
theorem Rq{n:Bool}{k:Int × List Int}{ks:List (Int × List Int)}{Q:W->Prop}:oS (gIn n [BY k,.list (ks.map BY)]) Q ↔ Q (.d (.bool (decide (k ∈ ks) != n))):=by
 show oS (if _ then _ else none) Q ↔ _
 rw [aE,au]
 have e:((ks.map BY).any fun z=>PyData.eqv z (BY k))=decide (k ∈ ks):=by
  rw [List.any_map]
  simp only [Function.comp_def,M5]
  rw [Bool.eq_iff_iff,List.any_eq_true,decide_eq_true_iff]
  constructor
  . rintro ⟨x,hx,hxe⟩
    rw [<- of_decide_eq_true hxe];exact hx
  . intro hk
    exact ⟨k,hk,by simp⟩
 rw [e]
 refine ⟨fun z=>z.2,fun z=>⟨⟨?_,Jx ks⟩,z⟩⟩
 have:=FA k.1 k.2
 unfold SeqAt.shaped BY
 simp [this.1,this.2]
def Rcp.key(r:Rcp):Int × List Int:=(r.name,r.nt)
theorem M6{p:List D}(hp:cW p){Q:W × List W->Prop}(h:∀ hh p',dg hh->cW p'->Q (.d hh.D,[.fr p'])):oS (jz [.fr p]) Q:=by
 refine dI rfl rfl ?_
 show oS (uy [some (.fr p),none,none,none,none,none,none,none,none,none]) _
 unfold uy
 try walk_at "mir2"
 refine pF ?_
 try walk_at "mir2"
 refine bp hp (by decide) (by decide) fun r p1 hp1 r0 r1=>?_
 try walk_at "mir2"
 refine ⟨⟨by omega,by omega⟩,fun items acc ρ=>∃ p ts o5,cW p /\ ρ = [some (.fr p),none,none,none,none,o5,none,none,none,none] /\ acc=(ts:List Int).map .int /\ (∀ m ∈ ts,1 <= m /\ m <= 3) /\ ts.length + items.length=(1 + r).toNat,
  ⟨p1,[],none,hp1,rfl,rfl,fun c hc=>absurd hc (by simp),by rw [gx];simp⟩,?_,?_⟩
 case refine_2 =>
  rintro x xs acc ρ ⟨p2,ts,o5,hp2,rfl,rfl,hm,hl⟩
  simp only [List.length_cons] at hl
  try walk_at "mir2"
  refine bp hp2 (by decide) (by decide) fun r2 p3 hp3 s0 s1=>?_
  try walk_at "mir2"
  refine ⟨by simp;omega,p3,ts ++ [1 + r2],_,hp3,rfl,by simp,fun d hd=>?_,by simp;omega⟩
  rcases List.mem_append.mp hd with hd | hd
  . exact hm d hd
  . rw [List.mem_singleton.mp hd];omega
 rintro acc ρ ⟨p2,ts,o5,hp2,rfl,rfl,hm,hl⟩
 have hT:xo ts:=⟨by simp at hl;omega,by simp at hl;omega,hm⟩
 try walk_at "mir2"
 simp only [sf]
 try walk_at "mir2"
 refine zQ hT.2.1 (DV hT) ?_
 try walk_at "mir2"
 refine bp hp2 (by decide) (by decide) fun r2 p3 hp3 s0 s1=>?_
 try walk_at "mir2"
 refine iT s0 (by simp;omega) fun y hy _=>?_
 obtain ⟨nm,rfl,n1,n8⟩:∃ l:Int,y = .int l /\ 1 <= l /\ l <= 8:=by
  simp only [List.mem_cons,List.not_mem_nil,or_false] at hy
  rcases hy with rfl | rfl | rfl
  . exact ⟨2,rfl,by decide,by decide⟩
  . exact ⟨4,rfl,by decide,by decide⟩
  . exact ⟨8,rfl,by decide,by decide⟩
 try walk_at "mir2"
 refine zR ?_
 try walk_at "mir2"
 refine bp hp3 (by decide) (by decide) fun r3 p4 hp4 t0 t1=>?_
 try walk_at "mir2"
 refine ⟨⟨by omega,by omega⟩,fun items ρ=>∃ p rs o5 o7,cW p /\ ρ = [some (.fr p),some (.d (.tuple (ts.map .int))),some (.fr (kD ts)),some (.d (.int nm)),some (.fr ((rs:List Rcp).map Rcp.D)),o5,none,o7,none,none] /\ (∀ y ∈ rs,OW ts y) /\ (rs.map Rcp.key).Nodup /\ rs.length + items.length <= 8,
  ⟨p4,[],none,none,hp4,rfl,fun c hc=>absurd hc (by simp),by simp,by rw [gx];simp;omega⟩,?_,?_⟩
 . rintro ρ ⟨p5,rs,o5,o7,hp5,rfl,hrs,hnd,hl5⟩
   try walk_at "mir2"
   refine zR ?_
   try walk_at "mir2"
   refine bp hp5 (by decide) (by decide) fun r5 p6 hp6 u0 u1=>?_
   try walk_at "mir2"
   refine ⟨⟨by omega,by omega⟩,fun items ρ=>∃ p ws o5 o8,cW p /\ ρ = [some (.fr p),some (.d (.tuple (ts.map .int))),some (.fr (kD ts)),some (.d (.int nm)),some (.fr (rs.map Rcp.D)),o5,some (.fr ((ws:List Tst).map Tst.D)),o7,o8,none] /\ (∀ t ∈ ws,OY ts t) /\ ws.length + items.length <= 6,
    ⟨p6,[],o5,none,hp6,rfl,fun c hc=>absurd hc (by simp),by rw [gx];simp;omega⟩,?_,?_⟩
   . rintro ρ ⟨p7,ws,o5,o8,hp7,rfl,hws,hl6⟩
     try walk_at "mir2"
     simp only [sf]
     try walk_at "mir2"
     exact h ⟨ts,rs,ws⟩ p7 ⟨hT,by simpa using hl5,hrs,hnd,by simpa using hl6,hws⟩ hp7
   . rintro x xs ρ ⟨p7,ws,o5',o8,hp7,rfl,hws,hl7⟩
     simp only [List.length_cons] at hl7
     try walk_at "mir2"
     simp only [List.length_map]
     refine bp hp7 (by have:=hT.1;omega) (by have:=hT.2.1;omega) fun r6 p8 hp8 v0 v1=>?_
     try walk_at "mir2"
     refine iT v0 (by simpa using v1) fun y hy hy'=>?_
     obtain ⟨m,hm',rfl⟩:=List.mem_map.mp hy
     have hmm:=hT.2.2 m hm'
     have hz:ts[r6.toNat]? = some m:=by
      rw [List.getElem?_map] at hy'
      cases hq:ts[r6.toNat]? with
      | none=>rw [hq] at hy';cases hy'
      | some m'=>rw [hq] at hy';cases hy';rfl
     try walk_at "mir2"
     refine bp hp8 (by omega) (by omega) fun r7 p9 hp9 w0 w1=>?_
     try walk_at "mir2"
     refine Ce hp9 (by omega) (by omega) fun nd p10 hp10 hnd'=>?_
     try walk_at "mir2"
     refine KS hp10 fun us p11 hp11=>?_
     try walk_at "mir2"
     simp only [vc]
     try walk_at "mir2"
     refine ⟨by first | omega | (simp;omega),p11,ws ++ [⟨r6,r7,nd,us⟩],some (.d x),some (.d (.int r6)),hp11,by simp [Tst.D,aJ],fun t ht=>?_,by simp;omega⟩
     rcases List.mem_append.mp ht with ht | ht
     . exact hws t ht
     . rw [List.mem_singleton.mp ht]
       refine ⟨mw.mpr (.inr ⟨(m,r6.toNat),pG.mpr hz,.inr ⟨r7.toNat,by show r7.toNat < m.toNat;omega,?_⟩⟩),hnd'.mono n8⟩
       show [r6,r7] = [((r6.toNat:Nat):Int),((r7.toNat:Nat):Int)]
       rw [Int.toNat_of_nonneg v0,Int.toNat_of_nonneg w0]
 . rintro x xs ρ ⟨p5,rs,o5,o7,hp5,rfl,hrs,hnd,hl5⟩
   simp only [List.length_cons] at hl5
   have hsp:=Cf ts
   have hsl:=Cg hT.2.1 (DV hT)
   try walk_at "mir2"
   refine bp hp5 (by omega) (by omega) fun r6 p6 hp6 u0 u1=>?_
   try walk_at "mir2"
   refine bp hp6 (by omega) (by omega) fun r7 p7 hp7 v0 v1=>?_
   try walk_at "mir2"
   refine iT v0 v1 fun y hy _=>?_
   obtain ⟨sp,rfl,hsp'⟩:=Ci hy
   try walk_at "mir2"
   refine bp hp7 (by decide) (by decide) fun r8 p8 hp8 w0 w1=>?_
   try walk_at "mir2"
   refine bp hp8 (by decide) (by decide) fun r9 p9 hp9 x0 x1=>?_
   try walk_at "mir2"
   refine Ce hp9 (by omega) (by omega) fun nd p10 hp10 hnd'=>?_
   try walk_at "mir2"
   simp only [List.cons_append,List.nil_append,Rr]
   try walk_at "mir2"
   refine KU rfl (by simp) rfl (fun items acc ρ=>∃ o9 done rest,ρ = [some (.fr p10),some (.d (.tuple (ts.map .int))),some (.fr (kD ts)),some (.d (.int nm)),some (.fr (rs.map Rcp.D)),some (.d x),none,some (.d (.tuple [.int r6,aJ sp,.int r8,.int (1 + r9),aJ nd])),none,o9] /\ rs=done ++ rest /\ items=rest.map Rcp.D /\ acc=(done.map Rcp.key).map BY)
    ⟨none,[],rs,rfl,rfl,rfl,rfl⟩ ?_ ?_ ?_
   . rintro acc ρ ⟨o9,done,rest,rfl,e1,e2,rfl⟩
     have e3:rest = []:=by simpa using e2.symm
     subst e3
     have e4:done=rs:=by simpa using e1.symm
     subst e4
     try walk_at "mir2"
     refine (Rq (n:=true) (k:=(r6,sp)) (ks:=done.map Rcp.key)).mpr ?_
     by_cases hk:(r6,sp) ∈ done.map Rcp.key
     . simp only [hk,decide_true,bne_self_eq_false]
       try walk_at "mir2"
       exact ⟨p10,done,_,_,hp10,rfl,hrs,hnd,by omega⟩
     . simp only [hk,decide_false,Bool.false_bne]
       try walk_at "mir2"
       simp only [vc]
       try walk_at "mir2"
       refine ⟨by first | omega | (simp;omega),p10,done ++ [⟨r6,sp,r8,1 + r9,nd⟩],some (.d x),some (.d (.tuple [.int r6,aJ sp,.int r8,.int (1 + r9),aJ nd])),hp10,by simp [Rcp.D],fun z hz=>?_,?_,by simp;omega⟩
       . rcases List.mem_append.mp hz with hz | hz
         . exact hrs z hz
         . rw [List.mem_singleton.mp hz]
           exact ⟨⟨u0,by show r6 < 8;omega⟩,hsp',⟨w0,by show r8 <= 3;omega⟩,⟨by show 1 <= 1 + r9;omega,by show 1 + r9 <= 3;omega⟩,hnd'.mono n8⟩
       . rw [List.map_append,List.nodup_append]
         refine ⟨hnd,by simp,fun a ha b hb=>?_⟩
         have hb':b=(r6,sp):=by simpa [Rcp.key] using hb
         subst hb'
         exact fun e=>hk (e ▸ ha)
   . rintro ys acc ρ ⟨o9,done,rest,rfl,_⟩
     rfl
   . rintro y ys acc ρ ⟨o9,done,rest,rfl,e1,e2,rfl⟩
     cases rest with
     | nil=>cases e2
     | cons s rest =>
      rw [List.map_cons] at e2
      cases e2
      have hlen:done.length <= 8:=by
       have:rs.length=done.length + (rest.length + 1):=by rw [e1];simp
       omega
      try walk_at "mir2"
      simp only [Rcp.D,Rr]
      try walk_at "mir2"
      refine ⟨by simp;omega,_,done ++ [s],rest,rfl,by rw [e1];simp,rfl,by simp [Rcp.key,BY]⟩
end
end L2.Q3.Tx
end
section
namespace L2.Q3.Tx
open PySem PySem.Spec PyProof.Rows L2
local macro_rules | `(tactic| walk_at "mir3") => `(tactic| simp (config := { decide := true, maxSteps := 2000000 }) only [zS, uL, ar, b8, me, rJ, Eu, Jd, HY, ↓Kv, Kv, ↓nJ, ↓yi, ↓yj, ↓qc, ↓qd, ↓kG, ↓il, ↓o_C, ↓qf, ↓kH, ↓jU, ↓dJ, ↓yk, ↓ym, ↓kI, ↓kJ, ↓qg, ↓yn, ↓qh, ↓yo, ↓qi, ↓qj, ↓iq, ↓qk, ↓ql, ↓gW, ↓qm, ↓qo, ↓qp, ↓yp, ↓kK, ↓yq, ↓ir, ↓qr, ↓kL, ↓yr, ↓kM, ↓qt,
 nJ,yi,yj,qc,qd,kG,il,o_C,qf,kH,jU,dJ,yk,ym,kI,kJ,qg,yn,qh,yo,qi,qj,iq,qk,ql,gW,qm,qo,qp,yp,kK,yq,ir,qr,kL,yr,kM,qt,
 ↓aC,↓au,↓fX,↓aE,↓iu,aC,au,fX,aE,iu,Cj,Ck,Cm,Cn,Co,wB,wC,wD,Cp,Cq,Cr,Cs,Ct,Cu,nK,nL,nM,nN,
 gN,gT,nO,cE,cu,rdW,rE,bw,f7,gz,vd,slots,mq,putBack,BZ,B0,jV,kF,sT,tru,itemsOf,f9,ve,pH,
 List.getElem?_cons_zero,List.getElem?_cons_succ,List.set_cons_zero,List.set_cons_succ,List.length_cons,List.length_nil,List.take_succ_cons,List.take_zero,List.map_cons,List.map_nil,Option.getD_some,Option.getD_none,Option.isSome_some,Option.isNone_none,Option.isNone_some,Option.bind_some,Option.bind_none,Bool.true_and,Bool.and_true,Bool.not_true,Bool.not_false,if_true,if_false,ite_true,ite_false,reduceCtorEq,true_and,and_true,List.nodup_cons,List.not_mem_nil,not_false_eq_true,List.nodup_nil,List.mem_singleton,List.mem_cons,Nat.reduceAdd,Nat.zero_add,Nat.reduceLeDiff,Nat.reduceEqDiff,Nat.reduceLT,Int.reduceNeg,Bool.false_eq_true,List.all_cons,List.all_nil,List.append_nil])
section
def around(s:List Int):List (List Int):=(List.range (s.length + 1)).map fun k=>s.take (s.length - k)
theorem OQ{xs:List D}{k:Nat}(h:k <= xs.length):gSl (.tuple xs) none (some (k:Int))=some (.d (.tuple (xs.take k))):=by
 show some (W.d (.tuple (cutD xs none (some (k:Int)))))=_
 have e1:HT.sIx xs.length 0 none=0:=rfl
 have e2:HT.sIx xs.length xs.length (some (k:Int))=k:=by
  show (if (k:Int) < 0 then ((k:Int) + (xs.length:Int)).toNat else min (k:Int).toNat xs.length)=k
  rw [if_neg (by omega)]
  omega
 unfold cutD
 rw [e1,e2]
 simp
theorem Kx(s:List Int)(k:Nat):(s.map PyData.int).take k=(s.take k).map PyData.int:=by rw [List.map_take]
theorem Ky{s:List Int}(hs:s.length <= 100){Q:W × List W->Prop}(h:Q (.fr ((around s).map aJ),[.d (aJ s)])):oS (gq [.d (aJ s)]) Q:=by
 refine dI rfl rfl ?_
 show oS (mf [some (.d (.tuple (s.map .int))),none]) _
 unfold mf
 try walk_at "mir3"
 refine pF ?_
 try walk_at "mir3"
 simp only [List.length_map]
 refine ⟨by omega,fun items acc ρ=>∃ o1 done rest,ρ = [some (.d (.tuple (s.map .int))),o1] /\ List.range (s.length + 1)=done ++ rest /\ items=rest.map (fun k:Nat=>.int ((s.length:Int) - (k:Nat))) /\ acc=(done.map fun k=>s.take (s.length - k)).map aJ,⟨none,[],List.range (s.length + 1),rfl,rfl,?_,rfl⟩,?_,?_⟩
 . unfold CY
   have:((s.length:Int) - -1).toNat=s.length + 1:=by omega
   rw [this]
 . rintro acc ρ ⟨o1,done,rest,rfl,e1,e2,rfl⟩
   have e3:rest = []:=by simpa using e2.symm
   subst e3
   have e4:done=List.range (s.length + 1):=by simpa using e1.symm
   subst e4
   try walk_at "mir3"
   exact h
 . rintro x xs acc ρ ⟨o1,done,rest,rfl,e1,e2,rfl⟩
   cases rest with
   | nil=>cases e2
   | cons k rest =>
    rw [List.map_cons] at e2
    cases e2
    have hk:k < s.length + 1:=by
     have:k ∈ List.range (s.length + 1):=by rw [e1];simp
     simpa using this
    have hd:done.length <= s.length + 1:=by
     have:=congrArg List.length e1
     simp at this
     omega
    try walk_at "mir3"
    have ek:(s.length:Int) - (k:Nat)=((s.length - k:Nat):Int):=by omega
    rw [ek,OQ (by rw [List.length_map];omega),Kx]
    try walk_at "mir3"
    refine ⟨by simp;omega,_,done ++ [k],rest,rfl,by rw [e1];simp,rfl,by simp [aJ]⟩
end
section
def atS(rs:List Rcp)(name:Int)(s:List Int):List Int:=(rs.zipIdx.filter fun p=>decide (p.1.name=name) && decide (p.1.nt=s)).map fun p=>((p.2:Nat):Int)
def yt(rs:List Rcp)(s:List Int)(name:Int):List Int:=(around s).flatMap fun a=>atS rs name a
theorem SX{s t:List Int}{Q:W->Prop}:oS (lZ [aJ s,aJ t]) Q ↔ Q (.d (.bool (decide (s=t)))):=by
 show oS (gEq false [aJ s,aJ t]) Q ↔ _
 show oS (if SeqAt.shaped (aJ s)=true /\ SeqAt.shaped (aJ t)=true then some (W.d (PyData.bool (PyData.eqv (aJ s) (aJ t) != false))) else none) Q ↔ _
 have sh:∀ s:List Int,SeqAt.shaped (aJ s)=true:=fun s=>by
  obtain ⟨h1,h2⟩:=vh s
  unfold SeqAt.shaped aJ
  have e1:PyData.canLay0 (.tuple (s.map .int))=PyData.canLayAll0 (s.map .int):=rfl
  have e2:PyData.depth (.tuple (s.map .int))=PyData.depthAll (s.map .int) + 1:=rfl
  rw [e1,e2,h1,h2];decide
 rw [if_pos ⟨sh s,sh t⟩,au]
 have e:PyData.eqv (aJ s) (aJ t)=decide (s=t):=zP s t
 rw [e]
 simp
theorem OR(rs:List Rcp):rH (rs.map Rcp.D)=rs.zipIdx.map fun p=>.tuple [.int ((p.2:Nat):Int),p.1.D]:=by
 unfold rH
 rw [List.zipIdx_map,List.map_map]
 rfl
theorem Il(rs:List Rcp)(name:Int)(s:List Int):(atS rs name s).length <= rs.length:=by
 unfold atS
 rw [List.length_map]
 exact Nat.le_trans (List.length_filter_le _ _) (by simp)
theorem zV(s:List Int):(around s).length=s.length + 1:=by simp [around]
theorem uE{hh:fW}{s:List Int}{name:Int}(hr:hh.rs.length <= 100)(hs:s.length <= 2){Q:W × List W->Prop}(h:Q (.d (aJ (yt hh.rs s name)),[.d hh.D,.d (aJ s),.d (.int name)])):oS (bT [.d hh.D,.d (aJ s),.d (.int name)]) Q:=by
 refine dI rfl rfl ?_
 show oS (mh [some (.d (.tuple [aJ hh.ts,.tuple (hh.rs.map Rcp.D),.tuple (hh.tt.map Tst.D)])),some (.d (aJ s)),some (.d (.int name)),none,none,none]) _
 unfold mh
 try walk_at "mir3"
 refine SV ?_
 try walk_at "mir3"
 refine Ky (by omega) ?_
 try walk_at "mir3"
 refine ⟨fun items acc ρ=>∃ o3 o4 o5 done rest,ρ = [some (.d (.tuple [aJ hh.ts,.tuple (hh.rs.map Rcp.D),.tuple (hh.tt.map Tst.D)])),some (.d (aJ s)),some (.d (.int name)),o3,o4,o5] /\ around s=done ++ rest /\ items=rest.map aJ /\ acc=(done.flatMap fun a=>atS hh.rs name a).map .int,
  ⟨none,none,none,[],around s,rfl,rfl,rfl,rfl⟩,?_,?_⟩
 . rintro acc ρ ⟨o3,o4,o5,done,rest,rfl,e1,e2,rfl⟩
   have e3:rest = []:=by simpa using e2.symm
   subst e3
   have e4:done=around s:=by simpa using e1.symm
   subst e4
   try walk_at "mir3"
   exact h
 . rintro x xs acc ρ ⟨o3,o4,o5,done,rest,rfl,e1,e2,rfl⟩
   cases rest with
   | nil=>cases e2
   | cons a rest =>
    rw [List.map_cons] at e2
    cases e2
    have hd:done.length <= 3:=by
     have:=congrArg List.length e1
     rw [zV] at this
     simp at this
     omega
    have hdl:∀ l:List (List Int),(l.flatMap fun a=>atS hh.rs name a).length <= 100 * l.length:=by
     intro l
     induction l with
     | nil=>simp
     | cons b l ih =>
      have:=Il hh.rs name b
      simp only [List.flatMap_cons,List.length_append,List.length_cons]
      omega
    have hdone:=hdl done
    try walk_at "mir3"
    rw [OR]
    refine ⟨fun items acc ρ=>∃ o4 o5 done1 rest1,ρ = [some (.d (.tuple [aJ hh.ts,.tuple (hh.rs.map Rcp.D),.tuple (hh.tt.map Tst.D)])),some (.d (aJ s)),some (.d (.int name)),some (.d (aJ a)),o4,o5] /\ hh.rs.zipIdx=done1 ++ rest1 /\ items=rest1.map (fun p=>.tuple [.int ((p.2:Nat):Int),p.1.D]) /\
     acc=((done.flatMap fun a=>atS hh.rs name a) ++ (done1.filter fun p=>decide (p.1.name=name) && decide (p.1.nt=a)).map fun p=>((p.2:Nat):Int)).map .int,⟨_,_,[],hh.rs.zipIdx,rfl,rfl,rfl,by simp⟩,?_,?_⟩
    . rintro acc ρ ⟨o4,o5,done1,rest1,rfl,f1,f2,rfl⟩
      have f3:rest1 = []:=by simpa using f2.symm
      subst f3
      have f4:done1=hh.rs.zipIdx:=by simpa using f1.symm
      subst f4
      exact ⟨_,_,_,done ++ [a],rest,rfl,by rw [e1];simp,rfl,by simp [atS]⟩
    . rintro y ys acc ρ ⟨o4,o5,done1,rest1,rfl,f1,f2,rfl⟩
      cases rest1 with
      | nil=>cases f2
      | cons r rest1 =>
       obtain ⟨r,i⟩:=r
       rw [List.map_cons] at f2
       cases f2
       have hlen1:done1.length <= 100:=by
        have:=congrArg List.length f1
        simp at this
        omega
       have hfl:=List.length_filter_le (fun p:Rcp × Nat=>decide (p.1.name=name) && decide (p.1.nt=a)) done1
       try walk_at "mir3"
       simp only [Rcp.D]
       try walk_at "mir3"
       by_cases hn:r.name=name
       . have e5:(r.name == name)=true:=by simpa using hn
         simp only [e5]
         try walk_at "mir3"
         simp only [SX]
         try walk_at "mir3"
         by_cases hsp:r.nt=a
         . simp only [hsp,decide_true]
           try walk_at "mir3"
           refine ⟨by rw [List.length_map,List.length_append,List.length_map];subst hsp;omega,_,_,done1 ++ [(r,i)],rest1,rfl,by rw [f1];simp,rfl,?_⟩
           rw [List.filter_append]
           simp [hn,hsp]
         . simp only [hsp,decide_false]
           try walk_at "mir3"
           refine ⟨_,_,done1 ++ [(r,i)],rest1,rfl,by rw [f1];simp,rfl,?_⟩
           rw [List.filter_append]
           simp [hn,hsp]
       . have e5:(r.name == name)=false:=by simpa using hn
         simp only [e5]
         try walk_at "mir3"
         refine ⟨_,_,done1 ++ [(r,i)],rest1,rfl,by rw [f1];simp,rfl,?_⟩
         rw [List.filter_append]
         simp [hn]
theorem uF{l:List Int}{Q:W × List W->Prop}(h:Q (.d (match l with | []=>.none | x :: _=>.int x),[.d (aJ l)])):oS (bU [.d (aJ l)]) Q:=by
 refine dI rfl rfl ?_
 show oS (pW [some (.d (.tuple (l.map .int)))]) _
 unfold pW
 cases l with
 | nil =>
  try walk_at "mir3"
  exact h
 | cons x l =>
  try walk_at "mir3"
  exact h
theorem B6{x a b:Int}(h0:a <= x)(h1:x <= b){Q:W × List W->Prop}(h:Q (.d .none,[.d (.int x),.d (.int a),.d (.int b)])):oS (dF [.d (.int x),.d (.int a),.d (.int b)]) Q:=by
 refine dI rfl rfl ?_
 show oS (iY [some (.d (.int x)),some (.d (.int a)),some (.d (.int b))]) _
 unfold iY
 try walk_at "mir3"
 refine ic (x:=.int x) ⟨fun ys e=>(by cases e),fun ks ys e=>(by cases e)⟩ ?_
 have e:aO (.int x) a b=true:=by simp [aO,h0,h1]
 rw [e]
 try walk_at "mir3"
 exact h
theorem Kz(s:List Int):Good (aJ s):=⟨⟨fun ys e=>(by cases e),fun ks ys e=>(by cases e)⟩,fun xs e y hy=>by
 cases e
 obtain ⟨i,_,rfl⟩:=List.mem_map.mp hy
 exact ⟨fun ys e=>(nomatch e),fun ks ys e=>(nomatch e)⟩⟩
theorem jX{hh:fW}{s:List Int}(hT:xo hh.ts)(hs:s ∈ spS hh.ts.zipIdx){Q:W × List W->Prop}(h:Q (.d .none,[.d hh.D,.d (aJ s)])):oS (cf [.d hh.D,.d (aJ s)]) Q:=by
 refine dI rfl rfl ?_
 show oS (jI [some (.d hh.D),some (.d (aJ s))]) _
 unfold jI
 try walk_at "mir3"
 refine DY (ts:=hh.ts) (Kz s) ?_
 rw [(vf hh.ts (fun m hm=>(DV hT m hm).1) (aJ s)).mpr ⟨s,hs,rfl⟩]
 try walk_at "mir3"
 exact h
theorem FD{ts:List Int}{s:List Int}(hs:s ∈ spS ts.zipIdx):s.length <= 2:=by
 rcases mw.mp hs with rfl | ⟨p,_,rfl | ⟨t,_,rfl⟩⟩ <;> simp
theorem Cv{hh:fW}{s:List Int}{name:Int}(hT:xo hh.ts)(hr:hh.rs.length <= 100)(hs:s ∈ spS hh.ts.zipIdx)(h0:0 <= name)(h7:name <= 7){Q:W × List W->Prop}(h:Q (.d (aJ (yt hh.rs s name)),[.d hh.D,.d (aJ s),.d (.int name)])):oS (jR [.d hh.D,.d (aJ s),.d (.int name)]) Q:=by
 refine dI rfl rfl ?_
 show oS (Az [some (.d hh.D),some (.d (aJ s)),some (.d (.int name))]) _
 unfold Az
 try walk_at "mir3"
 refine jX hT hs ?_
 try walk_at "mir3"
 refine B6 h0 h7 ?_
 try walk_at "mir3"
 refine uE hr (FD hs) ?_
 try walk_at "mir3"
 exact h
def hdD(l:List Int):D:=match l with | []=>.none | x :: _=>.int x
theorem FH{hh:fW}{s:List Int}{name:Int}(hT:xo hh.ts)(hr:hh.rs.length <= 100)(hs:s ∈ spS hh.ts.zipIdx)(h0:0 <= name)(h7:name <= 7){Q:W × List W->Prop}(h:Q (.d (hdD (yt hh.rs s name)),[.d hh.D,.d (aJ s),.d (.int name)])):oS (jx [.d hh.D,.d (aJ s),.d (.int name)]) Q:=by
 refine dI rfl rfl ?_
 show oS (uM [some (.d hh.D),some (.d (aJ s)),some (.d (.int name))]) _
 unfold uM
 try walk_at "mir3"
 refine Cv hT hr hs h0 h7 ?_
 try walk_at "mir3"
 refine uF ?_
 try walk_at "mir3"
 exact h
end
end L2.Q3.Tx
end
section
namespace L2.Q3
open PySem PySem.Spec PyProof.Rows
variable {ρ:Rho}
theorem Je{fe:Fe}{fg:Fg}{Q}:oS (Kd fe fg ρ) Q ↔ oS (fe ρ) fun p=>oS (f7 p.2 p.1) fun z=>oS (fg z.1 z.2) fun ρ2=>Q (.nx,ρ2):=by unfold Kd;simp only [aC,au]
theorem OS{f:Fa}{Q:List D × Rho->Prop}:oS (SG f ρ) Q ↔ oS (f ρ) fun p=>oS (cu p.2 p.1) fun xs=>oS (match xs with
 | [.int i,.int j]=>if (-(2 ^ 62) <= i /\ i < 2 ^ 62 /\ -(2 ^ 62) <= j /\ j < 2 ^ 62) then some (jA i (j - i).toNat,p.2) else none
 | _=>none) Q:=by
 unfold SG
 simp only [aC] <;> exact Iff.rfl
theorem OT{f g:Fe}{Q}:oS (SO f g ρ) Q ↔ oS (aa f (aa g aj) ρ) fun p=>oS (cu p.2 p.1) fun xs=>oS (match xs with
 | [.tuple xs,.int k]=>if k = -1 then some (.d (.tuple xs.reverse),p.2) else none
 | [.list xs,.int k]=>if k = -1 then some (.fr xs.reverse,p.2) else if k=1 then some (.fr xs,p.2) else none
 | _=>none) Q:=by
 unfold SO
 simp only [aC] <;> exact Iff.rfl
end L2.Q3
namespace L2.Q3.Tx
open PySem PySem.Spec PyProof.Rows L2
end L2.Q3.Tx
end
section
namespace L2.Q3.Tx
open PySem PySem.Spec PyProof.Rows L2
local macro_rules | `(tactic| walk_at "mir4") => `(tactic| simp (config := { decide := true, maxSteps := 2000000 }) only [zS, ↓Je, Je, ↓OS, OS, ↓OT, OT, rX, uL, ar, b8, me, rJ, Eu, Jd, HY, ↓Kv, Kv, ↓nJ, ↓yi, ↓yj, ↓qc, ↓qd, ↓kG, ↓il, ↓o_C, ↓qf, ↓kH, ↓jU, ↓dJ, ↓yk, ↓ym, ↓kI, ↓kJ, ↓qg, ↓yn, ↓qh, ↓yo, ↓qi, ↓qj, ↓iq, ↓qk, ↓ql, ↓gW, ↓qm, ↓qo, ↓qp, ↓yp, ↓kK, ↓yq, ↓ir, ↓qr, ↓kL, ↓yr, ↓kM, ↓qt,
 nJ,yi,yj,qc,qd,kG,il,o_C,qf,kH,jU,dJ,yk,ym,kI,kJ,qg,yn,qh,yo,qi,qj,iq,qk,ql,gW,qm,qo,qp,yp,kK,yq,ir,qr,kL,yr,kM,qt,
 ↓aC,↓au,↓fX,↓aE,↓iu,aC,au,fX,aE,iu,Cj,Ck,Cm,Cn,Co,wB,wC,wD,Cp,Cq,Cr,Cs,Ct,Cu,nK,nL,nM,nN,
 gN,gT,nO,cE,cu,rdW,rE,bw,f7,gz,vd,slots,mq,putBack,BZ,B0,jV,kF,sT,tru,itemsOf,f9,ve,pH,
 List.getElem?_cons_zero,List.getElem?_cons_succ,List.set_cons_zero,List.set_cons_succ,List.length_cons,List.length_nil,List.take_succ_cons,List.take_zero,List.map_cons,List.map_nil,Option.getD_some,Option.getD_none,Option.isSome_some,Option.isNone_none,Option.isNone_some,Option.bind_some,Option.bind_none,Bool.true_and,Bool.and_true,Bool.not_true,Bool.not_false,if_true,if_false,ite_true,ite_false,reduceCtorEq,true_and,and_true,List.nodup_cons,List.not_mem_nil,not_false_eq_true,List.nodup_nil,List.mem_singleton,List.mem_cons,Nat.reduceAdd,Nat.zero_add,Nat.reduceLeDiff,Nat.reduceEqDiff,Nat.reduceLT,Int.reduceNeg,Bool.false_eq_true,List.all_cons,List.all_nil,List.append_nil])
section
theorem Jy{j:Nat}{fg:Fg}{ft:Ft}{fe:Fe}{vs:List Nat}{ρ:Rho}{Q:W × Rho->Prop}(e:kF ρ j=none)(h:oS (gU (jg (ag j)) fg ft fe vs ρ) Q):oS (lh j fg ft fe vs ρ) Q:=by
 unfold lh
 rw [e];exact h
def Sh(n:Nat)(x:D):Prop:=x.canLay0=true /\ x.depth <= n
theorem KW{n:Nat}{i:Int}:Sh n (.int i):=⟨rfl,Nat.zero_le _⟩
theorem wA{n:Nat}:∀ {xs:List D},(∀ x ∈ xs,Sh n x)->PyData.canLayAll0 xs=true /\ PyData.depthAll xs <= n
 | [],_=>⟨rfl,Nat.zero_le _⟩
 | x :: xs,h=>by
  obtain ⟨h1,h2⟩:=wA fun y hy=>h y (List.mem_cons_of_mem _ hy)
  obtain ⟨g1,g2⟩:=h x List.mem_cons_self
  constructor
  . show (PyData.canLay0 x && PyData.canLayAll0 xs)=true
    rw [g1,h1];rfl
  . show max _ _ <= n
    omega
theorem KY{n:Nat}{xs:List D}(h:∀ x ∈ xs,Sh n x):Sh (n + 1) (.tuple xs):=⟨(wA h).1,Nat.succ_le_succ (wA h).2⟩
theorem Pp{n:Nat}{xs:List D}(h:∀ x ∈ xs,Sh n x):Sh (n + 1) (.list xs):=⟨(wA h).1,Nat.succ_le_succ (wA h).2⟩
theorem Sh.shaped{n:Nat}{x:D}(h:Sh n x)(l:n <= 64):SeqAt.shaped x=true:=by
 unfold SeqAt.shaped
 rw [h.1,decide_eq_true (Nat.le_trans h.2 l)];rfl
end
section
theorem vk{α:Type}(l:List α):l.filter (fun _=>true)=l:=by simp
theorem JC(rs:List Rcp)(s:List Int)(name:Int)(hr:rs.length <= 100)(hs:s.length <= 2):(yt rs s name).length <= 300:=by
 unfold yt
 have hdl:∀ l:List (List Int),(l.flatMap fun a=>atS rs name a).length <= 100 * l.length:=by
  intro l
  induction l with
  | nil=>simp
  | cons b l ih =>
   have:=Il rs name b
   simp only [List.flatMap_cons,List.length_append,List.length_cons]
   omega
 have:=hdl (around s)
 rw [zV] at this
 omega
theorem JD {hh : fW} {s : List Int} {name i : Int} (hr : hh.rs.length <= 100) (hs : s.length <= 2) {Q : W × List W -> Prop} (h : Q (.d (aJ ((yt hh.rs s name).filter fun k => decide (k ≠ i))), [.d hh.D, .d (aJ s), .d (.int name), .d (.int i)])) :
    oS (ia [.d hh.D,.d (aJ s),.d (.int name),.d (.int i)]) Q:=by
 have hal:=JC hh.rs s name hr hs
 refine dI rfl rfl ?_
 show oS (ny [some (.d hh.D),some (.d (aJ s)),some (.d (.int name)),some (.d (.int i)),none]) _
 unfold ny
 try walk_at "mir4"
 refine G2 (L:=yt hh.rs s name) (g:=.int) (p:=fun k=>decide (k ≠ i)) (f:=.int) ?_ (by omega) (fun x hx=>?_) ?_
 . try walk_at "mir4"
   refine uE hr hs ?_
   try walk_at "mir4"
   exact ⟨_,rfl,rfl⟩
 . try walk_at "mir4"
   by_cases hk:x=i
   . subst hk
     try walk_at "mir4"
     simp
   . have:(x == i)=false:=by simpa using hk
     simp only [this]
     try walk_at "mir4"
     simp [hk]
 . try walk_at "mir4"
   exact h
theorem vm{α:Type}{xs:List α}{i:Nat}{x:α}(h:xs[i]? = some x):atI xs (i:Int)=some x:=by
 have hl:=(List.getElem?_eq_some_iff.mp h).1
 obtain ⟨y,e,z⟩:=iT (xs:=xs) (i:=(i:Int)) (Q:=fun y=>y=x) (by omega) (by omega) fun y _ hy=>by
  rw [Int.toNat_natCast,h] at hy;cases hy;rfl
 rw [e,z]
theorem Px{rs:List Rcp}{i:Nat}{r:Rcp}(h:rs[i]? = some r):atI (rs.map Rcp.D) (i:Int)=some r.D:=vm (by rw [List.getElem?_map,h];rfl)
theorem Py{tt:List Tst}{i:Nat}{t:Tst}(h:tt[i]? = some t):atI (tt.map Tst.D) (i:Int)=some t.D:=vm (by rw [List.getElem?_map,h];rfl)
theorem B2{hh:fW}{i:Nat}(hi:i < hh.rs.length){Q:W × List W->Prop}(h:Q (.d .none,[.d hh.D,.d (.int i)])):oS (dG [.d hh.D,.d (.int i)]) Q:=by
 refine dI rfl rfl ?_
 show oS (iU [some (.d (.tuple [aJ hh.ts,.tuple (hh.rs.map Rcp.D),.tuple (hh.tt.map Tst.D)])),some (.d (.int i))]) _
 unfold iU
 try walk_at "mir4"
 refine ic (x:=.int i) ⟨fun ys e=>(by cases e),fun ks ys e=>(by cases e)⟩ ?_
 have e:aO (.int i) 0 (((hh.rs.map Rcp.D).length:Int) - 1)=true:=by simp [aO];omega
 rw [e]
 try walk_at "mir4"
 exact h
theorem zW{hh:fW}{i:Nat}(hi:i < hh.tt.length){Q:W × List W->Prop}(h:Q (.d .none,[.d hh.D,.d (.int i)])):oS (cU [.d hh.D,.d (.int i)]) Q:=by
 refine dI rfl rfl ?_
 show oS (gX [some (.d (.tuple [aJ hh.ts,.tuple (hh.rs.map Rcp.D),.tuple (hh.tt.map Tst.D)])),some (.d (.int i))]) _
 unfold gX
 try walk_at "mir4"
 refine ic (x:=.int i) ⟨fun ys e=>(by cases e),fun ks ys e=>(by cases e)⟩ ?_
 have e:aO (.int i) 0 (((hh.tt.map Tst.D).length:Int) - 1)=true:=by simp [aO];omega
 rw [e]
 try walk_at "mir4"
 exact h
def Tj(rs:List Rcp)(i:Nat)(r:Rcp):List D:=r.gy.map fun n=>hdD ((yt rs r.nt n).filter fun k=>decide (k ≠ (i:Int)))
def Tn(rs:List Rcp)(t:Tst):List D:=t.gy.map fun n=>hdD (yt rs [t.ev,t.tb] n)
theorem FC{hh:fW}{i:Nat}{r:Rcp}(hi:hh.rs[i]? = some r)(hr:hh.rs.length <= 100)(hs:r.nt.length <= 2)(hn:r.gy.length <= 10){Q:W × List W->Prop}(h:Q (.d (.tuple (Tj hh.rs i r)),[.d hh.D,.d (.int i)])):oS (fL [.d hh.D,.d (.int i)]) Q:=by
 refine dI rfl rfl ?_
 show oS (nA [some (.d (.tuple [aJ hh.ts,.tuple (hh.rs.map Rcp.D),.tuple (hh.tt.map Tst.D)])),some (.d (.int i)),none,none,none,none,none,none]) _
 unfold nA
 try walk_at "mir4"
 refine B2 (hh:=hh) (List.getElem?_eq_some_iff.mp hi).1 ?_
 try walk_at "mir4"
 rw [Px hi]
 try walk_at "mir4"
 simp only [Rcp.D]
 try walk_at "mir4"
 refine G2 (L:=r.gy) (g:=.int) (p:=fun _=>true) (f:=fun n=>hdD ((yt hh.rs r.nt n).filter fun k=>decide (k ≠ (i:Int)))) ?_ (by omega) (fun x hx=>?_) ?_
 . try walk_at "mir4"
   exact ⟨_,rfl,rfl⟩
 . try walk_at "mir4"
   refine JD (hh:=hh) hr hs ?_
   try walk_at "mir4"
   refine uF ?_
   try walk_at "mir4"
   rfl
 . try walk_at "mir4"
   rw [vk]
   exact h
theorem JE{hh:fW}{i:Nat}{t:Tst}(hi:hh.tt[i]? = some t)(hr:hh.rs.length <= 100)(hn:t.gy.length <= 10){Q:W × List W->Prop}(h:Q (.d (.tuple (Tn hh.rs t)),[.d hh.D,.d (.int i)])):oS (dY [.d hh.D,.d (.int i)]) Q:=by
 refine dI rfl rfl ?_
 show oS (kN [some (.d (.tuple [aJ hh.ts,.tuple (hh.rs.map Rcp.D),.tuple (hh.tt.map Tst.D)])),some (.d (.int i)),none,none,none,none]) _
 unfold kN
 try walk_at "mir4"
 refine zW (hh:=hh) (List.getElem?_eq_some_iff.mp hi).1 ?_
 try walk_at "mir4"
 rw [Py hi]
 try walk_at "mir4"
 simp only [Tst.D]
 try walk_at "mir4"
 refine G2 (L:=t.gy) (g:=.int) (p:=fun _=>true) (f:=fun n=>hdD (yt hh.rs [t.ev,t.tb] n)) ?_ (by omega) (fun x hx=>?_) ?_
 . try walk_at "mir4"
   exact ⟨_,rfl,rfl⟩
 . try walk_at "mir4"
   refine uE (hh:=hh) (s:=[t.ev,t.tb]) hr (by simp) ?_
   try walk_at "mir4"
   refine uF ?_
   try walk_at "mir4"
   rfl
 . try walk_at "mir4"
   rw [vk]
   exact h
end
end L2.Q3.Tx
end
section
namespace L2.Q3
open PySem PySem.Spec PyProof.Rows
variable {α:Type} {fi fb:Fe} {vs:List Nat} {j:Nat} {ρ:Rho} {Q:W × Rho->Prop}
end L2.Q3
namespace L2.Q3.Tx
open PySem PySem.Spec PyProof.Rows L2
def c1(name most:Int)(q:Rcp × Nat):Bool:=decide (q.1.name=name) && decide ((q.1.nt.length:Int) < most)
end L2.Q3.Tx
end
section
namespace L2.Q3.Tx
open PySem PySem.Spec PyProof.Rows L2
section
structure Uc (rs:List Rcp) (s:List Int) (name:Int) (ok:Nat->Rcp->Prop) (k:Nat) (r:Rcp):Prop where
 at_:rs[k]? = some r
 name:r.name=name
 pre:s.take r.nt.length=r.nt
 ok:ok k r
end
end L2.Q3.Tx
end
section
namespace L2.Q3.Tx
section
open PySem PySem.Spec PyProof.Rows L2
end
end L2.Q3.Tx
end
section
namespace L2.Q3.Tx
open PySem PySem.Spec PyProof.Rows L2
local macro_rules | `(tactic| walk_at "mir2") => `(tactic| simp (config := { decide := true, maxSteps := 2000000 }) only [zS, ar, b8, ↓nJ, ↓yi, ↓yj, ↓qc, ↓qd, ↓kG, ↓il, ↓o_C, ↓qf, ↓kH, ↓jU, ↓dJ, ↓yk, ↓ym, ↓kI, ↓kJ, ↓qg, ↓yn, ↓qh, ↓yo, ↓qi, ↓qj, ↓iq, ↓qk, ↓ql, ↓gW, ↓qm, ↓qo, ↓qp, ↓yp, ↓kK, ↓yq, ↓ir, ↓qr, ↓kL, ↓yr, ↓kM, ↓qt,
 nJ,yi,yj,qc,qd,kG,il,o_C,qf,kH,jU,dJ,yk,ym,kI,kJ,qg,yn,qh,yo,qi,qj,iq,qk,ql,gW,qm,qo,qp,yp,kK,yq,ir,qr,kL,yr,kM,qt,
 ↓aC,↓au,↓fX,↓aE,↓iu,aC,au,fX,aE,iu,Cj,Ck,Cm,Cn,Co,wB,wC,wD,Cp,Cq,Cr,Cs,Ct,Cu,nK,nL,nM,nN,
 gN,gT,nO,cE,cu,rdW,rE,bw,f7,gz,vd,slots,mq,putBack,BZ,B0,jV,kF,sT,tru,itemsOf,f9,ve,pH,
 List.getElem?_cons_zero,List.getElem?_cons_succ,List.set_cons_zero,List.set_cons_succ,List.length_cons,List.length_nil,List.take_succ_cons,List.take_zero,List.map_cons,List.map_nil,Option.getD_some,Option.getD_none,Option.isSome_some,Option.isNone_none,Option.isNone_some,Option.bind_some,Option.bind_none,Bool.true_and,Bool.and_true,Bool.not_true,Bool.not_false,if_true,if_false,ite_true,ite_false,reduceCtorEq,true_and,and_true,List.nodup_cons,List.not_mem_nil,not_false_eq_true,List.nodup_nil,List.mem_singleton,List.mem_cons,Nat.reduceAdd,Nat.zero_add,Nat.reduceLeDiff,Nat.reduceEqDiff,Nat.reduceLT,Int.reduceNeg,Bool.false_eq_true,List.all_cons,List.all_nil,List.append_nil])
section
theorem d9{xs:List D}(h:∀ y ∈ xs,NS y):Good (.tuple xs):=⟨⟨fun ys e=>(nomatch e),fun ks ys e=>(nomatch e)⟩,fun zs e y hy=>by cases e;exact h y hy⟩
theorem jW(xs:List D):Good (.list xs):=⟨⟨fun ys e=>(nomatch e),fun ks ys e=>(nomatch e)⟩,fun zs e=>(nomatch e)⟩
theorem good_int(i:Int):Good (.int i):=⟨⟨fun ys e=>(nomatch e),fun ks ys e=>(nomatch e)⟩,fun zs e=>(nomatch e)⟩
theorem good_bool(i:Bool):Good (.bool i):=⟨⟨fun ys e=>(nomatch e),fun ks ys e=>(nomatch e)⟩,fun zs e=>(nomatch e)⟩
theorem good_str(i:Str):Good (.str i):=⟨⟨fun ys e=>(nomatch e),fun ks ys e=>(nomatch e)⟩,fun zs e=>(nomatch e)⟩
theorem good_none:Good .none:=⟨⟨fun ys e=>(nomatch e),fun ks ys e=>(nomatch e)⟩,fun zs e=>(nomatch e)⟩
theorem K2(x:Str)(y:D):Good (.dict [(.str x,y)]):=⟨⟨fun ys e=>(nomatch e),fun ks ys e=>(nomatch e)⟩,fun zs e=>(nomatch e)⟩
def GoodW(r:W):Prop:=(∃ x,r = .d x /\ Good x) \/ ∃ xs,r = .fr xs
theorem nP:∀ (j:Nat) (deep:Int) (p:List D) (Q:W × List W->Prop),cW p->0 <= deep->deep < j->(∀ r p',cW p'->GoodW r->Q (r,[.fr p',.d (.int deep)]))->oS (br j [.fr p,.d (.int deep)]) Q
 | 0,deep,p,Q,_,h1,h2,_=>by omega
 | j + 1,deep,p,Q,hp,h1,h2,h=>by
  refine dI rfl rfl ?_
  show oS (pN (br j) [some (.fr p),some (.d (.int deep)),none,none,none]) _
  unfold pN
  try walk_at "mir2"
  refine bp hp (by decide) (by decide) fun way p1 hp1 r0 r1=>?_
  try walk_at "mir2"
  have fin:∀ (y:D) (p2:List D),cW p2->y ∈ [PyData.none,.bool true,.bool false,.int 0,.int 1,.int (-1),.int 9,.int 1000000000000000000000000000000000000000,.str "",.str "a",.tuple [],.list []]->Q (.d y,[.fr p2,.d (.int deep)]):=fun y p2 hp2 hy=>by
   refine h _ p2 hp2 (.inl ⟨y,rfl,?_⟩)
   simp only [List.mem_cons,List.not_mem_nil,or_false] at hy
   rcases hy with rfl | rfl | rfl | rfl | rfl | rfl | rfl | rfl | rfl | rfl | rfl | rfl
   . exact good_none
   . exact good_bool _
   . exact good_bool _
   . exact good_int _
   . exact good_int _
   . exact good_int _
   . exact good_int _
   . exact good_int _
   . exact good_str _
   . exact good_str _
   . exact d9 fun y hy=>absurd hy (by simp)
   . exact jW _
  split
  . simp only [OZ]
    try walk_at "mir2"
    refine bp hp1 (by decide) (by decide) fun r2 p2 hp2 s0 s1=>?_
    try walk_at "mir2"
    refine iT s0 (by simp;omega) fun y hy _=>?_
    try walk_at "mir2"
    exact fin y p2 hp2 hy
  . split
    . simp only [OZ]
      try walk_at "mir2"
      refine bp hp1 (by decide) (by decide) fun r2 p2 hp2 s0 s1=>?_
      try walk_at "mir2"
      refine iT s0 (by simp;omega) fun y hy _=>?_
      try walk_at "mir2"
      exact fin y p2 hp2 hy
    . rename_i hd
      have hd':deep ≠ 0:=by simpa using hd
      try walk_at "mir2"
      refine pF ?_
      try walk_at "mir2"
      refine bp hp1 (by decide) (by decide) fun r2 p2 hp2 s0 s1=>?_
      try walk_at "mir2"
      refine ⟨⟨by omega,by omega⟩,fun items acc ρ=>∃ p o4,cW p /\ ρ = [some (.fr p),some (.d (.int deep)),some (.d (.int way)),none,o4] /\ (∀ y ∈ acc,NS y) /\ acc.length + items.length <= 3,
       ⟨p2,none,hp2,rfl,fun c hc=>absurd hc (by simp),by rw [gx];simp;omega⟩,?_,?_⟩
      . rintro acc ρ ⟨p3,o4,hp3,rfl,ha,_⟩
        try walk_at "mir2"
        split
        . exact h _ p3 hp3 (.inr ⟨acc,rfl⟩)
        . split
          . exact h _ p3 hp3 (.inl ⟨_,rfl,K2 _ _⟩)
          . try walk_at "mir2"
            simp only [sf]
            try walk_at "mir2"
            exact h _ p3 hp3 (.inl ⟨_,rfl,d9 ha⟩)
      . rintro x xs acc ρ ⟨p3,o4,hp3,rfl,ha,hl⟩
        simp only [List.length_cons] at hl
        try walk_at "mir2"
        refine nP j (deep - 1) p3 _ hp3 (by omega) (by omega) fun r p4 hp4 hr=>?_
        try walk_at "mir2"
        rcases hr with ⟨y,rfl,hy⟩ | ⟨ys,rfl⟩
        . try walk_at "mir2"
          refine ⟨by omega,p4,_,hp4,rfl,fun z hz=>?_,by simp;omega⟩
          rcases List.mem_append.mp hz with hz | hz
          . exact ha z hz
          . rw [List.mem_singleton.mp hz];exact hy.1
        . try walk_at "mir2"
          refine ⟨by omega,p4,_,hp4,rfl,fun z hz=>?_,by simp;omega⟩
          rcases List.mem_append.mp hz with hz | hz
          . exact ha z hz
          . rw [List.mem_singleton.mp hz];exact (jW ys).1
end
section
theorem Rx{i:Int}{Q:W->Prop}:oS (M9 [.int i]) Q ↔ i.natAbs.log2 < 1920 /\ Q (.d (.str (toString i))):=by
 show oS (if _ then _ else none) Q ↔ _
 rw [aE,au]
theorem wH{xs:List D}{Q:W->Prop}:oS (Ik [.tuple xs]) Q ↔ Q (.fr xs):=au
theorem vj{xs:List D}{lo hi:Option Int}{Q:W->Prop}:oS (gSl (.tuple xs) lo hi) Q ↔ Q (.d (.tuple (cutD xs lo hi))):=au
theorem mx{xs:List D}{lo hi:Option Int}{y:D}(h:y ∈ cutD xs lo hi):y ∈ xs:=by
 unfold cutD at h
 exact List.mem_of_mem_drop (List.mem_of_mem_take h)
theorem yB(xs:List D)(lo hi:Option Int):(cutD xs lo hi).length <= xs.length:=by
 unfold cutD
 rw [List.length_take,List.length_drop]
 omega
theorem GX(i:Int):wF "int" (.int i)=some true:=rfl
theorem GY(i:Int):wF "tuple" (.int i)=some false:=rfl
theorem GZ(i:Int):wF "str" (.int i)=some false:=rfl
theorem uC(s:List D):wF "int" (.tuple s)=some false:=rfl
theorem uD(s:List D):wF "tuple" (.tuple s)=some true:=rfl
theorem is_tup(s:List D):wF "str" (.tuple s)=some false:=rfl
theorem G0(j:Nat){i:Int}(h0:0 <= i)(h3:i <= 3){p:List D}(hp:cW p){Q:W × List W->Prop}(h:∀ r p',cW p'->GoodW r->Q (r,[.fr p',.d (.int i)])):oS (bJ (j + 1) [.fr p,.d (.int i)]) Q:=by
 refine dI rfl rfl ?_
 show oS (ie (bJ j) [some (.fr p),some (.d (.int i)),none,none]) _
 unfold ie
 try walk_at "mir2"
 simp only [GX,GY,GZ]
 try walk_at "mir2"
 refine bp hp (by decide) (by decide) fun way p1 hp1 r0 r1=>?_
 try walk_at "mir2"
 simp only [GX,GY,GZ]
 try walk_at "mir2"
 have hs:i.natAbs.log2 < 1920:=by
  have:i=0 \/ i=1 \/ i=2 \/ i=3:=by omega
  rcases this with rfl | rfl | rfl | rfl <;> decide
 split
 . rename_i hw
   have hw':way < 4:=by simpa using hw
   simp only [Rx]
   try walk_at "mir2"
   refine ⟨hs,?_⟩
   refine iT r0 (by simp;omega) fun y hy _=>?_
   try walk_at "mir2"
   refine h _ p1 hp1 (.inl ⟨y,rfl,?_⟩)
   simp only [List.mem_cons,List.not_mem_nil,or_false] at hy
   rcases hy with rfl | rfl | rfl | rfl
   . exact good_int _
   . exact good_int _
   . exact good_bool _
   . exact good_str _
 . try walk_at "mir2"
   try simp only [GX,GY,GZ]
   try walk_at "mir2"
   refine nP 6 2 p1 _ hp1 (by decide) (by decide) fun r p2 hp2 hr=>?_
   try walk_at "mir2"
   rcases hr with ⟨y,rfl,hy⟩ | ⟨ys,rfl⟩
   . (try walk_at "mir2");exact h _ p2 hp2 (.inl ⟨y,rfl,hy⟩)
   . (try walk_at "mir2");exact h _ p2 hp2 (.inr ⟨ys,rfl⟩)
theorem shaped_ints(s:List Int):SeqAt.shaped (.tuple (s.map .int))=true:=by
 obtain ⟨h1,h2⟩:=vh s
 unfold SeqAt.shaped
 have e1:PyData.canLay0 (.tuple (s.map .int))=PyData.canLayAll0 (s.map .int):=rfl
 have e2:PyData.depth (.tuple (s.map .int))=PyData.depthAll (s.map .int) + 1:=rfl
 rw [e1,e2,h1,h2];rfl
theorem Ry{s:List Int}{Q:W->Prop}:oS (gEq true [.tuple (s.map .int),.tuple []]) Q ↔ Q (.d (.bool (!s.isEmpty))):=by
 show oS (if _ then _ else none) Q ↔ _
 rw [aE,au]
 have e:(PyData.eqv (.tuple (s.map .int)) (.tuple []) != true) = !s.isEmpty:=by
  cases s <;> rfl
 rw [e]
 exact ⟨fun z=>z.2,fun z=>⟨⟨shaped_ints s,rfl⟩,z⟩⟩
theorem G1(j:Nat){s:List Int}(hs2:s.length <= 2)(hs:∀ i ∈ s,0 <= i /\ i <= 3){p:List D}(hp:cW p){Q:W × List W->Prop}(h:∀ r p',cW p'->GoodW r->Q (r,[.fr p',.d (aJ s)])):oS (bJ (j + 2) [.fr p,.d (aJ s)]) Q:=by
 have nsm:∀ y ∈ s.map PyData.int,NS y:=fun y hy=>by
  obtain ⟨i,_,rfl⟩:=List.mem_map.mp hy
  exact (good_int i).1
 have ml:(s.map PyData.int).length <= 2:=by simpa using hs2
 refine dI rfl rfl ?_
 show oS (ie (bJ (j + 1)) [some (.fr p),some (.d (aJ s)),none,none]) _
 unfold ie aJ at *
 try walk_at "mir2"
 simp only [uC,uD,is_tup]
 try walk_at "mir2"
 simp only [Ry]
 try walk_at "mir2"
 cases hc:(!s.isEmpty) with
 | false =>
  try walk_at "mir2"
  refine bp hp (by decide) (by decide) fun way p1' hp1' r0 r1=>?_
  try walk_at "mir2"
  try simp only [uC,uD,is_tup]
  try walk_at "mir2"
  split
  . rename_i hw
    have hw':way < 4:=by simpa using hw
    try simp only [vj,wH]
    try walk_at "mir2"
    have c1:=yB (s.map PyData.int) (some (-1)) none
    refine ⟨by omega,?_⟩
    try simp only [vj,wH]
    try walk_at "mir2"
    try simp only [vj,wH]
    try walk_at "mir2"
    refine iT r0 (by simp;omega) fun y hy _=>?_
    try walk_at "mir2"
    refine h _ p1' hp1' (.inl ⟨y,rfl,?_⟩)
    simp only [List.mem_cons,List.not_mem_nil,or_false] at hy
    rcases hy with rfl | rfl | rfl | rfl
    . refine d9 fun z hz=>?_
      rcases List.mem_append.mp hz with hz | hz
      . exact nsm z hz
      . exact nsm z (mx hz)
    . exact d9 fun z hz=>nsm z (mx hz)
    . exact jW _
    . exact d9 fun z hz=>nsm z (List.mem_reverse.mp hz)
  . try walk_at "mir2"
    try simp only [uC,uD,is_tup]
    try walk_at "mir2"
    try simp only [uC,uD,is_tup]
    try walk_at "mir2"
    refine nP 6 2 p1' _ hp1' (by decide) (by decide) fun r p2' hp2' hr=>?_
    try walk_at "mir2"
    rcases hr with ⟨y,rfl,hy⟩ | ⟨ys,rfl⟩
    . (try walk_at "mir2");exact h _ p2' hp2' (.inl ⟨y,rfl,hy⟩)
    . (try walk_at "mir2");exact h _ p2' hp2' (.inr ⟨ys,rfl⟩)
 | true =>
  have hpos:0 < s.length:=by
   cases s with
   | nil=>cases hc
   | cons _ _=>simp
  try walk_at "mir2"
  refine bp hp (by decide) (by decide) fun r6 p1 hp1 q0 q1=>?_
  cases hg:pGt r6 0 with
  | true =>
   try walk_at "mir2"
   try simp only [hg]
   try walk_at "mir2"
   simp only [List.length_map]
   refine bp hp1 (by omega) (by omega) fun at_ p2 hp2 a0 a1=>?_
   try walk_at "mir2"
   try simp only [vj]
   try walk_at "mir2"
   refine iT a0 (by simpa using a1) fun y hy _=>?_
   obtain ⟨i,hi,rfl⟩:=List.mem_map.mp hy
   obtain ⟨i0,i3⟩:=hs i hi
   try walk_at "mir2"
   refine G0 j i0 i3 hp2 fun r p3 hp3 hr=>?_
   try walk_at "mir2"
   have c1:=yB (s.map PyData.int) none (some at_)
   have c2:=yB (s.map PyData.int) (some (at_ + 1)) none
   rcases hr with ⟨y,rfl,hy⟩ | ⟨ys,rfl⟩
   . try walk_at "mir2"
     refine ⟨by omega,?_⟩
     try simp only [vj]
     try walk_at "mir2"
     refine ⟨by simp;omega,?_⟩
     try walk_at "mir2"
     refine h _ p3 hp3 (.inl ⟨_,rfl,d9 fun z hz=>?_⟩)
     rcases List.mem_append.mp hz with hz | hz
     . rcases List.mem_append.mp hz with hz | hz
       . exact nsm z (mx hz)
       . rw [List.mem_singleton.mp hz];exact hy.1
     . exact nsm z (mx hz)
   . try walk_at "mir2"
     refine ⟨by omega,?_⟩
     try simp only [vj]
     try walk_at "mir2"
     refine ⟨by simp;omega,?_⟩
     try walk_at "mir2"
     refine h _ p3 hp3 (.inl ⟨_,rfl,d9 fun z hz=>?_⟩)
     rcases List.mem_append.mp hz with hz | hz
     . rcases List.mem_append.mp hz with hz | hz
       . exact nsm z (mx hz)
       . rw [List.mem_singleton.mp hz];exact (jW ys).1
     . exact nsm z (mx hz)
  | false =>
   try walk_at "mir2"
   try simp only [hg]
   try walk_at "mir2"
   try walk_at "mir2"
   refine bp hp1 (by decide) (by decide) fun way p1' hp1' r0 r1=>?_
   try walk_at "mir2"
   try simp only [uC,uD,is_tup]
   try walk_at "mir2"
   split
   . rename_i hw
     have hw':way < 4:=by simpa using hw
     try simp only [vj,wH]
     try walk_at "mir2"
     have c1:=yB (s.map PyData.int) (some (-1)) none
     refine ⟨by omega,?_⟩
     try simp only [vj,wH]
     try walk_at "mir2"
     try simp only [vj,wH]
     try walk_at "mir2"
     refine iT r0 (by simp;omega) fun y hy _=>?_
     try walk_at "mir2"
     refine h _ p1' hp1' (.inl ⟨y,rfl,?_⟩)
     simp only [List.mem_cons,List.not_mem_nil,or_false] at hy
     rcases hy with rfl | rfl | rfl | rfl
     . refine d9 fun z hz=>?_
       rcases List.mem_append.mp hz with hz | hz
       . exact nsm z hz
       . exact nsm z (mx hz)
     . exact d9 fun z hz=>nsm z (mx hz)
     . exact jW _
     . exact d9 fun z hz=>nsm z (List.mem_reverse.mp hz)
   . try walk_at "mir2"
     try simp only [uC,uD,is_tup]
     try walk_at "mir2"
     try simp only [uC,uD,is_tup]
     try walk_at "mir2"
     refine nP 6 2 p1' _ hp1' (by decide) (by decide) fun r p2' hp2' hr=>?_
     try walk_at "mir2"
     rcases hr with ⟨y,rfl,hy⟩ | ⟨ys,rfl⟩
     . (try walk_at "mir2");exact h _ p2' hp2' (.inl ⟨y,rfl,hy⟩)
     . (try walk_at "mir2");exact h _ p2' hp2' (.inr ⟨ys,rfl⟩)
end
section
theorem JB(s:List Int):Good (aJ s):=d9 fun y hy=>by
 obtain ⟨i,_,rfl⟩:=List.mem_map.mp hy
 exact (good_int i).1
theorem zU{ts:List Int}(hT:xo ts){s:List Int}(hs:s ∈ spS ts.zipIdx):s.length <= 2 /\ ∀ i ∈ s,0 <= i /\ i <= 3:=by
 rcases mw.mp hs with rfl | ⟨⟨m,e⟩,hp,rfl | ⟨t,ht,rfl⟩⟩
 . exact ⟨by simp,fun i hi=>absurd hi (by simp)⟩
 . have h1:=(List.getElem?_eq_some_iff.mp (pG.mp hp)).1
   have:=hT.2.1
   refine ⟨by simp,fun i hi=>?_⟩
   rw [List.mem_singleton.mp hi]
   show 0 <= (e:Int) /\ (e:Int) <= 3
   omega
 . have h1:=(List.getElem?_eq_some_iff.mp (pG.mp hp)).1
   have hm:=hT.2.2 m (List.mem_of_getElem? (pG.mp hp))
   have:=hT.2.1
   have ht':t < m.toNat:=ht
   refine ⟨by simp,fun i hi=>?_⟩
   simp only [List.mem_cons,List.not_mem_nil,or_false] at hi
   rcases hi with rfl | rfl
   . show 0 <= (e:Int) /\ (e:Int) <= 3
     omega
   . omega
end
end L2.Q3.Tx
end
section
namespace L2.Q3.Tx
section
open PySem PySem.Spec PyProof.Rows L2
end
end L2.Q3.Tx
end
section
namespace L2.Q3.Tx
open PySem PySem.Spec PyProof.Rows L2
section
structure HK (h:fW):Prop where
 DU:h.rs.length <= 100
 nd:(h.rs.map Rcp.key).Nodup
 T7:∀ r ∈ h.rs,r.nt.length <= 2
 gy:∀ r ∈ h.rs,r.gy.length <= 10
 Jw:h.tt.length <= 100
 To:∀ t ∈ h.tt,t.gy.length <= 10
theorem dg.hk{h:fW}(o:dg h):HK h:=⟨by have:=o.DU;omega,o.nd,fun r hr=>FD (o.rok r hr).nt,fun r hr=>by have:=(o.rok r hr).gy.len;omega,by have:=o.Jw;omega,fun t ht=>by have:=(o.tok t ht).gy.len;omega⟩
end
end L2.Q3.Tx
end
section
namespace L2.Q3.Tx
section
open PySem PySem.Spec PyProof.Rows
end
end L2.Q3.Tx
end
section
namespace L2.Q3.Tx
open PySem PySem.Spec PyProof.Rows L2
section
def Q9(rs:List Rcp)(s:List Int)(n:Int)(q:Int->Bool):Option Nat:=match (yt rs s n).filter q with
 | []=>none
 | x :: _=>some x.toNat
def T4(rs:List Rcp)(i:Nat)(r:Rcp):List (Option Nat):=r.gy.map fun n=>Q9 rs r.nt n fun k=>decide (k ≠ (i:Int))
def oth(rs:List Rcp)(i:Nat):List Nat:=match rs[i]? with
 | none=>[]
 | some r=>(T4 rs i r).filterMap id
structure Snd (hh:fW):Prop where
 ok:dg hh
 found:∀ (i:Nat) (r:Rcp),hh.rs[i]? = some r->∀ n ∈ r.gy,Q9 hh.rs r.nt n (fun k=>decide (k ≠ (i:Int))) ≠ none
 keep:∀ (i:Nat) (r:Rcp) (j:Nat) (r':Rcp),hh.rs[i]? = some r->j ∈ oth hh.rs i->hh.rs[j]? = some r'->r.keep <= r'.keep
 rank:∃ rk:Nat->Nat,(∀ i,rk i < 8) /\ ∀ (i j:Nat),j ∈ oth hh.rs i->rk j < rk i
 T5:∀ t ∈ hh.tt,∀ n ∈ t.gy,Q9 hh.rs [t.ev,t.tb] n (fun _=>true) ≠ none
end
section
section
variable {ot:Nat->List Nat} {rk:Nat->Nat} (h8:∀ i,rk i < 8) (hr:∀ i j,j ∈ ot i->rk j < rk i)
include hr
include h8
end
end
section
theorem lg.sub{m:Int}{l l':List Int}(h:lg m l)(s:l'.Sublist l):lg m l':=⟨h.nd.sublist s,Nat.le_trans s.length_le h.len,fun n hn=>h.rng n (s.subset hn)⟩
end
section
theorem MS{α:Type}{a b c d e:α}{xs:List α}:atI (a :: b :: c :: d :: e :: xs) 4=some e:=by
 have h:(a :: b :: c :: d :: e :: xs)[4]? = some e:=rfl
 exact vm (i:=4) h
theorem Q7{b:Bool}{Q:W->Prop}:oS (Sx b [.none,.none]) Q ↔ Q (.d (.bool (!b))):=au
theorem Q8{b:Bool}{i:Int}{Q:W->Prop}:oS (Sx b [.int i,.none]) Q ↔ Q (.d (.bool b)):=au
theorem zX(h:fW):h.D = .tuple [aJ h.ts,.tuple (h.rs.map Rcp.D),.tuple (h.tt.map Tst.D)]:=rfl
end
end L2.Q3.Tx
end
section
namespace L2.Q3.Tx
section
open PySem PySem.Spec PyProof.Rows L2
end
section
open PySem PySem.Spec PyProof.Rows L2
end
end L2.Q3.Tx
end
section
namespace L2.Q3.Tx
open PySem PySem.Spec PyProof.Rows L2
section
structure Pth (rk:Nat->Nat) (n:Nat) (row:List Nat) (a b:Nat):Prop where
 hd:∃ t,row=a :: t
 ls:∃ i,row=i ++ [b]
 lt:b < n
 rk:rk b + row.length <= rk a + 1
end
section
section
variable {hh:fW} (hs:Snd hh) {rk:Nat->Nat} (h8:∀ i,rk i < 8) (hrk:∀ i j,j ∈ oth hh.rs i->rk j < rk i)
include hs h8 hrk
end
end
end L2.Q3.Tx
end
section
namespace PySem
open Sem (wp)
section
open SetTable (Probe bits runEnd leap turns)
end
section
open SetTable (Probe bits runEnd leap turns)
end
end PySem
end
section
namespace PySem
open Sem (wp)
open SetTable (Probe bits runEnd leap turns)
section
def Jf(w:World)(h:Heap)(es:Array (Int × Value))(ks:List PyData):Prop:=ks.length=es.size /\ ∀ (i:Nat) (e:Int × Value),es[i]? = some e->∃ d as,ks[i]? = some d /\ Reads h e.2 d as /\ xp d /\ e.1=xu w d
section
variable {prog:Program} {w:World} {A:Around} {E:Value->Shared->Prop} {s:Shared}
end
end
section
section
variable {prog:Program} {w:World}
end
end
section
section
variable {prog:Program} {w:World} {A:Around} {E:Value->Shared->Prop} {s:Shared}
def Rc(w:World)(El:Value->PyData->Prop)(es:Array (Int × Value))(ks:List PyData):Prop:=ks.length=es.size /\ ∀ (i:Nat) (e:Int × Value),es[i]? = some e->∃ d,ks[i]? = some d /\ El e.2 d /\ xp d /\ e.1=xu w d
def OU(w:World)(El:Value->PyData->Prop)(h:Heap)(a:Addr)(b:Bool)(ks:List PyData):Prop :=
 ∃ o es ep t,h.get? a=some o /\ o.ExactSet /\ o.data = .set es ep t /\ Rc w El es ks /\ Rb es t /\ ks.Nodup /\ t.led=b
def Rf(w:World)(hE h:Heap)(a:Addr)(b:Bool)(ks:List PyData):Prop :=
 ∃ o es ep t,h.get? a=some o /\ o.ExactSet /\ o.data = .set es ep t /\ Jf w hE es ks /\ Rb es t /\ ks.Nodup /\ t.led=b
theorem Jf.keeps{h h':Heap}{es:Array (Int × Value)}{ks:List PyData}(x:Jf w h es ks)(k:∀ b o,h.get? b=some o->h'.get? b=some o):Jf w h' es ks :=
 ⟨x.1,fun i e he=>by
  obtain ⟨d,as,h1,h2,h3⟩:=x.2 i e he
  exact ⟨d,as,h1,PyProof.Rows.Reads.keeps k h2,h3⟩⟩
theorem Rf.at{hE hE' h h':Heap}{a:Addr}{b:Bool}{ks:List PyData}(x:Rf w hE h a b ks)(kE:∀ b o,hE.get? b=some o->hE'.get? b=some o)(k:∀ o,h.get? a=some o->h'.get? a=some o):Rf w hE' h' a b ks:=by
 obtain ⟨o,es,ep,t,ho,hex,hd,hes,r⟩:=x
 exact ⟨o,es,ep,t,k _ ho,hex,hd,hes.keeps kE,r⟩
end
end
end PySem
end
section
namespace PySem
open Sem (wp)
section
section
variable {prog:Program} {w:World} {A:Around} {E:Value->Shared->Prop} {s:Shared}
end
section
variable {prog:Program} {w:World} {A:Around} {R:Result->Shared->Prop} {I:Addr} {fp wr:List Addr} {G:Array GenState->Array GenState->Prop} {n:Nat} {P:Nat->Value->Prop} {St:Nat->Shared->Prop}
end
section
variable {prog:Program} {w:World} {A:Around} {E:Value->Shared->Prop} {s:Shared}
end
end
section
section
variable {prog:Program} {w:World} {A:Around} {E:Value->Shared->Prop} {s:Shared}
end
end
end PySem
end
section
namespace L2.Q3
open PySem PySem.Spec PyProof.Rows
section
def Tc(d:D):Bool:=nk d && d.canLay0 && decide (d.depth <= 6) && (match d with | .tuple _=>true | _=>false)
section
variable {X:Cx} {pins:List (Addr × Obj)} {σ:St} {H:Hp} {s:Shared} {Fz:Addr->Prop}
end
section
variable {X:Cx}
end
end
section
section
variable {X:Cx} {a b:Expr} {fa fb:Fe} {pos:Pos} {o i:Expr} {td ty:TE}
end
end
section
structure Ub (K:PySem.W.Frag) (D:Addr) (Fz:Addr->Prop) (H:Hp) (acc:List (Q3.D × Q3.D)) (xs:List (PyData × Addr × Value)) (us:List V):Prop where
 at_:H D=some (.dN xs)
 ks:xs.map (·.1)=acc.map (·.1)
 dk:aD K Fz H (xs.map fun x=>V.ref x.2.1) (acc.map (·.1))
 vv:Vals us (xs.map (·.2.2))
 dv:aD K Fz H us (acc.map (·.2))
 nf:¬ Fz D
 kb:∀ p ∈ acc,Tc p.1=true
 nd:(xs.map (·.1)).Nodup
section
variable {K:PySem.W.Frag} {D:Addr} {Fz:Addr->Prop} {H:Hp}
end
end
end L2.Q3
end
section
namespace PySem
open Sem (wp)
section
section
variable {prog:Program} {w:World} {A:Around} {R:Result->Shared->Prop} {E:Value->Shared->Prop} {s:Shared}
end
end
end PySem
end
section
namespace L2
open PySem PySem.Spec PyProof.Rows
section
def HZ(w:World)(h:Heap)(S:Addr)(b:Bool)(acc:List (V × PyData)):Prop:=∃ ks,OU w (fun v d=>∃ p ∈ acc,RelV p.1 v /\ p.2=d) h S b ks /\ ks.Perm (acc.map (·.2))
theorem HZ.at{w:World}{h h':Heap}{S:Addr}{b:Bool}{acc:List (V × PyData)}(x:HZ w h S b acc)(k:∀ o,h.get? S=some o->h'.get? S=some o):HZ w h' S b acc:=by
 obtain ⟨ks,⟨o,es,ep,t,ho,r⟩,hp⟩:=x
 exact ⟨ks,⟨o,es,ep,t,k o ho,r⟩,hp⟩
section
variable {X:Cx}
end
end
end L2
end
section
namespace L2.Q3
open PySem PySem.Spec PyProof.Rows
section
variable {K:PySem.W.Frag} {fi:Fi} {fg:Fg} {ft:Ft} {fe:Fe} {vs:List Nat} {σ:St} {H:Hp} {Q:VK}
end
section
variable {X:Cx} {elt tg iter:Expr} {ifs:List Expr} {scope:Scope} {own:List (Str × Nat)} {fi:Fi} {fg:Fg} {ft:Ft} {fe:Fe} {vs:List Nat}
end
end L2.Q3
namespace L2.Q3
open PySem
end L2.Q3
end
section
namespace L2.Q3
open PySem PySem.Spec PyProof.Rows
section
section
variable {K:PySem.W.Frag} {fi:Fi} {fg:Fg} {ft:Ft} {fk fv:Fe} {vs:List Nat} {σ:St} {H:Hp} {Q:VK}
end
section
variable {X:Cx} {kx vx tg iter:Expr} {ifs:List Expr} {scope:Scope} {own:List (Str × Nat)} {fi:Fi} {fg:Fg} {ft:Ft} {fk fv:Fe} {vs:List Nat} {fix:Nat->Bool}
end
end
section
structure Ud (K:PySem.W.Frag) (D:Addr) (Fz:Addr->Prop) (H:Hp) (ks:List Str) (ds:List Q3.D) (us:List V):Prop where
 at_:H D=some (.dK (kz ks us))
 ln:ks.length=us.length
 dv:aD K Fz H us ds
 nf:¬ Fz D
section
variable {K:PySem.W.Frag} {fi:Fi} {fg:Fg} {ft:Ft} {fk fv:Fe} {vs:List Nat} {σ:St} {H:Hp} {Q:VK}
end
section
variable {X:Cx} {kx vx tg iter:Expr} {ifs:List Expr} {scope:Scope} {own:List (Str × Nat)} {fi:Fi} {fg:Fg} {ft:Ft} {fk fv:Fe} {vs:List Nat} {fix:Nat->Bool}
end
end
section
section
variable {K:PySem.W.Frag} {Fz Fz1:Addr->Prop} {ρ ρ1:Rho} {σ:St} {H H1:Hp} {ws:List W} {vs:List V}
end
section
variable {X:Cx} {fix:Nat->Bool} {pos pos':Pos} {e o i:Expr} {fe fo fi:Fe}
end
end
end L2.Q3
end
section
namespace PySem
open Sem (wp)
section
theorem OU.at{w:World}{El:Value->PyData->Prop}{h h':Heap}{a:Addr}{b:Bool}{ks:List PyData}(x:OU w El h a b ks)(k:∀ o,h.get? a=some o->h'.get? a=some o):OU w El h' a b ks:=by
 obtain ⟨o,es,ep,t,ho,r⟩:=x
 exact ⟨o,es,ep,t,k _ ho,r⟩
section
variable {prog:Program} {w:World} {A:Around} {E:Value->Shared->Prop} {s:Shared}
end
section
variable {prog:Program} {w:World} {A:Around} {R:Result->Shared->Prop} {I:Addr} {fp wr:List Addr} {G:Array GenState->Array GenState->Prop} {n:Nat} {P:Nat->Value->Prop} {St:Nat->Shared->Prop}
end
section
variable {prog:Program} {w:World} {A:Around} {E:Value->Shared->Prop} {s:Shared}
end
end
end PySem
end
section
namespace PySem
open Sem (wp)
open SetTable (Probe bits runEnd leap turns)
section
section
variable {prog:Program} {w:World} {A:Around} {E:Value->Shared->Prop} {s:Shared}
end
end
end PySem
end
section
namespace L2.Q3
open PySem PySem.Spec PyProof.Rows
section
section
variable {K:PySem.W.Frag} {Fz:Addr->Prop} {H:Hp}
end
section
variable {X:Cx} {pins:List (Addr × Obj)} {σ:St} {H:Hp} {s:Shared} {Fz:Addr->Prop}
end
section
variable {X:Cx}
end
section
variable {X:Cx}
end
end
section
structure Uk (K:PySem.W.Frag) (mg:Str->Option Value) (c:Str) (C:Addr) (qual:Str) (st:Stmt):Prop where
 ex:∃ f fd,Fun K "__init__" qual st f fd /\ Mk K C f
 mg:mg c=some (.ref C)
end
end L2.Q3
end
section
namespace PySem
open Sem (wp)
section
section
variable {prog:Program} {w:World} {A:Around} {E:Value->Shared->Prop} {s:Shared}
end
section
variable {prog:Program} {w:World} {A:Around} {R:Result->Shared->Prop} {I:Addr} {fp wr:List Addr} {G:Array GenState->Array GenState->Prop} {n:Nat} {P:Nat->Value->Prop} {St:Nat->Shared->Prop}
end
section
variable {prog:Program} {w:World} {A:Around} {E:Value->Shared->Prop} {s:Shared}
end
end
section
section
variable {prog:Program} {w:World} {A:Around} {E:Value->Shared->Prop} {s:Shared}
end
section
variable {prog:Program} {w:World} {A:Around}
end
section
variable {prog:Program} {w:World} {A:Around} {E:Value->Shared->Prop} {s:Shared}
end
end
end PySem
end
section
namespace PySem
open Sem (wp)
open PySem.W PySem.Calls PyProof.Rows PySem.Spec
section
variable {prog:Program} {w:World} {A:Around} {E:Value->Shared->Prop} {s:Shared}
end
end PySem
namespace L2.Q3
open PySem PySem.Spec PyProof.Rows
section
variable {X:Cx}
end
end L2.Q3
end
section
namespace L2.Q3
open PySem PySem.Spec PyProof.Rows
section
section
variable {X:Cx}
end
section
variable {X:Cx}
end
end
end L2.Q3
end
section
namespace L2.Q3
section
open PySem PySem.Spec PyProof.Rows
end
end L2.Q3
end
section
namespace L2.Q3
open PySem PySem.Spec PyProof.Rows
section
section order
variable {sh:Nat->Bool}
end order
end
end L2.Q3
end
section
namespace L2.Q3
section
open PySem PySem.Spec PyProof.Rows
end
end L2.Q3
end
section
namespace L2
open PySem PySem.Spec PyProof.Rows
section
variable {X:Cx} {pins:List (Addr × Obj)} {σ:St} {A:Around} {ns:List Int} {H:Hp} {a S It:Addr} {R:Result->Shared->Prop} {d:Value}
end
section
variable {X:Cx}
end
end L2
namespace L2.Q3
open PySem PySem.Spec PyProof.Rows
end L2.Q3
end
section
namespace L2
open PySem PySem.Spec PyProof.Rows
section
section
variable {prog:Program} {w:World} {A:Around} {E:Value->Shared->Prop} {s:Shared}
end
abbrev TI2:=V × List Int
section
variable {X:Cx} {pins:List (Addr × Obj)} {σ:St} {A:Around} {T:List TI2} {H:Hp} {a S It:Addr} {R:Result->Shared->Prop}
end
end
end L2
end
section
namespace L2
open PySem PySem.Spec PyProof.Rows
end L2
namespace L2.Q3
open PySem PySem.Spec PyProof.Rows
end L2.Q3
end
section
namespace L2
open PySem PySem.Spec PyProof.Rows
section
abbrev GC2:=Hp->V->Hp->(Hp->Prop)->Prop
def gY2(Xg:Cx)(pa:Addr × Obj)(C:GC2):Protocol:=fun _ s₀ v s kap =>
 ∃ (H0:Hp) (pins₀:List (Addr × Obj)) (σ₀:St),Inv Xg pins₀ σ₀ H0 s₀ /\ ∃ (pins:List (Addr × Obj)) (σ':St) (fpA:List Addr) (Stt:Heap->Prop) (y:V) (H4:Hp) (Nx:Hp->Prop),GS Xg pa pins σ' fpA Stt H4 s /\ RelV y v /\ C H0 y H4 Nx /\
  ∀ (s'':Shared) (H5:Hp),GS Xg pa pins σ' fpA Stt H5 s''->Nx H5->kap (.send .none) s''
def gP2(Xg:Cx)(pa:Addr × Obj)(Qe:Hp->Hp->Prop):Nat->Shared->Shared->Prop:=fun _ s₀ s₁=>∃ (H0:Hp) (pins₀:List (Addr × Obj)) (σ₀:St),Inv Xg pins₀ σ₀ H0 s₀ /\ ∃ pins σ' H,pa ∈ pins /\ Inv Xg pins σ' H s₁ /\ Qe H0 H
section
variable {Xg:Cx} {pa:Addr × Obj} {pins:List (Addr × Obj)} {σ':St} {fpA:List Addr} {Stt:Heap->Prop} {H:Hp} {s:Shared} {g:Nat} {C:GC2} {Qe:Hp->Hp->Prop} {A:Around}
end
section
variable {P:Program} {w:World} {Xi:Cx} {A1:Around} {c:Code} {genv:Env} {pa:Addr × Obj} {elt tg:Expr} {ifs:List Expr} {it:Addr} {ip:Pos} {J:It} {fp:List Addr} {tn:Nat->Heap->Prop} {T0:Sem Fin} {hx:Value->Sem Unit}
 {g:TG} {tt:TT} {te:TE} {vs:List Nat} {σ:St} {C:GC2} {Qe:Hp->Hp->Prop} {W:Hp->Nat->Nat->Hp->Prop} {pins0:List (Addr × Obj)}
end
section
variable {X:Cx} {pins:List (Addr × Obj)} {σ:St} {elt tg iter:Expr} {ifs:List Expr} {scope:Scope} {gpos:Pos} {vs:List Nat} {g:TG} {tt:TT} {te:TE} {k:Nat}
end
section
variable {X:Cx} {pins:List (Addr × Obj)} {σ:St} {e tg:Expr} {scope:Scope} {own:List (Str × Nat)} {k:Nat} {Rdy:It->GC2->(Hp->Hp->Prop)->Hp->Prop} {R:It->Hp->Prop} {A1:Around} {v:Value} {s5:Shared}
structure Tg (X:Cx) (pins:List (Addr × Obj)) (σ:St) (vs:List Nat) (Rdy:It->GC2->(Hp->Hp->Prop)->Hp->Prop) (A1:Around) (s5:Shared) (a:Addr) (go:Obj) (g:Nat) (fp:List Addr) (Stt:Heap->Prop) (J:It) (H4:Hp) (Xg:Cx) (gs0:GenState):Prop where
 prog:Xg.prog=X.prog
 w:Xg.w=X.w
 gen:∀ h:Heap,h.get? a=some go->h.IsGen a g
 lt:g < Xg.s_0.gens.size
 gs:GS Xg (a,go) [(a,go)] (wipe σ vs) fp Stt H4 s5
 g0:s5.gens[g]? = some gs0
 asz:a + 1=s5.heap.objs.size
 fsz:∀ b ∈ fp,b < s5.heap.objs.size
 back:∀ pins' σ' H' s',Inv Xg pins' σ' H' s'->Inv X pins σ H' s'
 Ro:∀ C Qe H' s',GS Xg (a,go) [(a,go)] (wipe σ vs) fp Stt H' s'->Rdy J C Qe H'->∃ n,gs0.Goes (model X.prog X.w) A1 (gR (gP2 Xg (a,go) Qe)) (gY2 Xg (a,go) C) n (.send .none) s'
end
end
section
section
variable {X:Cx} {pins:List (Addr × Obj)} {σ:St} {e tg:Expr} {scope:Scope} {own:List (Str × Nat)} {k:Nat} {Rdy:It->GC2->(Hp->Hp->Prop)->Hp->Prop} {v:Value} {s5:Shared}
end
end
end L2
end
section
namespace L2.Q3
open PySem PySem.Spec PyProof.Rows
section
section
variable {K:PySem.W.Frag} {HB:Hp} {S:Addr} {vs:List Nat} {σ:St} {Fz1:Addr->Prop} {ρ1:Rho} {H1:Hp} {J:It} {items:List D} {fg:Fg} {ft:Ft} {fe:Fe}
end
section
variable {K:PySem.W.Frag} {fi:Fi} {fg:Fg} {ft:Ft} {fe:Fe} {vs:List Nat} {σ:St} {H:Hp} {Q:VK}
end
section
variable {X:Cx} {elt tg iter:Expr} {ifs:List Expr} {scope:Scope} {own:List (Str × Nat)} {vs:List Nat} {pos gpos p:Pos} {fi:Fi} {fg:Fg} {ft:Ft} {fe:Fe} {k:Nat}
end
end
end L2.Q3
end
section
namespace L2
open PySem PySem.Spec PyProof.Rows
end L2
namespace L2.Q3
open PySem PySem.Spec PyProof.Rows
section
variable {X:Cx}
end
end L2.Q3
end
section
namespace PySem
open Sem (wp)
section
variable {prog:Program} {w:World} {A:Around} {E:Value->Shared->Prop} {s:Shared}
end
end PySem
namespace L2.Q3
open PySem PySem.Spec PyProof.Rows
section
variable {X:Cx}
end
end L2.Q3
end
section
namespace PySem
open Sem (wp)
open PySem.W PySem.Calls PyProof.Rows PySem.Spec
section
section
variable {prog:Program} {w:World} {A:Around}
end
section
variable {prog:Program} {w:World} {A:Around} {E:Value->Shared->Prop} {s:Shared}
end
end
end PySem
end
section
namespace L2.Q3
open PySem PySem.Spec PyProof.Rows PySem.W PySem.Calls
section
section
variable {X:Cx}
end
end
end L2.Q3
end
section
namespace PySem.SeqAt
open PySem PyProof.Rows PySem.MeetsSeq
end PySem.SeqAt
namespace L2.Q3
open PySem PySem.Spec PyProof.Rows
end L2.Q3
end
section
namespace L2.Q3.Tx
section
open PySem PySem.Spec PyProof.Rows
end
section
open PySem PySem.Spec PyProof.Rows
end
section
open PySem PySem.Spec PyProof.Rows
end
section
open PySem PySem.Spec PyProof.Rows
end
section
open PySem PySem.Spec PyProof.Rows
end
section
open PySem PySem.Spec PyProof.Rows
end
section
open PySem PySem.Spec PyProof.Rows
end
end L2.Q3.Tx
end
section
namespace L2
open PySem PySem.Spec PyProof.Rows
section
variable {X:Cx} {a b:Expr} {rest:List Expr} {pos:Pos} {ta tb:TE}
end
end L2
namespace L2.Q3
open PySem PySem.Spec PyProof.Rows
end L2.Q3
end
section
namespace L2.Q3.Tx
section
open PySem PySem.Spec PyProof.Rows
end
end L2.Q3.Tx
end
section
namespace PySem.SeqAt
open MeetsSeq
section
variable {A:Around} {s:Shared} {l:Addr} {dd:Option Addr} {es:Array DictEntry} {k:Nat} {sl:Array (Option Value)}
end
end PySem.SeqAt
namespace L2
open PySem PySem.Spec PyProof.Rows
section
variable {X:Cx}
end
end L2
end
section
namespace L2
open PySem PySem.Spec PyProof.Rows
section
variable {X:Cx}
end
end L2
namespace L2.Q3
open PySem PySem.Spec PyProof.Rows
end L2.Q3
end
section
namespace L2.Q3.Tx
section
open PySem PySem.Spec PyProof.Rows
end
section
open PySem PySem.Spec PyProof.Rows
end
end L2.Q3.Tx
end
section
namespace L2.Q3
open PySem PySem.Spec PyProof.Rows
section
def FF:D->Option Str
 | .int i=>if i.natAbs.log2 < 1920 then some (toString i) else none
 | .str s=>if s.length <= 10000000 then some s else none
 | _=>none
theorem empty_app(a:Str):Str.empty ++ a=a:=by
 show (⟨#[] ++ a.cps⟩:Str)=a
 simp
theorem len_app(a b:Str):(a ++ b).length=a.length + b.length:=Array.size_append ..
theorem L4 {X : Cx} {pins : List (Addr × Obj)} {σ : St} {H : Hp} {s : Shared} {x : D} {v : V} {u : Value} {t : Str} {A : Around} {E : Value -> Shared -> Prop} {Q : Value -> Shared -> Prop} (I : Inv X pins σ H s) (ru : RelV v u) (e : FF x = some t)
    (hx:(∃ i,x = .int i /\ v = .int i) \/ ∃ y,x = .str y /\ v = .str y)
    (hq:∀ tk s',Inv X pins σ H s'->Q (.str t tk) s'):wpAny (model X.prog X.w) A (formatField u Str.empty) Q E s:=by
 rcases hx with ⟨i,rfl,rfl⟩ | ⟨y,rfl,rfl⟩
 . obtain ⟨tk,rfl⟩:=ru
   have e:(if i.natAbs.log2 < 1920 then some (Str.ofString (toString i)) else none)=some t:=e
   obtain ⟨hl,rfl⟩:=bc e
   exact wpAny_formatField_int hl (hq _ _ (I.tok _))
 . obtain ⟨tk,rfl⟩:=ru
   have e:(if y.length <= 10000000 then some y else none)=some t:=e
   obtain ⟨hl,rfl⟩:=bc e
   exact wpAny_formatField_str (hq _ _ I) (hq _ _ (I.tok _)) (by rw [sizeLine_eq];omega)
theorem Gg{K:PySem.W.Frag}{Fz:Addr->Prop}{H:Hp}{x:D}{v:V}{t:Str}(h:Dr K Fz H v x)(e:FF x=some t):(∃ i,x = .int i /\ v = .int i) \/ ∃ y,x = .str y /\ v = .str y:=by
 cases x with
 | int i=>cases h;exact .inl ⟨i,rfl,rfl⟩
 | str y=>cases h;exact .inr ⟨y,rfl,rfl⟩
 | _=>cases e
theorem IJ{x:D}{t:Str}(e:FF x=some t):t.length <= 10000000:=by
 cases x with
 | int i =>
  have e:(if i.natAbs.log2 < 1920 then some (Str.ofString (toString i)) else none)=some t:=e
  obtain ⟨hl,rfl⟩:=bc e
  have e:=int_text_length_le (k:=1920) (by decide) hl
  rw [PySem.ofString_length];omega
 | str y =>
  have e:(if y.length <= 10000000 then some y else none)=some t:=e
  obtain ⟨hl,rfl⟩:=bc e
  exact hl
 | _=>cases e
end
end L2.Q3
end
section
namespace L2
open PySem PySem.Spec PyProof.Rows
section
section
variable {X:Cx} {pins:List (Addr × Obj)} {σ:St} {e tg:Expr} {scope:Scope} {own:List (Str × Nat)} {k:Nat} {Rdy:It->GC->(Hp->Prop)->Hp->Prop} {v:Value} {s5:Shared}
end
end
end L2
end
section
namespace L2
open PySem PySem.Spec PyProof.Rows Builtin.Str
section
variable {X:Cx} {pins:List (Addr × Obj)} {σ:St} {e tg:Expr} {scope:Scope} {own:List (Str × Nat)} {k:Nat} {Rdy:It->GC->(Hp->Prop)->Hp->Prop} {v:Value} {s5:Shared}
end
end L2
namespace L2.Q3
open PySem PySem.Spec PyProof.Rows
section
variable {K:PySem.W.Frag} {fi:Fi} {fg:Fg} {ft:Ft} {fe:Fe} {vs:List Nat} {σ:St} {H:Hp} {Q:VK}
end
section
variable {X:Cx} {elt tg iter:Expr} {ifs:List Expr} {scope:Scope} {own:List (Str × Nat)} {vs:List Nat} {cpos gpos apos p0:Pos} {fi:Fi} {fg:Fg} {ft:Ft} {fe:Fe} {k:Nat} {x:Str} {kk:Nat}
end
end L2.Q3
end
section
namespace L2.Q3.Tx
section
open PySem PySem.Spec PyProof.Rows
end
section
open PySem PySem.Spec PyProof.Rows
end
section
open PySem PySem.Spec PyProof.Rows
end
section
open PySem PySem.Spec PyProof.Rows
end
section
open PySem PySem.Spec PyProof.Rows
end
section
open PySem PySem.Spec PyProof.Rows
end
section
open PySem PySem.Spec PyProof.Rows
end
end L2.Q3.Tx
end
section
namespace L2.Q3
open PySem PySem.Spec PyProof.Rows
section
variable {K:PySem.W.Frag} {Fz:Addr->Prop} {H:Hp}
end
end L2.Q3
end
section
namespace L2.Q3
section
open PySem PySem.Spec PyProof.Rows
end
end L2.Q3
end
section
namespace L2.Q3
open PySem PySem.Spec PyProof.Rows
section
section
variable {X:Cx} {fix:Nat->Bool} {tg:Expr} {body:List Stmt} {fg:Fg} {fb:Fs} {pos p:Pos}
end
end
end L2.Q3
end
section
namespace L2.Q3.Tx
section
open PySem PySem.Spec PyProof.Rows
end
end L2.Q3.Tx
end
section
namespace PySem.SeqAt
open AutoSeq1 (wpAny_loadPart')
open MeetsSeq MeetsSeq2 MeetsSeq3 SeqRoads2
end PySem.SeqAt
namespace L2.Q3
open PySem PySem.Spec PyProof.Rows
section
variable {X:Cx} {pins:List (Addr × Obj)} {σ:St} {H:Hp} {s:Shared} {a:Addr} {xs:List V} {x:V} {v:Value}
variable {o e:Expr} {es:List Expr} {to:TE} {t:TA} {name:Str} {apos cpos:Pos} {id:String} {r:V->List V->Hp->VK->Prop}
end
section
variable {X:Cx} {o:Expr} {fo:Fe} {fa:Fa} {r:V->List V->Hp->VK->Prop} {g:List D->Option W}
end
end L2.Q3
end
section
namespace L2.Q3
open PySem PySem.Spec PyProof.Rows
section
variable {K:PySem.W.Frag} {Fz:Addr->Prop} {H:Hp}
section
variable {X:Cx} {ks vs:List Str} {keys:List (Option Expr)} {values:List Expr} {pos pos' apos cpos:Pos} {e d:Expr} {fe fd:Fe}
end
end
end L2.Q3
end
section
namespace L2.Q3
section
open PySem PySem.Spec PyProof.Rows
end
end L2.Q3
end
section
namespace L2.Q3.Tx
section
open PySem PySem.Spec PyProof.Rows
end
end L2.Q3.Tx
end
section
namespace PySem
open Sem (wp)
open SetTable (Probe bits runEnd leap turns)
section
section
variable {prog:Program} {w:World} {A:Around} {E:Value->Shared->Prop} {s:Shared}
end
end
end PySem
end
section
namespace L2.Q3
open PySem PySem.Spec PyProof.Rows
section
section
variable {X:Cx}
end
end
section
section
variable {X:Cx}
end
end
end L2.Q3
end
section
namespace L2.Q3.Tx
section
open PySem PySem.Spec PyProof.Rows
end
end L2.Q3.Tx
end
section
namespace PySem
namespace F
end F
section
variable {prog:Program} {w:World} {A:Around} {E:Value->Shared->Prop} {s:Shared}
def Heap.MT(h:Heap)(a l:Addr)(i:Int):Prop:=∃ o,h.get? a=some o /\ o.cls = .type "reversed" /\ o.data = .fields #[.ref l,rawInt i]
theorem Heap.MT.at{h h':Heap}{a l:Addr}{i:Int}(x:h.MT a l i)(e:∀ o,h.get? a=some o->h'.get? a=some o):h'.MT a l i:=let ⟨o,ho,r⟩:=x;⟨o,e _ ho,r⟩
end
end PySem
end
section
namespace L2.Q3
open PySem PySem.Spec PyProof.Rows
section
section
variable {X:Cx}
end
end
end L2.Q3
end
section
namespace PySem
open Builtin
end PySem
namespace L2
open PySem PySem.Spec PyProof.Rows
section
variable {X:Cx}
end
end L2
namespace L2.Q3
open PySem PySem.Spec PyProof.Rows
end L2.Q3
end
section
namespace L2
open PySem PySem.Spec PyProof.Rows
section
variable {X:Cx} {tg:Expr}
end
end L2
namespace L2.Q3
open PySem PySem.Spec PyProof.Rows
section
variable {X:Cx} {tg:Expr}
end
theorem wu.dfn{K:PySem.W.Frag}{mg:Str->Option Value}{x:Str}{st:Stmt}(d:wu K mg x st):Dfn K mg x st:=let ⟨f,fd,h1,h2,_⟩:=d.ex;⟨f,fd,h1,h2⟩
end L2.Q3
end
section
namespace L2.Q3
open PySem PySem.Spec PyProof.Rows
section
structure Fly (P:Program) (w:World) (outer:List Env) (s:Shared) (H:Hp) (a C:Addr) (B:Heap) (H':Hp) (s':Shared):Prop where
 os:s'.os=s.os
 gb:GB s.gens s'.gens
 un:Un (L2.frs outer) [] H H' s.heap s'.heap
 hok:HOk P w H' s'.heap
 fl:∃ a0,Heap.FlyingW B outer a (.ref C) a0 s'.heap
 old:∀ b o,s.heap.get? b=some o->b ∉ L2.frs outer->∃ o',B.get? b=some o'
 trk:∀ b u,H' b=some u->∃ o,B.get? b=some o
def CXB(P:Program)(w:World):CXT:=fun outer H s E e s'=>∃ (a C:Addr) (B:Heap) (H':Hp),e = .ref a /\ Fly P w outer s H a C B H' s' /\ E e (some C) H'
section
variable {P:Program} {w:World} {H H':Hp} {h0 h1 h2 B:Heap} {fs:List Addr}
theorem Ed (u : Un fs [] H H' h0 h1) (N : ∀ b o, h0.get? b = some o -> b ∉ fs -> ∃ o', B.get? b = some o') (s1 : B.StaysIn h1) (s2 : B.StaysIn h2) (up : h1.UpToSlots h2)
    (hf:∀ b ∈ fs,∀ o,h1.get? b=some o->∀ vs,o.data ≠ .fields vs):Un fs [] H H' h0 h2 where
 keep:=fun b o q n hb hx=>by
  obtain ⟨o',e⟩:=N b o q hb
  have e1:=u.keep b o q n hb hx
  rw [s1 b o' e] at e1
  cases e1
  exact s2 b _ e
 slot:=fun b o q n hb hx=>by
  obtain ⟨sl,e1⟩:=u.slot b o q n hb hx
  obtain ⟨sl',e2⟩:=up b _ e1 (hf b hb _ e1)
  exact ⟨sl',e2⟩
 free:=u.free
 there:=fun b o q hx=>by
  obtain ⟨o1,e1⟩:=u.there b o q hx
  by_cases hb:b ∈ fs
  . obtain ⟨sl,e2⟩:=up b _ e1 (hf b hb _ e1)
    exact ⟨_,e2⟩
  . obtain ⟨o',e⟩:=N b o q hb
    exact ⟨o',s2 b o' e⟩
 wL:=u.wL
 vt:=u.vt
 uH:=u.uH
theorem yE(ok:HOk P w H' h1)(tr:∀ b u,H' b=some u->∃ o,B.get? b=some o)(s1:B.StaysIn h1)(s2:B.StaysIn h2):HOk P w H' h2:=fun a o e=>by
 refine (ok a o e).xy (fun b u hb hu=>?_) (fun _ e=>e) (fun _ _ e=>e) fun _ _ e=>e
 have ht:∃ v,H' b=some v:=by
  rcases hb with rfl | hb
  . exact ⟨_,e⟩
  . exact ⟨_,hb⟩
 obtain ⟨v,hv⟩:=ht
 obtain ⟨o',e'⟩:=tr b v hv
 rw [s1 b o' e'] at hu
 cases hu
 exact s2 b _ e'
end
theorem _root_.L2.cB.there{P:Program}{w:World}{H:Hp}{h:Heap}{a:Addr}{o:HO}(x:cB P w H h a o):∃ u,h.get? a=some u:=by
 cases o with
 | lst xs=>obtain ⟨_,_,_,_,e⟩:=x;exact ⟨_,e⟩
 | tup xs=>obtain ⟨_,_,_,_,e,_⟩:=x;exact ⟨_,e⟩
 | dK kvs=>obtain ⟨_,_,_,_,o,_,_,e,_⟩:=x;exact ⟨_,e⟩
 | dT kvs=>obtain ⟨_,_,_,_,o,_,_,e,_⟩:=x;exact ⟨_,e⟩
 | dN xs=>obtain ⟨_,_,o,_,_,e,_⟩:=x;exact ⟨_,e⟩
 | set S n=>obtain ⟨o,_,_,_,e,_⟩:=x;exact ⟨_,e⟩
 | ins C dx fs=>obtain ⟨_,_,_,e,_⟩:=x;exact ⟨_,e⟩
 | own y=>exact x
 | xd fs=>obtain ⟨_,⟨_,_,_,e,_⟩,_⟩:=x;exact ⟨_,e⟩
 | rng lo hi=>obtain ⟨_,_,_,e⟩:=x;exact ⟨_,e⟩
 | frz ob u=>obtain ⟨e,_⟩:=x;exact ⟨_,e⟩
 | tbl ps=>obtain ⟨_,e,_⟩:=x;exact ⟨_,e⟩
 | met f x'=>exact ⟨_,x⟩
 | ext φ=>exact x.2.1
 | exw φ=>exact x.2.1
section
variable {X:Cx} {pins:List (Addr × Obj)} {σ:St} {H:Hp} {s:Shared}
theorem wX(I:Inv X pins σ H s){b:Addr}{o:Obj}(e:X.s_0.heap.get? b=some o)(hb:b ∉ X.fs):b ∉ L2.frs X.stack:=fun z=>by
 rcases List.mem_cons.mp (I.tW b z) with r | r
 . have h1:=Heap.lt_size e
   rw [r] at h1
   exact absurd h1 (Nat.not_lt.mpr I.ok.above)
 . exact hb r
theorem Ai(f:s.heap.FunFrames X.base X.stack){b:Addr}(hb:b ∈ L2.frs X.stack):∀ o,s.heap.get? b=some o->∀ vs,o.data ≠ .fields vs:=fun o e=>by
 obtain ⟨_,o',e',h⟩:=f.mem hb
 rw [e] at e';cases e'
 exact h
structure XW (X:Cx) (E:XK):Prop where
 made:∀ (pins:List (Addr × Obj)) (σ:St) (H:Hp) (s:Shared) (h':Heap) (a C:Addr) (vs:List Value),Inv X pins σ H s->Heap.MadeExcOf s.heap h' a (.ref C) vs->E (.ref a) (some C) H->X.xe (.ref a) { s with heap:=h' }
 pass:Passes (CXB X.prog X.w) X E
theorem N7 {P : Program} {w : World} {K : PySem.W.Frag} {mg : Str -> Option Value} {base : Heap} {N : List Str} {qual : Str} {scope : Scope} {f : Addr} {cd : Value} {A : Around} {outer : List Env} {s0 : Shared} {H0 : Hp} {E : XK} :
    XW (ja (CXB P w) P w K mg base N qual scope f cd A outer s0 H0 E) E where
 made:=fun pins σ H s h' a C vs I hx hE=>by
  have hst:L2.frs (ja (CXB P w) P w K mg base N qual scope f cd A outer s0 H0 E).stack=(ja (CXB P w) P w K mg base N qual scope f cd A outer s0 H0 E).stack.filterMap (·.frame):=rfl
  have hl:=I.stack
  have hof:∀ b o,(PySem.W.hideAll s.heap (L2.frs (ja (CXB P w) P w K mg base N qual scope f cd A outer s0 H0 E).stack)).get? b=some o->s.heap.get? b=some o:=fun b o q=>PySem.W.of_hideAll _ q
  obtain ⟨L,hf⟩:∃ L,(envOfC qual scope s0.heap.objs.size f cd).frame=some L:=⟨_,rfl⟩
  refine wpAny_leaves_madeW (base:=PySem.W.hideAll s.heap (L2.frs (ja (CXB P w) P w K mg base N qual scope f cd A outer s0 H0 E).stack)) (h:=s.heap) I.ok.frames hf hof (PySem.W.funFrames_hide hl fun env he b hb=>List.mem_filterMap.mpr ⟨env,he,hb⟩) hx fun h'' t x1 x2 x3 x4=>?_
  have s1:(PySem.W.hideAll s.heap (L2.frs (ja (CXB P w) P w K mg base N qual scope f cd A outer s0 H0 E).stack)).StaysIn h':=fun b o q=>hx.keeps b o (hof b o q)
  have trk:∀ b u,H b=some u->∃ o,(PySem.W.hideAll s.heap (L2.frs (ja (CXB P w) P w K mg base N qual scope f cd A outer s0 H0 E).stack)).get? b=some o:=fun b u e=>by
   obtain ⟨o,ho⟩:=(I.hok b u e).there
   exact ⟨o,PySem.W.hideAll_get _ ho fun z=>by rw [I.uO b z] at e;cases e⟩
  have old:∀ b o,s0.heap.get? b=some o->b ∉ L2.frs outer->∃ o',(PySem.W.hideAll s.heap (L2.frs (ja (CXB P w) P w K mg base N qual scope f cd A outer s0 H0 E).stack)).get? b=some o':=fun b o q hb=>by
   obtain ⟨o1,e1⟩:=I.base.there b o q (by simp [ja])
   exact ⟨o1,PySem.W.hideAll_get _ e1 (wX I q hb)⟩
  have u1:Un (L2.frs outer) [] H0 H s0.heap h':=I.base.trans (Un.kept hx.keeps)
  refine ⟨a,C,_,H,rfl,⟨I.os,I.bare,?_,?_,⟨_,x1⟩,old,trk⟩,hE⟩
  . refine Ed u1 old s1 x1.1 x4 fun b hb o ho=>?_
    have hb':b ∈ L2.frs (ja (CXB P w) P w K mg base N qual scope f cd A outer s0 H0 E).stack:=by
     unfold L2.frs at hb ⊢
     rw [show (ja (CXB P w) P w K mg base N qual scope f cd A outer s0 H0 E).stack=envOfC qual scope s0.heap.objs.size f cd :: outer from rfl,List.filterMap_cons,hf]
     exact List.mem_cons_of_mem _ hb
    obtain ⟨_,o1,e1,h1⟩:=hl.mem hb'
    rw [hx.keeps b o1 e1] at ho
    cases ho
    exact h1
  . exact yE (I.hok.kept hx.keeps) trk s1 x1.1
 pass:=fun pins σ H s e s' I hc=>by
  obtain ⟨a,C,B,H',rfl,F,hE⟩:=hc
  obtain ⟨a0,hfl⟩:=F.fl
  obtain ⟨L,hf⟩:∃ L,(envOfC qual scope s0.heap.objs.size f cd).frame=some L:=⟨_,rfl⟩
  refine wpAny_leaves_onW I.ok.frames hf hfl fun h' x1 x2=>?_
  have J:=I.yM (ch:=[]) F.os F.un F.hok F.gb fun b z=>absurd z (by simp)
  have old:∀ b o,s0.heap.get? b=some o->b ∉ L2.frs outer->∃ o',B.get? b=some o':=fun b o q hb=>by
   obtain ⟨o1,e1⟩:=I.base.there b o q (by simp [ja])
   exact F.old b o1 e1 (wX I q hb)
  refine ⟨a,C,B,H',rfl,⟨J.os,J.bare,?_,yE F.hok F.trk hfl.1 x1.1,⟨_,x1⟩,old,F.trk⟩,hE⟩
  refine Ed J.base old hfl.1 x1.1 x2 fun b hb o ho=>?_
  have hb':b ∈ L2.frs (ja (CXB P w) P w K mg base N qual scope f cd A outer s0 H0 E).stack:=by
   have hb:b ∈ L2.frs outer:=hb
   unfold L2.frs at hb ⊢
   rw [show (ja (CXB P w) P w K mg base N qual scope f cd A outer s0 H0 E).stack=envOfC qual scope s0.heap.objs.size f cd :: outer from rfl,List.filterMap_cons,hf]
   exact List.mem_cons_of_mem _ hb
  exact Ai J.stack hb' o ho
end
end
section
def XW1(X:Cx)(E:XK)(pins:List (Addr × Obj))(σ:St):Prop:=∀ (H:Hp) (s:Shared) (e:Value) (s':Shared),Inv X pins σ H s->CXB X.prog X.w X.stack H s E e s'->X.xe e s'
theorem XW.one{X:Cx}{E:XK}(h:XW X E)(pins:List (Addr × Obj))(σ:St):XW1 X E pins σ:=fun H s e s' I c=>h.pass pins σ H s e s' I c
def SD(K:PySem.W.Frag)(E:XK)(C:Addr)(Fz:Addr->Prop)(ρ ρ1:Rho)(σ:St)(H:Hp):Prop:=∀ (a:Value) (H':Hp) (Fz':Addr->Prop),(∀ fix,cX K fix Fz Fz' ρ ρ1 σ σ H H')->E a (some C) H'
def Wsh(E:XK)(C:Addr)(Fz:Addr->Prop)(ρ:Rho)(σ:St)(H:Hp):Prop:=∀ (a:Value) (H':Hp) (Fz':Addr->Prop),Step (OwO ρ σ) Fz Fz' H H'->E a (some C) H'
theorem Wsh.e{K:PySem.W.Frag}{E:XK}{C:Addr}{Fz:Addr->Prop}{ρ ρ1:Rho}{σ:St}{H:Hp}(h:Wsh E C Fz ρ σ H):SD K E C Fz ρ ρ1 σ H:=fun a H' Fz' z=>h a H' Fz' (z fun _=>false).step
theorem Wsh.next{K:PySem.W.Frag}{fix:Nat->Bool}{E:XK}{C:Addr}{Fz Fz1:Addr->Prop}{ρ ρ1:Rho}{σ σ1:St}{H H1:Hp}(h:Wsh E C Fz ρ σ H)(a:cX K fix Fz Fz1 ρ ρ1 σ σ1 H H1):Wsh E C Fz1 ρ1 σ1 H1:=fun e H' Fz' st=>h e H' Fz' (a.step.trans st a.oo)
structure RE (X:Cx) (C:Addr) (e:Expr) (b:Rho->Rho->Prop):Prop where
 ok:∀ (Z:Value->Shared->Prop) (E:XK) (pins:List (Addr × Obj)) (s:Shared) (σ:St) (H:Hp) (Fz:Addr->Prop) (ρ ρ1:Rho),XW1 (X.jY Z) E pins σ->Inv X pins σ H s->Rel X.K Fz ρ σ H->b ρ ρ1->SD X.K E C Fz ρ ρ1 σ H ->
  ∀ Q,wpAny (model X.prog X.w) X.A (eval e X.env) Q Z s
structure RS (X:Cx) (C:Addr) (st:Stmt) (b:Rho->Prop):Prop where
 ok:∀ (Z:Value->Shared->Prop) (E:XK),XW (X.jY Z) E->∀ (pins:List (Addr × Obj)) (s:Shared) (σ:St) (H:Hp) (Fz:Addr->Prop) (ρ:Rho),Inv X pins σ H s->Rel X.K Fz ρ σ H->b ρ->Wsh E C Fz ρ σ H ->
  ∀ Q,wpAny (model X.prog X.w) X.A (exec st X.env) Q Z s
structure RSs (X:Cx) (C:Addr) (sts:List Stmt) (b:Rho->Prop):Prop where
 ok:∀ (Z:Value->Shared->Prop) (E:XK),XW (X.jY Z) E->∀ (pins:List (Addr × Obj)) (s:Shared) (σ:St) (H:Hp) (Fz:Addr->Prop) (ρ:Rho),Inv X pins σ H s->Rel X.K Fz ρ σ H->b ρ->Wsh E C Fz ρ σ H ->
  ∀ Q,wpAny (model X.prog X.w) X.A (execs sts X.env) Q Z s
def bIf(t:Ft)(b:Rho->Prop):Rho->Prop:=fun ρ=>∃ ρ1,t ρ=some (true,ρ1) /\ b ρ1
def Nj(f:Fs)(b:Rho->Prop):Rho->Prop:=fun ρ=>∃ ρ1,f ρ=some (.nx,ρ1) /\ b ρ1
def bE(b:Rho->Rho->Prop):Rho->Prop:=fun ρ=>∃ ρ1,b ρ ρ1
def fY(B:List D->Prop)(fa:Fa):Rho->Rho->Prop:=fun ρ ρ1=>∃ ds:List D,fa ρ=some (ds.map W.d,ρ1) /\ B ds
section
variable {X:Cx} {C:Addr} {st:Stmt} {rest body orelse:List Stmt} {e test:Expr} {b:Rho->Prop} {be:Rho->Rho->Prop} {pos:Pos}
theorem en(h:RS X C st b):RSs X C (st :: rest) b:=⟨fun Z E hx pins s σ H Fz ρ I r hb hw Q=>wpAny_execs_cons (h.ok Z E hx pins s σ H Fz ρ I r hb hw _)⟩
theorem L1{fix:Nat->Bool}{fs:Fs}(h1:DS X.nox fix st fs)(h2:RSs X C rest b):RSs X C (st :: rest) (Nj fs b):=⟨fun Z E hx pins s σ H Fz ρ I r ⟨ρ1,e,hb⟩ hw Q=>by
 have h:=h1.ok pins s σ H { nx:=fun σ' H'=>∃ Fz',cX X.K fix Fz Fz' ρ ρ1 σ σ' H H',bk:=fun _ _=>False,ct:=fun _ _=>False,rt:=fun _ _=>False } (I.jY _) ⟨Fz,ρ,.nx,ρ1,r,e,fun σ' H' Fz' sp=>⟨Fz',sp⟩⟩
 refine wpAny_execs_cons (wpAny_mono h (fun f s1 q=>?_) fun _ _ z=>False.elim z)
 cases f with
 | next =>
  obtain ⟨σ',H',I',Fz',sp⟩:=q
  exact h2.ok Z E hx pins s1 σ' H' Fz' ρ1 I'.iX sp.rel hb (hw.next sp) Q
 | ret v=>obtain ⟨_,_,_,_,_,q⟩:=q;exact False.elim q
 | brk=>obtain ⟨_,_,_,q⟩:=q;exact False.elim q
 | cont=>obtain ⟨_,_,_,q⟩:=q;exact False.elim q⟩
theorem IH{ft:Ft}(hc:DT X.nox test ft)(hb:RSs X C body b):RS X C (.If test body orelse pos) (bIf ft b):=⟨fun Z E hx pins s σ H Fz ρ I r ⟨ρ1,e,hb'⟩ hw Q=>by
 have h:=hc.ok pins s σ H (fun d H'=>d=true /\ ∃ Fz',aP X.K Fz Fz' ρ ρ1 σ H H' [] []) (I.jY _) ⟨Fz,ρ,true,ρ1,r,e,fun H' Fz' p=>⟨rfl,Fz',p⟩⟩
 refine wpAny_If (wpAny_mono h (fun d s1 ⟨H1,I1,q1,Fz',p⟩=>?_) fun _ _ z=>False.elim z)
 subst q1
 have sp:cX X.K (fun _=>false) Fz Fz' ρ ρ1 σ σ H H1:=p.sp
 exact hb.ok Z E hx pins s1 σ H1 Fz' ρ1 I1.iX sp.rel hb' (hw.next sp) Q⟩
theorem yF(h:RE X C e be)(hs:swapsWith e none pos.line X.env=pure false:=by rfl):RS X C (.Expr e pos) (bE be):=⟨fun Z E hx pins s σ H Fz ρ I r ⟨ρ1,hb⟩ hw Q =>
 wpAny_Expr_any (h.ok Z E pins s σ H Fz ρ ρ1 (hx.one pins σ) I r hb hw.e _) I.quiet hs⟩
theorem L3(h:RE X C e be):RS X C (.Return (some e) pos) (bE be):=⟨fun Z E hx pins s σ H Fz ρ I r ⟨ρ1,hb⟩ hw Q =>
 wpAny_Return_some (h.ok Z E pins s σ H Fz ρ ρ1 (hx.one pins σ) I r hb hw.e _)⟩
end
end
section
def spB(K:PySem.W.Frag)(np:Nat)(C:Addr)(B:List D->Prop):Sp:=fun vs H _ E=>vs.length=np /\ ∃ (Fz:Addr->Prop) (ds:List D),uJ K Fz H (ds.map W.d) vs /\ B ds /\ ∀ (a:Value) (H':Hp) (Fz':Addr->Prop),Step (fun _=>False) Fz Fz' H H'->E a (some C) H'
structure fR (P:Program) (w:World) (K:PySem.W.Frag) (mg:Str->Option Value) (base:Heap) (k:Nat) (x:Str) (np:Nat) (C:Addr) (B:List D->Prop):Prop where
 ex:∃ f fd ps,jd P w K mg base (CXB P w) k f fd ps (spB K np C B) /\ mg x=some (.ref f) /\ PySem.W.keepIn K (.ref f)=true /\ Binds K fd ps []
theorem fR.mono{P:Program}{w:World}{K:PySem.W.Frag}{mg:Str->Option Value}{base:Heap}{j k:Nat}{x:Str}{np:Nat}{C:Addr}{B:List D->Prop}(c:fR P w K mg base j x np C B)(h:j <= k):fR P w K mg base k x np C B:=by
 obtain ⟨f,fd,ps,h1,h2⟩:=c.ex
 exact ⟨f,fd,ps,h1.mono h,h2⟩
def bOf(n:Nat)(b:Rho->Prop):List D->Prop:=fun ds=>b ((ds.map W.d).map some ++ List.replicate (n - ds.length) none)
section
variable {P:Program} {w:World} {K:PySem.W.Frag} {mg:Str->Option Value} {base:Heap} {C:Addr}
theorem QN{ds:List D}{vs:List V}{p:Addr}(h:yx (ds.map W.d) vs p):False:=by
 obtain ⟨k,xs,h1,_⟩:=h
 rw [List.getElem?_map] at h1
 cases e:ds[k]? with
 | none=>rw [e] at h1;cases h1
 | some d=>rw [e] at h1;cases h1
theorem jL {x : Str} {st : Stmt} {N ps : List Str} {k np : Nat} {bb : Rho -> Prop} (d : Dfn K mg x st) (S : aN N ps (ah st)) (hn : np <= N.length) (hnp : ps.length = np)
    (hb:∀ (kV doc pm:Value) (an:Option Addr) (cdv ct:Value) (us:List Value),us.length=ps.length->bindArgs (PySem.W.fnOf x x (aM st) (aG st) (ah st) .none kV doc pm an cdv ct) ⟨us,[]⟩=pure (ps.zip us))
    (hbody:∀ (f:Addr) (cdv:Value) (A:Around) (outer:List Env) (s:Shared) (H:Hp) (E:XK),bZ k (A.deeper (envOfC x (ah st) s.heap.objs.size f cdv)) ->
     RSs (ja CX0 P w K mg base N x (ah st) f cdv A outer s H E).nox C (aG st) bb):fR P w K mg base (k + 1) x np C (bOf N.length bb):=by
 obtain ⟨f,fd,F,h⟩:=d.ex
 refine ⟨f,fd,ps,?_,h,F.kp,F.binds hb⟩
 obtain ⟨oc,od,kV,doc,pm,an,cdv,ct,osl,rfl,lk,hcd⟩:=F.ex
 refine Lz lk hcd S (fun vs H Q E z=>by rw [z.1,hnp]) fun A outer s H vs Q E hr hsp=>?_
 obtain ⟨hv,Fz,ds,a,hB,hE⟩:=hsp
 have hl:=a.len
 rw [List.length_map] at hl
 refine ⟨fun D σ H'=>∃ Fz ρ,Rel K Fz ρ σ H' /\ bb ρ /\ Wsh E C Fz ρ σ H',fun pins s1 σ H1 D I ⟨Fz1,ρ1,r1,b1,w1⟩=>?_,?_⟩
 . exact (hbody f cdv A outer s H E hr).ok _ E N7 pins s1 σ H1 Fz1 ρ1 (I.jY _) r1 b1 w1 _
 . obtain ⟨r0,ow0⟩:=CL (N:=N) a (by rw [List.length_map];omega)
   refine ⟨Fz,_,r0,?_,fun e H' Fz' stp=>hE e H' Fz' (stp.weak fun q z=>?_)⟩
   . rw [List.length_map];exact hB
   . rcases z with z | ⟨i,c,g,ns,z1,z2⟩
     . exact QN ((ow0 q).mp z)
     . obtain ⟨v,h1,h2⟩:=a.rep i (.ob c g ns) (Ge.mp z1)
       exact h2
end
theorem Gf(ρ:Rho):∀ ds:List D,gz ρ (ds.map W.d)=some (ds.map W.d)
 | []=>rfl
 | d :: ds=>by
  show (vd ρ (.d d)).bind (fun x=>(gz ρ (ds.map W.d)).bind fun xs=>some (x :: xs))=_
  rw [Gf ρ ds];rfl
theorem II:∀ ds:List D,slots (ds.map W.d) = []
 | []=>rfl
 | d :: ds=>II ds
section
variable {X:Cx} {C:Addr} {k np:Nat} {x:Str} {B:List D->Prop} {e:Expr} {es:List Expr} {fa:Fa} {p pos:Pos}
theorem PA.SE{es:List Expr}{t:TA}(Z:Value->Shared->Prop)(h:PA X.nox es t):PA (X.jY Z) es t:=fun pos pins s σ H Q I hw =>
 wpAny_mono (h pos pins s σ H Q (I.iX.jY _) hw) (fun _ _ ⟨vs,H',I',r,q⟩=>⟨vs,H',I'.iX.jY _,r,q⟩) fun _ _ z=>False.elim z
theorem iw (c : fR X.prog X.w X.K X.mg X.base k x np C B) (hr : bZ k X.A) (hg : Gl X x) (ha : DAn X.nox (e :: es) fa np) (hdb : (x == ("__debug__" : Str)) = false := by decide)
    (he:starEach (e :: es) X.env=(false,eval e X.env) :: starEach es X.env:=by rfl) (hpl:(backTo pos (starEach es X.env)).any (·.1)=false:=by rfl):RE X C (.Call (.Name x p) (e :: es) [] pos) (fY B fa):=⟨fun Z E pins s σ H Fz ρ ρ1 hx I r ⟨ds,e1,hB⟩ hw Q=>by
 obtain ⟨f,fd,ps,F,hm,hk,hb⟩:=c.ex
 have I':=I.jY Z
 have ha':=PA.SE Z ha.da.ok pos pins s σ H (fun vs H1=>∃ Fz1,aP X.K Fz Fz1 ρ ρ1 σ H H1 (ds.map W.d) vs) I' ⟨Fz,ρ,_,ρ1,r,e1,fun vs H1 Fz1 p1=>⟨Fz1,p1⟩⟩
 refine wpAny_Call_Name_kw (si I hg hm ?_ hdb)
 refine PySem.W.callWith_K (h₀:=X.base) I.ok.mod.kin hk (thn ha' fun us s1 ⟨vs,H1,I1,rv,Fz1,p1⟩=>⟨I1.kIn,?_⟩) he hpl
 have hnp:(ds.map W.d).length=np:=ha.many _ _ _ e1
 have a1:=(p1.args (by rw [II];exact List.nodup_nil) (Gf ρ1 ds)).1
 have hvl:vs.length=np:=by rw [<- a1.len];exact hnp
 have hsp:spB X.K np C B vs H1 (fun _ _=>False) E:=⟨hvl,Fz1,ds,a1,hB,fun a H2 Fz2 st=>hw a H2 Fz2 fun fix=>by
  have sp:cX X.K fix Fz Fz1 ρ ρ1 σ σ H H1:=p1.sp
  refine sp.trans ⟨p1.rel.rP st fun q z=>(st.new q z).elim .inl fun z=>z.elim .inr fun z=>z.elim,st.weak fun _ z=>z.elim,fun _ z=>.inl z,fun _ _=>rfl,fun k w _ e=>⟨w,e,id⟩,rfl,fun _ z=>.inl z⟩⟩
 have hl:us.length=ps.length:=by rw [<- rv.length];exact F.len _ _ _ _ hsp
 refine wpAny_call (codeAny_mono (F.run X.A X.stack s1 H1 ⟨us,[]⟩ us vs (fun _ _=>False) E hr I1.Ql (by have:=hb s1 us I1.kIn (by simpa using hl);rwa [List.append_nil] at this) rv hsp) fun r s' hq=>?_)
 cases r with
 | error e=>exact hx H1 s1 e s' I1 hq
 | ok fl =>
  cases fl with
  | ret u =>
   obtain ⟨_,_,_,_,_,_,_,z⟩:=hq
   exact z.elim
  | next=>exact False.elim hq
  | brk=>exact False.elim hq
  | cont=>exact False.elim hq⟩
end
end
section
structure pC (K:PySem.W.Frag) (mg:Str->Option Value) (c:Str) (C:Addr):Prop where
 mg:mg c=some (.ref C)
 ex:∃ bm,ExcBaseFacts "ValueError" "ValueError.__new__" "ValueError.__init__" bm /\ PySem.W.excIn K C bm "ValueError.__new__" = true
theorem Ee {K : PySem.W.Frag} {h : Heap} {C : Addr} {bmB : List Value} {newId : String} (X : K.In h) (q : PySem.W.excIn K C bmB newId = true) :
    ∃ bm N nm qn bs hdct sn sub ab col dd k0 k1 k2 k3 k5 mN,h.get? C=some (excClassObj nm qn C N bs bm hdct sn sub ab col dd k0 k1 k2 k3 k5 newId) /\ h.Ns N mN /\ mN "__init__" = none /\ OwnTail h bmB bm:=by
 unfold PySem.W.excIn at q
 cases hl:K.lookup C with
 | none=>rw [hl] at q;cases q
 | some ob =>
  rw [hl] at q
  have hg:=X _ _ hl
  split at q
  . rename_i dd cd sl ho
    cases ho
    split at q
    . rename_i C' tl k0 k1 k2 k3 n k5 hm hs
      simp only [Bool.and_eq_true,beq_iff_eq,Bool.not_eq_true'] at q
      obtain ⟨⟨⟨⟨⟨e1,e2⟩,e3⟩,e4⟩,e5⟩,e6⟩:=q
      subst e1;subst e2
      cases cd with
      | mk a1 a2 a3 a4 a5 a6 a7 a8 a9 a10 a11 =>
       dsimp only at hm e3 e5 e6
       subst hm;subst e3
       have hsl:sl = #[k0,k1,k2,k3,some (.builtin n),k5]:=Array.ext' hs
       subst hsl
       exact ⟨tl,_,_,_,_,_,_,_,_,_,_,_,_,_,_,_,_,hg,.of_isNs (PySem.W.isNs_of_in X e5),PySem.W.nsMap_none_of_in X e5 e6,PySem.W.tail_of_in X e4⟩
    . cases q
  . cases q
def wK(fa:Fa):Rho->Prop:=fun ρ=>∃ ws ρ1,fa ρ=some (ws,ρ1) /\ ws.length=1
section
variable {X:Cx} {C:Addr} {c:Str} {e0:Expr} {fa:Fa} {np cpos pos:Pos}
theorem vF (hk : pC X.K X.mg c C) (hc : X.calm = true) (hg : Gl X c) (ha : DA X.nox [e0] fa) (hdb : (c == ("__debug__" : Str)) = false := by decide)
    (hs:starEach [e0] X.env = [(false,eval e0 X.env)]:=by rfl):RS X C (.Raise (some (.Call (.Name c np) [e0] [] cpos)) none pos) (wK fa):=⟨fun Z E hx pins s σ H Fz ρ I r ⟨ws,ρ1,e1,hl⟩ hw Q=>by
 obtain ⟨bm,FB,q⟩:=hk.ex
 obtain ⟨tl,N,nm,qn,bs,hdct,sn,sub,ab,col,dd,k0,k1,k2,k3,k5,mN,hC,hN,hni,T⟩:=Ee I.ok.mod.kin q
 refine wpAny_Raise_call_subT (C:=C) (nm:=nm) (q:=qn) (N:=N) (bs:=bs) (bm:=tl) (hdct:=hdct) (sn:=sn) (sub:=sub) (ab:=ab) (col:=col) (dd:=dd) (k0:=k0) (k1:=k1) (k2:=k2) (k3:=k3) (k5:=k5)
  FB (mN:=mN) (T.hasType FB.hasBase) (I.ok.hd hc) (by rw [hs];rfl) hni (si I hg hk.mg ⟨rfl,?_⟩ hdb)
 have ha':=PA.SE Z ha.ok cpos pins s σ H (fun vs H1=>∃ Fz1,aP X.K Fz Fz1 ρ ρ1 σ H H1 ws vs) (I.jY Z) ⟨Fz,ρ,ws,ρ1,r,e1,fun vs H1 Fz1 p1=>⟨Fz1,p1⟩⟩
 rw [hs] at ha' ⊢
 refine Calls.evalArgs_plain (thn ha' fun us s1 ⟨vs,H1,I1,rv,Fz1,p1⟩=>?_)
 have I1':=I1.iX
 have sp:cX X.K (fun _=>false) Fz Fz1 ρ ρ1 σ σ H H1:=p1.sp
 refine ⟨rfl,?_,I1'.bk _ _ hC,hN.keeps I1'.bk,T.keeps I1'.bk,fun h' a hm=>hx.made pins σ H1 s1 h' a C us I1 hm (hw (.ref a) H1 Fz1 sp.step)⟩
 show us.length <= sizeLine
 have h1:us.length=1:=by rw [<- rv.length,<- (nW p1.rep).1];exact hl
 rw [h1,sizeLine_eq];omega⟩
end
def FG(a:Str)(f:Fe)(b:Str)(g:Fe):Fe:=fun ρ=>(f ρ).bind fun p=>match p.1 with
 | .d x=>(FF x).bind fun s=>(g p.2).bind fun q=>match q.1 with
  | .d y=>(FF y).bind fun t=>if s.length + t.length <= 10000000 then some (.d (.str (a ++ s ++ b ++ t)),q.2) else none
  | _=>none
 | _=>none
theorem QO {X : Cx} {e e' : Expr} {f g : Fe} {a b : Str} {k k' p1 p2 p3 p4 pos} (ha : a.length <= 100) (hb : b.length <= 100) (h : DE X e f) (h' : DE X e' g) :
    DE X (.JoinedStr [.Constant (.str a) k p1,.FormattedValue e (-1) none p2,.Constant (.str b) k' p3,.FormattedValue e' (-1) none p4] pos) (FG a f b g):=by
 refine ⟨fun pins s σ H Q I hh=>?_⟩
 obtain ⟨Fz,ρ,w,ρ',r,ee,q⟩:=hh
 unfold FG at ee
 obtain ⟨⟨w1,ρ1⟩,e1,ee⟩:=Option.bind_eq_some_iff.mp ee
 dsimp only at ee
 split at ee
 . rename_i x
   obtain ⟨t,e2,ee⟩:=Option.bind_eq_some_iff.mp ee
   obtain ⟨⟨w2,ρ2⟩,e3,ee⟩:=Option.bind_eq_some_iff.mp ee
   dsimp only at ee
   split at ee
   . rename_i y
     obtain ⟨t2,e4,ee⟩:=Option.bind_eq_some_iff.mp ee
     obtain ⟨hl3,ee⟩:=bc ee
     cases ee
     have hp:=h.ok pins { s with toks:=s.toks + 1 } σ H (fun v H1=>∃ Fz1,aP X.K Fz Fz1 ρ ρ1 σ H H1 [.d x] [v]) (I.tok _) ⟨Fz,ρ,_,_,r,e1,fun v H1 Fz1 p1=>⟨Fz1,p1⟩⟩
     have hl:=IJ e2
     have hl2:=IJ e4
     refine wpAny_JoinedStr ?_
     show wpAny _ _ (eval (.Constant (.str a) k p1) X.env) _ _ s
     refine wpAny_Constant_str ⟨a,_,rfl,by rw [empty_app,sizeLine_eq];omega,?_⟩
     rw [empty_app]
     show wpAny _ _ (eval (.FormattedValue e (-1) none p2) X.env) _ _ _
     refine wpAny_FormattedValue_plain (thn hp fun u s1 ⟨v,H1,I1,r1,Fz1,pl⟩=>?_)
     refine L4 I1 r1 e2 (Gg pl.rep1 e2) fun tk s' I2=>⟨t,tk,rfl,by rw [len_app,sizeLine_eq];omega,?_⟩
     show wpAny _ _ (eval (.Constant (.str b) k' p3) X.env) _ _ _
     refine wpAny_Constant_str ⟨b,_,rfl,by rw [len_app,len_app,sizeLine_eq];omega,?_⟩
     show wpAny _ _ (eval (.FormattedValue e' (-1) none p4) X.env) _ _ _
     have hp2:=h'.ok pins { s' with toks:=s'.toks + 1 } σ H1 (fun v H2=>∃ Fz2,aP X.K Fz1 Fz2 ρ1 ρ' σ H1 H2 [.d y] [v]) (I2.tok _) ⟨Fz1,ρ1,_,_,pl.rel,e3,fun v H1 Fz1 p1=>⟨Fz1,p1⟩⟩
     refine wpAny_FormattedValue_plain (thn hp2 fun u2 s2 ⟨v2,H2,I3,r2,Fz2,pl2⟩=>?_)
     refine L4 I3 r2 e4 (Gg pl2.rep1 e4) fun tk2 s'' I4=>⟨t2,tk2,rfl,by rw [len_app,len_app,len_app,sizeLine_eq];omega,?_⟩
     exact ⟨by rw [len_app,len_app,len_app,sizeLine_eq];omega,.str (a ++ t ++ b ++ t2),H2,I4.tok _,⟨_,rfl⟩,q _ _ Fz2 ((pl.cons pl2).made (.val pl2.rel.fzl (.str _)))⟩
   . cases ee
 . cases ee
section
variable {X:Cx} {C:Addr} {c:Str} {e:Expr} {be:Rho->Rho->Prop} {fs:Fs} {fix:Nat->Bool} {d:Bool} {k:Nat} {np p1 p2 p3 p4 pos:Pos}
end
end
end L2.Q3
end
section
namespace PySem
section
variable {M:Model} {A:Around} {E:Value->Shared->Prop}
variable {nm q nm2 q2:Str} {C N C2 N2:Addr} {bs bm bs2 bm2:List Value} {hdct hdct2:Bool} {sn sn2:List Str} {sub sub2:List Value} {ab ab2:Bool} {col col2:Option Bool} {dd dd2:Option Addr} {k0 k1 k2 k3 k5 l0 l1 l2 l3 l5:Option Value} {newId newId2:String}
theorem wY {h : Heap} {g : Array GenState} {d : Drawn} {t : Nat} {os : OsState} {e : Addr} {oe : Obj} {Q : Bool -> Shared -> Prop}
    (hC:h.get? C=some (excClassObj nm q C N bs bm hdct sn sub ab col dd k0 k1 k2 k3 k5 newId)) (hC2:h.get? C2=some (excClassObj nm2 q2 C2 N2 bs2 bm2 hdct2 sn2 sub2 ab2 col2 dd2 l0 l1 l2 l3 l5 newId2)) (he:h.get? e=some oe) (hcls:oe.cls = .ref C) (hbase:bm2.contains (.type "BaseException")=true)
    (hne:(Value.ref C :: bm).contains (.ref C2)=false) (hq:Q false ⟨h,g,d,t,os⟩):wpAny M A (excMatches (.ref e) (.ref C2)) Q E ⟨h,g,d,t,os⟩:=by
 have hcB:(Value.ref C2 :: bm2).contains (.type "BaseException")=true:=by rw [List.contains_cons,hbase,Bool.or_true]
 have f:=tc_notTuple
 unfold excMatches
 repeat (first | (with_reducible refine wpAny_loadPart_at he ?_;rw [hcls]) | with_reducible refine wpAny_loadPart_at hC2 ?_ | (with_reducible refine wpAny_isSubtype_exc hC2 ?_;rw [hcB]) | (with_reducible refine wpAny_isSubtype_exc hC ?_;rw [hne]) | wp_step)
 exact hq
end
end PySem
namespace L2.Q3
open PySem PySem.Spec PyProof.Rows
def Off(K:PySem.W.Frag)(C C2:Addr):Prop:=∃ c d cd sl,K.lookup C=some ⟨c,d,.cls cd,sl⟩ /\ cd.mro.contains (.ref C2)=false
def Hw:Const->Option D
 | .bool b=>some (.bool b)
 | .str x=>some (.str x)
 | _=>none
inductive Hx (X:Cx) (C:Addr):List ExceptHandler->D->Prop
 | hit {c : Str} {cst : Const} {d : D} {j : Nat} {np p2 p3 p4 : Pos} {rest : List ExceptHandler} : pC X.K X.mg c C -> Gl X c -> (c == ("__debug__" : Str)) = false -> Hw cst = some d ->
     Hx X C (.ExceptHandler (some (.Name c np)) none [.Return (some (.Constant cst j p2)) p3] p4 :: rest) d
 | miss {c : Str} {C2 : Addr} {d : D} {np p4 : Pos} {body : List Stmt} {rest : List ExceptHandler} : pC X.K X.mg c C2 -> Gl X c -> (c == ("__debug__" : Str)) = false -> Off X.K C C2 -> Hx X C rest d ->
     Hx X C (.ExceptHandler (some (.Name c np)) none body p4 :: rest) d
theorem N8 {X : Cx} {C : Addr} {pins : List (Addr × Obj)} {σ : St} {H : Hp} {s : Shared} (I : Inv X pins σ H s) {c0 : Str} (hk0 : pC X.K X.mg c0 C) {E : Value -> Shared -> Prop} {Q : Flow -> Shared -> Prop} {a : Addr} {B : Heap} {a0 : Value} {stack : List Env}
    (hB:∀ b o,X.base.get? b=some o->B.get? b=some o) {hs:List ExceptHandler} {d:D} (h:Hx X C hs d):∀ (s':Shared),Heap.FlyingW B stack a (.ref C) a0 s'.heap ->
     (∀ (h6:Heap) (tk:Nat) (v:V) (u:Value),Heap.FlyingW B stack a (.ref C) a0 h6->s'.heap.UpToSlots h6->RelV v u->(∀ (K:PySem.W.Frag) (Fz:Addr->Prop) (H':Hp),Dr K Fz H' v d)->Q (.ret u) { s' with heap:=h6,toks:=tk }) ->
     wpAny (model X.prog X.w) X.A (handleBy (.ref a) X.env hs) Q E s':=by
 obtain ⟨bm0,FB0,hq0⟩:=hk0.ex
 obtain ⟨tl0,N0,nm0,qn0,bs0,hdct0,sn0,sub0,ab0,col0,dd0,j0,j1,j2,j3,j5,mN0,hC0,hN0,hni0,T0⟩:=Ee I.ok.mod.kin hq0
 induction h with
 | @hit c cst d j np p2 p3 p4 rest hk hg hdb hd =>
  intro s' fl k
  have kb:∀ b o,X.base.get? b=some o->s'.heap.get? b=some o:=fun b o e=>fl.1 b o (hB b o e)
  obtain ⟨ob,hob,hobc⟩:=fl.there
  refine wpAny_handleBy_cons (codeAny_handlers_test (Calls.Name_function_global I.ok.kind hg (Calls.loadGlobal_global (by rw [I.ok.glob];exact I.mod.glob.keeps kb) hk.mg ?_) hdb)) (by intro q;cases q)
  refine wpAny_excMatches_sub_self (kb _ _ hC0) hob hobc (T0.hasType FB0.hasBase) (codeAny_handlers_suite ?_)
  refine lands_againW fl fun h6 fl6 sm6=>?_
  cases cst with
  | bool b =>
   cases hd
   exact wpAny_execs_cons (wpAny_Return_some (Constant_bool (k h6 _ (.bl b) (.bool b) fl6 sm6 rfl fun K Fz H'=>.bl _)))
  | str x =>
   cases hd
   exact wpAny_execs_cons (wpAny_Return_some (wpAny_Constant_str (k h6 _ (.str x) _ fl6 sm6 ⟨_,rfl⟩ fun K Fz H'=>.str _)))
  | _=>cases hd
 | @miss c C2 d np p4 body rest hk hg hdb ho hr ih =>
  intro s' fl k
  have kb:∀ b o,X.base.get? b=some o->s'.heap.get? b=some o:=fun b o e=>fl.1 b o (hB b o e)
  obtain ⟨ob,hob,hobc⟩:=fl.there
  obtain ⟨bm,FB,hq⟩:=hk.ex
  obtain ⟨tl,N,nm,qn,bs,hdct,sn,sub,ab,col,dd,k0,k1,k2,k3,k5,mN,hC2,hN,hni,T⟩:=Ee I.ok.mod.kin hq
  have hne:(Value.ref C :: tl0).contains (.ref C2)=false:=by
   obtain ⟨c1,d1,cd,sl,hl,hm⟩:=ho
   have:=I.ok.mod.kin _ _ hl
   rw [hC0] at this
   cases this
   exact hm
  refine wpAny_handleBy_cons (codeAny_handlers_test (Calls.Name_function_global I.ok.kind hg (Calls.loadGlobal_global (by rw [I.ok.glob];exact I.mod.glob.keeps kb) hk.mg ?_) hdb)) (by intro q;cases q)
  refine wY (kb _ _ hC0) (kb _ _ hC2) hob hobc (T.hasType FB.hasBase) hne ?_
  exact ih s' fl k
section
variable {X:Cx} {C:Addr} {c0:Str} {e:Expr} {be:Rho->Rho->Prop} {fs:Fs} {fix:Nat->Bool} {d:D} {p1 pos:Pos} {h0:ExceptHandler} {hs:List ExceptHandler}
end
end L2.Q3
end
section
namespace L2.Q3.Tx
open PySem PySem.Spec PyProof.Rows
section
def ck:Rho->Prop:=bIf (ig (ftV (aw aZ (aa (ag 1) (aa (fC (.int 0)) (aa (fe2 uG (aI f9 (aa (fe2 gIx (ag 0) (fC (.int 2))) (aj))) (fC (.int 1))) (aj))))))) (wK (aa (fC (.str "this is no number of a tasting of the house")) (aj)))
def aS:List PyData->Prop:=bOf 2 ck
end
end L2.Q3.Tx
end
section
namespace L2.Q3
open PySem PySem.Spec PyProof.Rows
section
abbrev B5(X:Cx)(stk:List Env)(s:Shared)(H:Hp)(scope:Scope)(lenv:Env)(A':Around)(xe:Value->Shared->Prop):Cx :=
 { X with A:=A',s_0:=s,H_0:=H,env:=lenv,outer:=stk,stack:=lenv :: stk,ex:=[],fn:=fun x=>scope.names.lookup x == some .cell,calm:=true,pn:=[],xe:=xe }
structure WC where
 pn:Str
 qual:Str
 fw:Addr
 cdv:Value
 s0:Shared
 H0:Hp
 E0:XK
abbrev wcx(X:Cx)(sc:Scope)(c:WC):Cx:=ja (CXB X.prog X.w) X.prog X.w X.K X.mg X.base [c.pn] c.qual sc c.fw c.cdv X.A X.stack c.s0 c.H0 c.E0
theorem HF {X : Cx} {E : XK} {L : Addr} {pins : List (Addr × Obj)} {σ : St} {H : Hp} {s s' : Shared} {e : Value} (hst : X.stack = X.env :: X.outer) (hf : X.env.frame = some L) (hex : X.ex = []) (I : Inv X pins σ H s) (c : CXB X.prog X.w X.stack H s E e s') :
    wpAny (model X.prog X.w) X.A (leaving X.env e) (fun _ s''=>CXB X.prog X.w X.outer X.H_0 X.s_0 E e s'') (fun e' s''=>CXB X.prog X.w X.outer X.H_0 X.s_0 E e' s'') s':=by
 obtain ⟨a,C,B,H',rfl,F,hE⟩:=c
 obtain ⟨a0,hfl⟩:=F.fl
 have hfr:=I.ok.frames
 rw [hst] at hfr hfl
 refine wpAny_leaves_onW hfr hf hfl fun h' x1 x2=>?_
 have J:=I.yM (ch:=[]) F.os F.un F.hok F.gb fun b z=>absurd z (by simp)
 have old:∀ b o,X.s_0.heap.get? b=some o->b ∉ L2.frs X.outer->∃ o',B.get? b=some o':=fun b o q hb=>by
  obtain ⟨o1,e1⟩:=I.base.there b o q (by rw [hex];simp)
  exact F.old b o1 e1 (wX I q hb)
 have Jb:=J.base
 rw [hex] at Jb
 refine ⟨a,C,B,H',rfl,⟨J.os,J.bare,?_,yE F.hok F.trk hfl.1 x1.1,⟨_,x1⟩,old,F.trk⟩,hE⟩
 refine Ed Jb old hfl.1 x1.1 x2 fun b hb o ho=>?_
 have hb':b ∈ L2.frs X.stack:=by
  have hb:b ∈ L2.frs X.outer:=hb
  rw [hst]
  unfold L2.frs at hb ⊢
  rw [List.filterMap_cons,hf]
  exact List.mem_cons_of_mem _ hb
 exact Ai J.stack hb' o ho
section
variable {X:Cx} {sc:Scope} {wc:WC} {pinsX pinsY:List (Addr × Obj)} {σ σY:St} {HX H:Hp} {sX s:Shared}
theorem HG {scope : Scope} {A' : Around} {h5 : Heap} {tk : Nat} {m0 : Str -> Option Value} {lenv : Env} {xe : Value -> Shared -> Prop}
    (IX:Inv X pinsX σ HX sX) (IY:Inv (wcx X sc wc) pinsY σY H s) (kc:∀ b o,sX.heap.get? b=some o->s.heap.get? b=some o) (hHc:∀ y c,X.env.cells.lookup y=some c->H c=none)
    (ok:gF X.N X.env.scope scope []) (hN:X.N.Nodup) (hcell:∀ y ∈ scope.names,y.2 ≠ .cell)
    (hL:lenv.locals=s.heap.objs.size) (hcl:lenv.cells=aW X.env.cells scope.names []) (hsc:lenv.scope=scope) (hfr:lenv.frame=some s.heap.objs.size) (hgl:lenv.globals=mainGlobals) (hbl:lenv.builtins=builtinsNs)
    (hA:A'.frames=some (lenv :: (wcx X sc wc).stack)) (hh:A'.handled=none) (kp:∀ b o,s.heap.get? b=some o->h5.get? b=some o) (hns:h5.Ns s.heap.objs.size m0) :
    Inv (B5 X (wcx X sc wc).stack s H scope lenv A' xe) [] σ H { s with heap:=h5,toks:=tk }:=by
 have hfree:∀ y ∈ scope.names,y.2 = .free->∃ c,X.env.cells.lookup y.1=some c:=fun y hy e=>by
  rcases ok.free y hy e with k | k
  . exact IX.ok.has _ (.inl k)
  . exact IX.ok.has _ (.inr k)
 have cellS:∀ {y c},X.env.cells.lookup y=some c->∃ v,s.heap.IsCell c v:=fun {y c} e=>by
  obtain ⟨v,z⟩:=IX.cell _ _ e
  exact ⟨v,z.keeps kc⟩
 have cm:∀ {y c},(y,c) ∈ aW X.env.cells scope.names []->X.env.cells.lookup y=some c /\ c < s.heap.objs.size:=fun {y c} hm=>by
  rcases i6 hm with hm | ⟨h1,rfl⟩
  . cases hm
  . obtain ⟨c,hc⟩:=hfree _ h1 rfl
    rw [hc]
    obtain ⟨w,z⟩:=cellS hc
    exact ⟨rfl,z.lt⟩
 have mem:∀ {y c},lenv.cells.lookup y=some c->X.env.cells.lookup y=some c /\ c < s.heap.objs.size:=fun {y c} e=>by
  rw [hcl] at e
  exact cm (PySem.mem_of_lookup e)
 have look:∀ {y},scope.names.lookup y=some .free->∃ c,lenv.cells.lookup y=some c /\ X.env.cells.lookup y=some c:=fun {y} hl=>by
  have hy:(y,NameKind.free) ∈ scope.names:=PySem.mem_of_lookup hl
  obtain ⟨c',e'⟩:=mem_lookup (jO (cells:=X.env.cells) (acc:=[]) hy)
  rw [<- hcl] at e'
  exact ⟨c',e',(mem e').1⟩
 have nocell:∀ y,scope.names.lookup y ≠ some .cell:=fun y e=>hcell _ (PySem.mem_of_lookup e) rfl
 have okB:(B5 X (wcx X sc wc).stack s H scope lenv A' xe).Ok:=by
  refine ⟨IY.ok.mod,by show lenv.scope.kind=_;rw [hsc];exact ok.kind,hgl,hbl,by show s.heap.objs.size <= lenv.locals;rw [hL];exact Nat.le_refl _,
   fun y z c e1 e2=>IX.ok.inj y z c (mem e1).1 (mem e2).1,fun y hy=>?_,fun y c z e=>?_,fun _=>hh,hA,.inr ⟨rfl,by show lenv.frame=some lenv.locals;rw [hfr,hL]⟩,fun b hb=>absurd hb (by simp),IY.bs,Nat.le_trans IY.ok.bsz IY.sz,fun b o e hb=>absurd hb (by simp),fun b hb z=>absurd hb (by simp),IY.stack,IY.uO,IY.tabs⟩
  . have hy:scope.names.lookup y=some .cell \/ scope.names.lookup y=some .free:=by
     have hy':lenv.scope.names.lookup y=some .cell \/ lenv.scope.names.lookup y=some .free:=hy
     rw [hsc] at hy';exact hy'
    rcases hy with hy | hy
    . exact absurd hy (nocell y)
    . obtain ⟨c,h1,_⟩:=look hy
      exact ⟨c,h1⟩
  . have z:(scope.names.lookup y == some NameKind.cell)=true:=z
    exact absurd (by simpa using z) (nocell y)
 refine ⟨okB,rfl,IY.bare.self,Un.kept kp,⟨m0,?_,fun i y av e1 e2 e3=>?_⟩,fun y c e=>?_,?_,fun y c e=>hHc y c (mem e).1,fun p hp=>absurd hp (by simp),IY.hok.kept kp,IX.len⟩
 . show Heap.Ns _ lenv.locals _
   rw [hL];exact hns
 . have e3:Vis lenv.scope y:=e3
   rw [hsc] at e3
   have no:∀ k,scope.names.lookup y=some k->¬ (k = .local \/ k = .cell):=fun k e hh=>by
    rcases ok.own _ (PySem.mem_of_lookup e) hh with e' | e'
    . cases e'
    . exact e' (List.mem_of_getElem? e1)
   have hfr:scope.names.lookup y=some .free:=by
    rcases e3 with e3 | e3 | e3
    . exact absurd (.inl rfl) (no _ e3)
    . exact absurd (.inr rfl) (no _ e3)
    . exact e3
   obtain ⟨m,hn,hl⟩:=IX.loc
   have hvis:Vis X.env.scope y:=(ok.free _ (PySem.mem_of_lookup hfr) rfl).elim (fun k=>.inr (.inl k)) (fun k=>.inr (.inr k))
   obtain ⟨w,r,q⟩:=hl i y av e1 e2 hvis
   refine ⟨w,r,.inr ⟨.inr (by show lenv.scope.names.lookup y=_;rw [hsc];exact hfr),?_⟩⟩
   obtain ⟨c,h1,h2⟩:=look hfr
   rcases q with ⟨k,_⟩ | ⟨_,c',e',z⟩
   . have k:X.env.scope.names.lookup y=some .local:=k
     rcases ok.free _ (PySem.mem_of_lookup hfr) rfl with k' | k' <;> rw [show X.env.scope.names.lookup y=_ from k'] at k <;> cases k
   . rw [h2] at e';cases e'
     exact ⟨c,h1,(z.keeps kc).keeps kp⟩
 . obtain ⟨w,z⟩:=cellS (mem e).1
   exact ⟨w,z.keeps kp⟩
 . show H lenv.locals=none
   rw [hL];exact IY.hok.fresh (Nat.le_refl _)
def tN(X:Cx)(stk:List Env)(H:Hp)(s:Shared)(A':Around)(lenv:Env)(E:XK):Value->Shared->Prop:=fun e s'=>wpAny (model X.prog X.w) A' (leaving lenv e) (fun _ s''=>CXB X.prog X.w stk H s E e s'') (fun e' s''=>CXB X.prog X.w stk H s E e' s'') s'
theorem Ke {A : Around} {params : Arguments} {body : Expr} {scope : Scope} {f c : Addr} {fd : FuncData} {nm qual : Str} {pm ctv : Value} {Q : VK} {E : XK}
    (IX:Inv X pinsX σ HX sX) (IY:Inv (wcx X sc wc) pinsY σY H s) (kc:∀ b o,sX.heap.get? b=some o->s.heap.get? b=some o) (hHc:∀ y c,X.env.cells.lookup y=some c->H c=none)
    (ok:gF X.N X.env.scope scope []) (hN:X.N.Nodup) (hcell:∀ y ∈ scope.names,y.2 ≠ .cell) (hco:scope.isCoroutine=false) (hgen:scope.isGenerator=false)
    (ef:s.heap.get? f=some (pR fd)) (hfd:fd=PySem.W.kla_fn nm qual params body scope (aW X.env.cells scope.names []) pm (.ref c) ctv) (hct:sg H c)
    (hbind:∀ fd':FuncData,fd'.params=params->fd'.defaults = .none->fd'.kwdefaults = .none->bindArgs fd' ⟨[],[]⟩=pure [])
    (hAf:A.frames=(wcx X sc wc).A.frames) (hAh:A.handled=none) (hdp:A.depth < recursionLimit)
    (hb:∀ (qn:Str) (L:Addr) (cl:List (Str × Addr)) (cd:Value) (s5:Shared),Inv (B5 X (wcx X sc wc).stack s H scope (PySem.W.envX qn scope L f cd cl) (A.deeper (PySem.W.envX qn scope L f cd cl)) (tN X (wcx X sc wc).stack H s (A.deeper (PySem.W.envX qn scope L f cd cl)) (PySem.W.envX qn scope L f cd cl) E)) [] σ H s5 ->
     wpAny (model X.prog X.w) (A.deeper (PySem.W.envX qn scope L f cd cl)) (eval body (PySem.W.envX qn scope L f cd cl)) (EP (B5 X (wcx X sc wc).stack s H scope (PySem.W.envX qn scope L f cd cl) (A.deeper (PySem.W.envX qn scope L f cd cl)) (tN X (wcx X sc wc).stack H s (A.deeper (PySem.W.envX qn scope L f cd cl)) (PySem.W.envX qn scope L f cd cl) E)) [] σ Q) (tN X (wcx X sc wc).stack H s (A.deeper (PySem.W.envX qn scope L f cd cl)) (PySem.W.envX qn scope L f cd cl) E) s5) :
    wpAny (model X.prog X.w) A (call (.ref f) []) (EP (wcx X sc wc) pinsY σY Q) (fun e s'=>CXB X.prog X.w (wcx X sc wc).stack H s E e s') s:=by
 obtain ⟨o,P,vs,q,t,hc,hd,hv⟩:=hct
 have eo:s.heap.get? c=some o:=(IY.hok c _ hc).1
 refine wpAny_call (codeAny_of_tree ?_)
 show wpAny _ A.in1 (callAny (.ref f) ⟨[],[]⟩) _ _ s
 simp only [callAny]
 refine wpAny_bind (wpAny_load ef ?_)
 subst hfd
 simp only [callFunction,hco,hgen]
 refine wpAny_bind (m:=field (.ref c) 1) (wpAny_field eo hd hv (wpAny_bind (wpAny_pure ?_)))
 rw [hbind _ rfl rfl rfl]
 refine wpAny_bind (wpAny_pure ?_)
 refine wpAny_bind (wpAny_newFunctionEnv hcell (fun y hy=>absurd hy (by simp)) (fun h5 hn5 hs5=>?_) ok.kind)
 have kp:∀ b o,s.heap.get? b=some o->h5.get? b=some o:=fun b o e=>(hs5.2 b (Nat.ne_of_lt (Heap.lt_size e))).trans (Heap.get?_push_of_some _ e)
 refine wpAny_bind (wpAny_enterFrame (IY.nolimit.keeps kp) hdp (wpAny_pure ⟨rfl,?_⟩))
 refine PySem.W.kla_codeExpr ?_
 show wpAny _ (A.deeper (PySem.W.envX q scope s.heap.objs.size f (.ref c) (aW X.env.cells scope.names []))) (eval body (PySem.W.envX q scope s.heap.objs.size f (.ref c) (aW X.env.cells scope.names []))) _ _ _
 have hb':=hb q s.heap.objs.size (aW X.env.cells scope.names []) (.ref c)
 generalize hle:PySem.W.envX q scope s.heap.objs.size f (.ref c) (aW X.env.cells scope.names [])=lenv at hb' ⊢
 have IL:=HG (A':=A.deeper lenv) (h5:=h5) (tk:=s.toks) (lenv:=lenv) (xe:=tN X (wcx X sc wc).stack H s (A.deeper lenv) lenv E) IX IY kc hHc ok hN hcell (by rw [<- hle]) (by rw [<- hle]) (by rw [<- hle]) (by rw [<- hle]) (by rw [<- hle]) (by rw [<- hle])
  (Around.frames_deeper (hAf.trans IY.ok.frames)) hAh kp hn5
 refine wpAny_mono (hb' _ IL) (fun u s' ⟨y,H',I',r',q'⟩=>?_) fun e s' z=>by rw [<- hle] at z;exact z
 exact ⟨y,H',IY.yM (ch:=[]) I'.os I'.base I'.hok ⟨I'.bare.1,I'.bare.2⟩ fun b hb=>absurd hb (by simp),r',q'⟩
theorem Kf {k : Nat} {x pn : Str} {st : Stmt} {np cp ep tp rp p0 : Pos} {h0 : ExceptHandler} {hs : List ExceptHandler} {c0 : Const} {j0 : Nat} {d0 : D} {fw : Addr} {fdw : FuncData} {params : Arguments} {body : Expr} {scope : Scope} {f c : Addr} {fd : FuncData} {nm qual : Str} {pm ctv : Value} {Qg : VK} {E : XK} {Qf : D -> Hp -> Prop} {Er : Value -> Shared -> Prop}
    (F:Fun X.K x x st fw fdw) (S:aN [pn] [pn] (ah st)) (hloc:(ah st).names.lookup pn=some .local) (hdb:(pn == ("__debug__" : Str))=false)
    (hbd:aG st = [.Try [.Expr (.Call (.Name pn np) [] [] cp) ep] (h0 :: hs) [] [] tp,.Return (some (.Constant c0 j0 p0)) rp]) (hc0:Hw c0=some d0)
    (hsw:∀ env,swapsWith (.Call (.Name pn np) [] [] cp) none ep.line env=pure false)
    (hbw:∀ (kV doc pm:Value) (an:Option Addr) (cdv ct:Value) (us:List Value),us.length = [pn].length->bindArgs (PySem.W.fnOf x x (aM st) (aG st) (ah st) .none kV doc pm an cdv ct) ⟨us,[]⟩=pure ([pn].zip us))
    (I:Inv X pinsX σ H s) (hr:bZ (k + 2) X.A) (ok:gF X.N X.env.scope scope []) (hN:X.N.Nodup) (hcell:∀ y ∈ scope.names,y.2 ≠ .cell) (hco:scope.isCoroutine=false) (hgen:scope.isGenerator=false)
    (hpin:(f,pR fd) ∈ pinsX) (hfd:fd=PySem.W.kla_fn nm qual params body scope (aW X.env.cells scope.names []) pm (.ref c) ctv) (hct:sg H c)
    (hbind:∀ fd':FuncData,fd'.params=params->fd'.defaults = .none->fd'.kwdefaults = .none->bindArgs fd' ⟨[],[]⟩=pure [])
    (hb:∀ (wc:WC) (A:Around) (s:Shared) (qn:Str) (L:Addr) (cl:List (Str × Addr)) (cd:Value) (s5:Shared),bZ k (A.deeper (PySem.W.envX qn scope L f cd cl))->Inv (B5 X (wcx X (ah st) wc).stack s H scope (PySem.W.envX qn scope L f cd cl) (A.deeper (PySem.W.envX qn scope L f cd cl)) (tN X (wcx X (ah st) wc).stack H s (A.deeper (PySem.W.envX qn scope L f cd cl)) (PySem.W.envX qn scope L f cd cl) E)) [] σ H s5 ->
     wpAny (model X.prog X.w) (A.deeper (PySem.W.envX qn scope L f cd cl)) (eval body (PySem.W.envX qn scope L f cd cl)) (EP (B5 X (wcx X (ah st) wc).stack s H scope (PySem.W.envX qn scope L f cd cl) (A.deeper (PySem.W.envX qn scope L f cd cl)) (tN X (wcx X (ah st) wc).stack H s (A.deeper (PySem.W.envX qn scope L f cd cl)) (PySem.W.envX qn scope L f cd cl) E)) [] σ Qg) (tN X (wcx X (ah st) wc).stack H s (A.deeper (PySem.W.envX qn scope L f cd cl)) (PySem.W.envX qn scope L f cd cl) E) s5)
    (hg:∀ y H',Qg y H'->Qf d0 H') (hE:∀ a ca H',E a ca H'->∃ C d c1,ca=some C /\ pC X.K X.mg c1 C /\ (∀ wc,Hx (wcx X (ah st) wc) C (h0 :: hs) d) /\ Qf d H') :
    wpAny (model X.prog X.w) X.A (call (.ref fw) [.ref f]) (EP X pinsX σ fun y H'=>∃ d,(∀ (K:PySem.W.Frag) (Fz:Addr->Prop) (H:Hp),Dr K Fz H y d) /\ Qf d H') Er s:=by
 obtain ⟨oc,od,kV,doc,pmw,an,cdv,ct,osl,rfl,lk,hcd⟩:=F.ex
 have e0:=I.Ql
 have KX:X.K.In s.heap:=I.kIn
 have lim:s.heap.NoLimit:=I.nolimit
 have ef:s.heap.get? f=some (pR fd):=(I.pin _ (List.mem_append_right _ hpin)).1
 have hkind:∀ y ∈ [pn].zip [Value.ref f],(ah st).names.lookup y.1=some .local \/ ((ah st).names.lookup y.1=some .cell /\ ((cellsFrom (s.heap.objs.size + 1) (ah st).names []).lookup y.1).isSome=true):=fun y hy=>by
  have hy:y=(pn,.ref f):=by simpa using hy
  subst hy
  exact .inl hloc
 have hB:BindsTo s (PySem.W.fnOf x x (aM st) (aG st) (ah st) .none kV doc pmw an cdv ct) ⟨[.ref f],[]⟩ ([pn].zip [.ref f]):=by
  have:=F.binds hbw s [.ref f] KX (by simp)
  rwa [List.append_nil] at this
 refine wpAny_call (codeAny_mono (R:=fun r s'=>match r with | .ok (.ret u)=>CE X.stack X.prog X.w H s (fun y H'=>∃ d,(∀ (K:PySem.W.Frag) (Fz:Addr->Prop) (H:Hp),Dr K Fz H y d) /\ Qf d H') u s' | _=>False) ?_ fun r s' hq=>?_)
 . refine codeAny_call_function hr.depth (KX _ _ lk) rfl S.co S.gen rfl (PySem.W.codeRec_of KX hcd) (hB _ _ _ _ ?_)
   refine wpAny_newFunctionEnv_cells S.kind hkind fun env he s1 xc=>?_
   subst he
   refine ⟨lim.keeps xc.toInCall.keep,codeAny_func ?_⟩
   have IY:Inv (wcx X (ah st) ⟨pn,x,fw,cdv,s,H,fun _ _ _=>False⟩) [] (start [pn] [.ref f]) H s1:=CH S hr.hd e0 rfl (.cons rfl .nil) xc
   have kc:=xc.toInCall.keep
   have body_ok : wpAny (model X.prog X.w) (wcx X (ah st) ⟨pn, x, fw, cdv, s, H, fun _ _ _ => False⟩).A (execs (aG st) (wcx X (ah st) ⟨pn, x, fw, cdv, s, H, fun _ _ _ => False⟩).env)
       (fun fl s'=>∃ u v d H',fl = .ret u /\ Inv (wcx X (ah st) ⟨pn,x,fw,cdv,s,H,fun _ _ _=>False⟩) [] (start [pn] [.ref f]) H' s' /\ RelV v u /\ (∀ (K:PySem.W.Frag) (Fz:Addr->Prop) (H:Hp),Dr K Fz H v d) /\ Qf d H') (fun _ _=>False) s1:=by
    clear hB hkind
    generalize hY:(⟨pn,x,fw,cdv,s,H,fun _ _ _=>False⟩:WC)=wc at IY ⊢
    have hYpn:wc.pn=pn:=by rw [<- hY]
    rw [hbd]
    refine wpAny_execs_cons (wpAny_Try_except (wpAny_execs_cons (wpAny_Expr_any ?_ IY.quiet (hsw _))))
    have ef1:s1.heap.get? f=some (pR fd):=kc _ _ ef
    have hA1:(wcx X (ah st) wc).A.handled=none:=IY.ok.hd rfl
    have hrY:bZ (k + 1) (wcx X (ah st) wc).A:=by subst hY;exact hr.deeper _
    refine wpAny_Call_Name_kw ?_
    obtain ⟨m,hn,hl⟩:=IY.loc
    obtain ⟨u,hu,lk2⟩:=hl 0 pn (.ref f) (by rw [<- hYpn];rfl) rfl (.inl hloc)
    have hu:u = .ref f:=hu
    subst hu
    have hm:m pn=some (.ref f):=by
     rcases lk2 with ⟨_,h⟩ | ⟨hk,_⟩
     . exact h
     . have hl2:(wcx X (ah st) wc).env.kindOf pn=some .local:=hloc
       rcases hk with hk | hk <;> rw [hl2] at hk <;> cases hk
    refine wpAny_Name (wpAny_loadName_local IY.ok.kind hloc hn hm ?_) hdb
    refine PySem.W.callWith_F0 ⟨_,_,_,_,ef1⟩ ?_
    refine wpAny_mono (Ke (wc:=wc) (sc:=ah st) (A:=(wcx X (ah st) wc).A) (Q:=Qg) (E:=E) I IY kc (fun y c e=>I.kR y c e) ok hN hcell hco hgen ef1 hfd hct hbind rfl hA1 hrY.depth fun qn L cl cd s5 i5=>?_) (fun v s2 ⟨y,H2,I2,r2,q2⟩=>?_) fun e s2 cx=>?_
    . exact hb wc _ s1 qn L cl cd s5 (hrY.deeper _) i5
    ·
     refine wpAny_execs_nil (wpAny_execs_nil (wpAny_execs_cons ?_))
     cases c0 with
     | bool b =>
      cases hc0
      exact wpAny_Return_some (Constant_bool ⟨_,.bl b,.bool b,H2,rfl,I2,rfl,fun _ _ _=>.bl _,hg y H2 q2⟩)
     | str z =>
      cases hc0
      exact wpAny_Return_some (wpAny_Constant_str ⟨_,.str z,.str z,H2,rfl,I2.tok _,⟨_,rfl⟩,fun _ _ _=>.str _,hg y H2 q2⟩)
     | _=>cases hc0
    ·
     obtain ⟨a,C,B,H',rfl,F',hEe⟩:=cx
     obtain ⟨C',d,c1,hC',hk,hh,hQf⟩:=hE _ _ _ hEe
     cases hC'
     obtain ⟨a0,hfl⟩:=F'.fl
     have hst:(wcx X (ah st) wc).stack=(wcx X (ah st) wc).env :: (wcx X (ah st) wc).outer:=rfl
     have hfr:(wcx X (ah st) wc).A.frames=some ((wcx X (ah st) wc).env :: (wcx X (ah st) wc).outer):=IY.ok.frames
     have J':=IY.yM (ch:=[]) F'.os F'.un F'.hok F'.gb fun b z=>absurd z (by simp)
     refine wpAny_looks_onW hfr rfl hfl fun h4 held4 sm4=>?_
     refine wpAny_landsW held4 fun h5 fl5 sm5=>?_
     have kB:∀ b o,(wcx X (ah st) wc).base.get? b=some o->B.get? b=some o:=fun b o hbo=>by
      obtain ⟨o',ho'⟩:=F'.old b o (IY.bk b o hbo) fun z=>by
       rcases List.mem_cons.mp (IY.tW b z) with r | r
       . have h1:=Heap.lt_size hbo
         rw [r] at h1
         exact absurd h1 (Nat.not_lt.mpr (Nat.le_trans IY.ok.bsz IY.ok.above))
       . exact IY.ok.vw hbo r
      have e3:=J'.bk b o hbo
      rw [hfl.1 b o' ho'] at e3
      cases e3
      exact ho'
     refine N8 (X:=wcx X (ah st) wc) IY hk kB (hh wc) { s2 with heap:=h5 } fl5 fun h6 tk v u fl6 sm6 ru dv=>?_
     have sm:s2.heap.UpToSlots h6:=(sm4.trans sm5).trans sm6
     have K6:Inv (wcx X (ah st) wc) [] (start [pn] [.ref f]) H' { s2 with heap:=h6,toks:=tk }:=by
      refine IY.yM (s':={ s2 with heap:=h6,toks:=tk }) (ch:=[]) F'.os (Ed F'.un F'.old hfl.1 fl6.1 sm fun b hb o ho=>?_) (yE F'.hok F'.trk hfl.1 fl6.1) F'.gb fun b z=>absurd z (by simp)
      exact Ai J'.stack hb o ho
     exact ⟨u,v,d,H',rfl,K6,ru,dv,hQf⟩
   refine wpAny_mono body_ok (fun fl s' h=>?_) fun e s' z=>False.elim z
   obtain ⟨u,v,d,H',rfl,J,rv,hd,q⟩:=h
   exact ⟨v,H',J.os,J.bare,J.base,J.hok,rv,d,hd,q⟩
 . cases r with
   | error e=>exact False.elim hq
   | ok fl =>
    cases fl with
    | ret u=>exact I.after hq
    | next=>exact False.elim hq
    | brk=>exact False.elim hq
    | cont=>exact False.elim hq
end
theorem Mh {X : Cx} {C : Addr} {k np : Nat} {x : Str} {F : Fn} {e : Expr} {be : Rho -> Rho -> Prop} {p pos : Pos} (c : Cal X.prog X.w X.K X.mg X.base k x np F) (hg : Gl X x) (h : RE X C e be) (hdb : (x == ("__debug__" : Str)) = false := by decide)
    (he:starEach [e] X.env=(false,eval e X.env) :: starEach [] X.env:=by rfl):RE X C (.Call (.Name x p) [e] [] pos) be:=⟨fun Z E pins s σ H Fz ρ ρ1 hx I r hb hw Q=>by
 obtain ⟨f,fd,ps,F,hm,hk,_⟩:=c.ex
 refine wpAny_Call_Name_kw (si I hg hm ?_ hdb)
 refine PySem.W.callWith_K (h₀:=X.base) I.ok.mod.kin hk ?_ he rfl
 rw [he]
 show wpAny _ _ (spliced ((false,eval e X.env) :: [])) _ _ s
 exact Calls.spliced_cons (h.ok Z E pins s σ H Fz ρ ρ1 hx I r hb hw _)⟩
def Gn(sc:Scope):Bool:=!sc.isCoroutine && !sc.isGenerator && sc.names.all fun y=>match y.2 with | .cell=>false | _=>true
theorem Mi{sc:Scope}(h:Gn sc=true):(∀ y ∈ sc.names,y.2 ≠ .cell) /\ sc.isCoroutine=false /\ sc.isGenerator=false:=by
 unfold Gn at h
 simp only [Bool.and_eq_true,Bool.not_eq_true',List.all_eq_true] at h
 refine ⟨fun y hy e=>?_,h.1.1,h.1.2⟩
 have:=h.2 y hy
 rw [e] at this
 cases this
structure vJ (K:PySem.W.Frag) (mg:Str->Option Value) (x:Str) (st:Stmt) (pn:Str) (hs:List ExceptHandler) (d0:D):Prop where
 d:Dfn K mg x st
 S:aN [pn] [pn] (ah st)
 loc:(ah st).names.lookup pn=some .local
 db:(pn == ("__debug__" : Str))=false
 body:∃ (np cp ep tp rp p0:Pos) (h0:ExceptHandler) (hs':List ExceptHandler) (c0:Const) (j0:Nat),hs=h0 :: hs' /\ aG st = [.Try [.Expr (.Call (.Name pn np) [] [] cp) ep] (h0 :: hs') [] [] tp,.Return (some (.Constant c0 j0 p0)) rp] /\ Hw c0=some d0 /\ ∀ env,swapsWith (.Call (.Name pn np) [] [] cp) none ep.line env=pure false
 bind:∀ (kV doc pm:Value) (an:Option Addr) (cdv ct:Value) (us:List Value),us.length = [pn].length->bindArgs (PySem.W.fnOf x x (aM st) (aG st) (ah st) .none kV doc pm an cdv ct) ⟨us,[]⟩=pure ([pn].zip us)
def Pa:List Stmt->List ExceptHandler
 | .Try _ hs _ _ _ :: _=>hs
 | _=>[]
def InW(X:Cx)(sc:Scope)(k:Nat)(scope:Scope)(P:Cx->Prop):Prop:=∀ (wc:WC) (A:Around) (s:Shared) (H:Hp) (qn:Str) (L f:Addr) (cl:List (Str × Addr)) (cd:Value),bZ k (A.deeper (PySem.W.envX qn scope L f cd cl))->P (B5 X (wcx X sc wc).stack s H scope (PySem.W.envX qn scope L f cd cl) (A.deeper (PySem.W.envX qn scope L f cd cl)) fun _ _=>False)
section
variable {X:Cx} {k:Nat} {x pn:Str} {st:Stmt} {hs:List ExceptHandler} {d0:D} {body:Expr} {scope:Scope} {lpos p pos:Pos}
theorem CP {pins : List (Addr × Obj)} {σ : St} {H : Hp} {s : Shared} {Qg : VK} {E : XK} {Qf : D -> Hp -> Prop} {Er : Value -> Shared -> Prop} (W : vJ X.K X.mg x st pn hs d0) (G : vq X) (hr : bZ (k + 2) X.A) (hN : X.N.Nodup) (ok : gF X.N X.env.scope scope []) (hsc : Gn scope = true) (hgx : Gl X x)
    (hbind:∀ fd:FuncData,fd.params=⟨[],[],none,[],[],none,[]⟩->fd.defaults = .none->fd.kwdefaults = .none->bindArgs fd ⟨[],[]⟩=pure []) (I:Inv X pins σ H s)
    (hb:∀ H2,Iu H H2->∀ (wc:WC) (A:Around) (s:Shared) (qn:Str) (L f:Addr) (cl:List (Str × Addr)) (cd:Value) (s5:Shared),bZ k (A.deeper (PySem.W.envX qn scope L f cd cl))->Inv (B5 X (wcx X (ah st) wc).stack s H2 scope (PySem.W.envX qn scope L f cd cl) (A.deeper (PySem.W.envX qn scope L f cd cl)) (tN X (wcx X (ah st) wc).stack H2 s (A.deeper (PySem.W.envX qn scope L f cd cl)) (PySem.W.envX qn scope L f cd cl) E)) [] σ H2 s5 ->
     wpAny (model X.prog X.w) (A.deeper (PySem.W.envX qn scope L f cd cl)) (eval body (PySem.W.envX qn scope L f cd cl)) (EP (B5 X (wcx X (ah st) wc).stack s H2 scope (PySem.W.envX qn scope L f cd cl) (A.deeper (PySem.W.envX qn scope L f cd cl)) (tN X (wcx X (ah st) wc).stack H2 s (A.deeper (PySem.W.envX qn scope L f cd cl)) (PySem.W.envX qn scope L f cd cl) E)) [] σ Qg) (tN X (wcx X (ah st) wc).stack H2 s (A.deeper (PySem.W.envX qn scope L f cd cl)) (PySem.W.envX qn scope L f cd cl) E) s5)
    (hg:∀ y H',Qg y H'->Qf d0 H') (hE:∀ a ca H',E a ca H'->∃ C d c1,ca=some C /\ pC X.K X.mg c1 C /\ (∀ wc,Hx (wcx X (ah st) wc) C hs d) /\ Qf d H')
    (hdb:(x == ("__debug__" : Str))=false) (hs2:starEach [.Lambda ⟨[],[],none,[],[],none,[]⟩ body scope lpos] X.env=(false,eval (.Lambda ⟨[],[],none,[],[],none,[]⟩ body scope lpos) X.env) :: starEach [] X.env) :
    wpAny (model X.prog X.w) X.A (eval (.Call (.Name x p) [.Lambda ⟨[],[],none,[],[],none,[]⟩ body scope lpos] [] pos) X.env) (EP X pins σ fun y H'=>∃ d,(∀ (K:PySem.W.Frag) (Fz:Addr->Prop) (H:Hp),Dr K Fz H y d) /\ Qf d H') Er s:=by
 obtain ⟨hcell,hco,hgen⟩:=Mi hsc
 obtain ⟨fw,fdw,F,hm⟩:=W.d.ex
 obtain ⟨np,cp,ep,tp,rp,p0,h0,hs',c0,j0,rfl,hbd,hc0,hsw⟩:=W.body
 refine wpAny_Call_Name_kw (si I hgx hm ?_ hdb)
 refine PySem.W.callWith_K (h₀:=X.base) I.ok.mod.kin F.kp ?_ hs2 rfl
 rw [hs2]
 show wpAny _ _ (spliced ((false,eval (.Lambda ⟨[],[],none,[],[],none,[]⟩ body scope lpos) X.env) :: [])) _ _ s
 refine Calls.spliced_cons ?_
 refine Lj (own:=[]) I G rfl ok fun f fd c H2 s2 cd I2 ct hfd=>?_
 obtain ⟨nm,qual,pm,ctv,hfd⟩:=hfd
 refine Calls.spliced_nil ⟨I2.kIn,?_⟩
 refine wpAny_mono (Kf (Qg:=Qg) (E:=E) (Qf:=Qf) (Er:=Er) F W.S W.loc W.db hbd hc0 hsw W.bind I2 hr ok hN hcell hco hgen (by simp) hfd ct hbind (fun wc A s qn L cl cdv s5=>hb H2 cd wc A s qn L f cl cdv s5) hg hE) (fun u s3 ⟨y,H3,I3,r3,q3⟩=>?_) fun _ _ z=>z
 exact ⟨y,H3,I3.lD,r3,q3⟩
end
theorem Aq{K:PySem.W.Frag}{Fz:Addr->Prop}{ρ:Rho}{σ:St}{H H2:Hp}(r:Rel K Fz ρ σ H)(cd:Iu H H2):aP K Fz Fz ρ ρ σ H H2 [] [] :=
 ⟨r.rP (Ar (K:=K) r.fzl cd) fun _ z=>.inl z,.nil,fun p hp=>absurd (show p ∈ ([]:List Addr) from hp) (by simp),List.nodup_nil,Ar (K:=K) r.fzl cd,fun _ z=>z,.refl⟩
def yu(fe:Fe)(d0:D):Fe:=fun ρ=>(fe ρ).bind fun p=>some (.d d0,p.2)
def FE(ρ:Rho):Bool:=ρ.all fun o=>match o with | some (.ob _ _ _)=>false | _=>true
theorem Ot{ρ:Rho}(h:FE ρ=true){i:Nat}{c:Str}{g:Nat}{ns:List Str}(e:ρ[i]? = some (some (.ob c g ns))):False:=by
 have:=List.all_eq_true.mp h _ (List.mem_of_getElem? e)
 cases this
noncomputable def nQ (be:Rho->Rho->Prop) (d:D) (f:Fe):Fe:=fun ρ=>open Classical in if (∃ ρ1,be ρ ρ1) /\ FE ρ=true then some (.d d,ρ) else f ρ
theorem K3{be:Rho->Rho->Prop}{d:D}{f:Fe}{ρ:Rho}(h:∃ ρ1,be ρ ρ1)(n:FE ρ=true):nQ be d f ρ=some (.d d,ρ):=by unfold nQ;rw [if_pos ⟨h,n⟩]
theorem Na{be:Rho->Rho->Prop}{d:D}{f:Fe}{ρ:Rho}(h:¬ ∃ ρ1,be ρ ρ1):nQ be d f ρ=f ρ:=by unfold nQ;rw [if_neg fun z=>h z.1]
theorem lB{B:List D->Prop}{fa:Fa}(h:IU fa):∀ ρ ρ1,fY B fa ρ ρ1->ρ1=ρ:=fun ρ ρ1 ⟨ds,e,_⟩=>h _ _ _ e
section
variable {X:Cx} {k:Nat} {x pn:Str} {st:Stmt} {hs:List ExceptHandler} {d0 d:D} {C:Addr} {c1:Str} {body:Expr} {scope:Scope} {lpos p pos:Pos} {fe f:Fe} {be:Rho->Rho->Prop}
theorem su (W : vJ X.K X.mg x st pn hs d0) (G : vq X) (hr : bZ (k + 2) X.A) (hN : X.N.Nodup) (ok : gF X.N X.env.scope scope []) (hsc : Gn scope = true) (hgx : Gl X x)
    (hn:InW X (ah st) k scope fun Y=>DE Y body fe)
    (hbind:∀ fd:FuncData,fd.params=⟨[],[],none,[],[],none,[]⟩->fd.defaults = .none->fd.kwdefaults = .none->bindArgs fd ⟨[],[]⟩=pure [])
    (hdb:(x == ("__debug__" : Str))=false:=by decide) (hs2:starEach [.Lambda ⟨[],[],none,[],[],none,[]⟩ body scope lpos] X.env=(false,eval (.Lambda ⟨[],[],none,[],[],none,[]⟩ body scope lpos) X.env) :: starEach [] X.env:=by rfl) :
    DE X (.Call (.Name x p) [.Lambda ⟨[],[],none,[],[],none,[]⟩ body scope lpos] [] pos) (yu fe d0):=by
 refine ⟨fun pins s σ H Q I h=>?_⟩
 obtain ⟨Fz,ρ,w,ρ',r,e,q⟩:=h
 unfold yu at e
 obtain ⟨⟨w1,ρ1⟩,e1,e2⟩:=Option.bind_eq_some_iff.mp e
 cases e2
 refine wpAny_mono (CP (Qg:=fun y H'=>∃ Fz1,aP X.K Fz Fz1 ρ ρ1 σ H H' [w1] [y]) (E:=fun _ _ _=>False) (Qf:=fun d H'=>d=d0 /\ ∃ Fz1,aP X.K Fz Fz1 ρ ρ1 σ H H' [] []) W G hr hN ok hsc hgx hbind I (fun H2 cd wc A s qn L f cl cdv s5 hrm i5=>?_) (fun y H' ⟨Fz1,p1⟩=>⟨rfl,Fz1,p1.drop⟩) (fun _ _ _ z=>z.elim) hdb hs2)
  (fun u s' ⟨y,H',I',r',dd,dr,hd,Fz1,p1⟩=>⟨y,H',I',r',q y H' Fz1 (p1.made (.val p1.rel.fzl (hd ▸ dr _ _ _)))⟩) (fun _ _ z=>z)
 have pc:=Aq r cd
 refine wpAny_mono ((hn wc A s H2 qn L f cl cdv hrm).ok [] s5 σ H2 (fun y H'=>∃ Fz1,aP X.K Fz Fz1 ρ ρ1 σ H H' [w1] [y]) (i5.jY _) ⟨Fz,ρ,w1,ρ1,pc.rel,e1,fun v H1 Fz1 p1=>⟨Fz1,pc.seq p1⟩⟩) (fun u s' ⟨y,H',I',r',q'⟩=>⟨y,H',I'.jY _,r',q'⟩) (fun _ _ z=>False.elim z)
theorem jH (W : vJ X.K X.mg x st pn hs d0) (G : vq X) (hr : bZ (k + 2) X.A) (hN : X.N.Nodup) (ok : gF X.N X.env.scope scope []) (hsc : Gn scope = true) (hgx : Gl X x)
    (hk:pC X.K X.mg c1 C) (hh:∀ wc,Hx (wcx X (ah st) wc) C hs d) (he:InW X (ah st) k scope fun Y=>RE Y C body be) (hpu:∀ ρ ρ1,be ρ ρ1->ρ1=ρ)
    (hn:DE X (.Call (.Name x p) [.Lambda ⟨[],[],none,[],[],none,[]⟩ body scope lpos] [] pos) f)
    (hbind:∀ fd:FuncData,fd.params=⟨[],[],none,[],[],none,[]⟩->fd.defaults = .none->fd.kwdefaults = .none->bindArgs fd ⟨[],[]⟩=pure [])
    (hdb:(x == ("__debug__" : Str))=false:=by decide) (hs2:starEach [.Lambda ⟨[],[],none,[],[],none,[]⟩ body scope lpos] X.env=(false,eval (.Lambda ⟨[],[],none,[],[],none,[]⟩ body scope lpos) X.env) :: starEach [] X.env:=by rfl) :
    DE X (.Call (.Name x p) [.Lambda ⟨[],[],none,[],[],none,[]⟩ body scope lpos] [] pos) (nQ be d f):=by
 refine ⟨fun pins s σ H Q I h=>?_⟩
 obtain ⟨Fz,ρ,w,ρ',r,e,q⟩:=h
 unfold nQ at e
 split at e
 . rename_i hh2
   obtain ⟨⟨ρ1,hb1⟩,hno⟩:=hh2
   cases e
   have e1:=hpu _ _ hb1
   subst e1
   refine wpAny_mono (CP (Qg:=fun _ _=>False) (E:=fun _ ca H'=>ca=some C /\ ∃ Fz1,aP X.K Fz Fz1 ρ1 ρ1 σ H H' [] []) (Qf:=fun d' H'=>d'=d /\ ∃ Fz1,aP X.K Fz Fz1 ρ1 ρ1 σ H H' [] []) W G hr hN ok hsc hgx hbind I (fun H2 cd wc A s qn L f cl cdv s5 hrm i5=>?_) (fun y H' z=>z.elim) (fun _ ca H' ⟨z1,z2⟩=>⟨C,d,c1,z1,hk,hh,rfl,z2⟩) hdb hs2)
    (fun u s' ⟨y,H',I',r',dd,dr,hd,Fz1,p1⟩=>⟨y,H',I',r',q y H' Fz1 (p1.made (.val p1.rel.fzl (hd ▸ dr _ _ _)))⟩) (fun _ _ z=>z)
   have pc:=Aq r cd
   refine (he wc A s H2 qn L f cl cdv hrm).ok _ (fun _ ca H'=>ca=some C /\ ∃ Fz1,aP X.K Fz Fz1 ρ1 ρ1 σ H H' [] []) [] s5 σ H2 Fz ρ1 ρ1 (fun H s e s' I' c=>?_) (i5.jY _) pc.rel hb1 (fun a H' Fz' sp=>⟨rfl,Fz',?_⟩) _
   . exact HF (X:=B5 X (wcx X (ah st) wc).stack _ _ scope _ _ _) rfl rfl rfl I' c
   . have sp1:=sp fun _=>true
     have st1:Step (Own ρ1 σ) Fz Fz' H2 H':=sp1.step.weak fun z hz=>hz.elim id fun ⟨i,cc,g,ns,z1,_⟩=>(Ot hno z1).elim
     exact pc.seq ⟨sp1.rel,.nil,fun p hp=>absurd (show p ∈ ([]:List Addr) from hp) (by simp),List.nodup_nil,st1,fun _ z=>z,.refl⟩
 . exact hn.ok pins s σ H Q I ⟨Fz,ρ,w,ρ',r,e,q⟩
end
end
end L2.Q3
end
section
namespace L2
open PySem PySem.Spec PyProof.Rows
def SN(i j k:Nat)(ta:TA):TS:=fun D σ H=>ta σ H fun vs H1=>∃ v w u,vs = [v,w,u] /\ D.nx (((σ.set i (some v)).set j (some w)).set k (some u)) H1
theorem OB {X : Cx} {pos : Pos} {i j k : Nat} {x y z : Str} {a b c : Expr} {ta : TA} {px py pz pt : Pos} {kt k2 pt2} (hc : X.calm = true) (hN : X.N.Nodup) (hi : X.N[i]? = some x) (hj : X.N[j]? = some y) (hk : X.N[k]? = some z) (hij : i ≠ j) (hik : i ≠ k) (hjk : j ≠ k)
    (hx:X.env.scope.names.lookup x=some .local) (hy:X.env.scope.names.lookup y=some .local) (hz:X.env.scope.names.lookup z=some .local) (ha:PA X [a,b,c] ta)
    (hw:swappedStores [.Tuple [.Name x px,.Name y py,.Name z pz] kt pt] (.Tuple [a,b,c] k2 pt2) X.env=pure (some [x,y,z]))
    (hs:swapsWithSole [.Tuple [.Name x px,.Name y py,.Name z pz] kt pt] (.Tuple [a,b,c] k2 pt2) pos.line X.env=pure false:=by rfl) :
    PS X (.Assign [.Tuple [.Name x px,.Name y py,.Name z pz] kt pt] (.Tuple [a,b,c] k2 pt2) pos) (SN i j k ta):=by
 intro pins s σ H D I h
 rw [exec_Assign_arm];refine wpAny_bind (wpAny_standAt ?_)
 rw [hs];refine wpAny_bind (wpAny_pure ?_)
 rw [if_neg (by decide)]
 refine wpAny_bind (Tuple_ (thn (ha _ pins s σ H _ I h) fun us s1 ⟨vs,H1,I1,r1,q1⟩=>?_))
 obtain ⟨v,w,u,e1,q1⟩:=q1
 subst e1
 obtain ⟨u1,u2,u3,rfl,rv,rw',ru⟩:∃ u1 u2 u3,us = [u1,u2,u3] /\ RelV v u1 /\ RelV w u2 /\ RelV u u3:=by
  cases r1 with
  | cons p q=>cases q with
   | cons p' q'=>cases q' with
    | cons p'' q''=>cases q'';exact ⟨_,_,_,rfl,p,p',p''⟩
 refine wpAny_newObj_type ?_ (by show 3 <= sizeLine;decide)
 have I2:Inv X pins σ H1 { s1 with heap:=s1.heap.push { cls:=.type "tuple",data:=.seq [u1,u2,u3].toArray } }:=I1.kept (t':=s1.toks) fun b o e=>Heap.get?_push_of_some _ e
 rw [hw];refine wpAny_bind (wpAny_pure ?_)
 show wpAny (model X.prog X.w) X.A (do rule "assign.swapped-stores";let items <- unpackItems (.ref s1.heap.objs.size) 3 none;assignInOrder [fun v=>bindName X.env z v,fun v=>bindName X.env y v,fun v=>bindName X.env x v] items.reverse;pure Flow.next) _ _ _
 refine wpAny_bind (wpAny_rule (wpAny_bind (unpackItems_tuple (items:=#[u1,u2,u3]) (I.ok.hd hc) (IsTup.new s1.heap _) fun h' hx'=>?_)))
 have I3:=I2.kept (h':=h') (t':=s1.toks) fun b o e=>hx' b o (Nat.ne_of_lt (Heap.lt_size e)) e
 show wpAny _ _ (assignInOrder [fun v=>bindName X.env z v,fun v=>bindName X.env y v,fun v=>bindName X.env x v] [u3,u2,u1] >>= fun _=>pure Flow.next) _ _ _
 refine wpAny_bind (assignInOrder_cons (wpAny_bindName (rK I3 hN hk (.inl hz) ru (fun s2 I4=>?_) (.inr hz))))
 refine assignInOrder_cons (wpAny_bindName (rK I4 hN hj (.inl hy) rw' (fun s3 I5=>?_) (.inr hy)))
 refine assignInOrder_cons (wpAny_bindName (rK I5 hN hi (.inl hx) rv (fun s4 I6=>assignInOrder_nil (wpAny_pure ?_)) (.inr hx)))
 have e:((σ.set k (some u)).set j (some w)).set i (some v)=((σ.set i (some v)).set j (some w)).set k (some u):=by
  rw [List.set_comm _ _ hjk.symm,List.set_comm _ _ hik.symm,List.set_comm _ _ hij.symm]
 rw [e] at I6
 exact ⟨_,H1,I6,q1⟩
end L2
namespace L2.Q3
open PySem PySem.Spec PyProof.Rows
theorem As{K:PySem.W.Frag}{fix:Nat->Bool}{Fz:Addr->Prop}{ρ:Rho}{σ:St}{H:Hp}{i:Nat}{x:D}{v:V}(r:Rel K Fz ρ σ H)(hi0:fix i=false)(hlt:i < 40)(d:Dr K Fz H v x):cX K fix Fz Fz ρ (ρ.set i (some (.d x))) σ (σ.set i (some v)) H H:=by
 obtain ⟨h1,h2⟩:=r.store i hlt (w:=.d x) (v:=v) d fun xs p z1=>(nomatch z1)
 refine ⟨h1,.refl r.fzl,fun p z=>?_,Eh hi0,fun k w hk z=>?_,by rw [List.length_set],fun p z=>.inl (Oh (K:=K) (Fz:=Fz) (H:=H) (w:=.d x) d z)⟩
 . rcases h2 p z with z | ⟨z1,_,z2⟩
   . exact .inl z
   . cases z2
 . obtain ⟨w3,y3,y4⟩:=Eg (x:=some (W.d x)) hi0 k w hk z
   exact ⟨w3,y3,y4⟩
def Cw(i j k:Nat)(fa:Fa):Fs:=fun ρ=>(fa ρ).bind fun p=>match p.1 with
 | [.d x,.d y,.d z]=>some (.nx,((p.2.set i (some (.d x))).set j (some (.d y))).set k (some (.d z)))
 | _=>none
theorem PJ{i j k:Nat}{fa:Fa}{ρ:Rho}{Q:Out × Rho->Prop}:oS (Cw i j k fa ρ) Q ↔ oS (fa ρ) fun p=>oS (match p.1 with
 | [.d x,.d y,.d z]=>some (Out.nx,((p.2.set i (some (.d x))).set j (some (.d y))).set k (some (.d z)))
 | _=>none) Q:=aC
theorem OC {X : Cx} {fix : Nat -> Bool} {pos : Pos} {i j k : Nat} {x y z : Str} {a b c : Expr} {fa : Fa} {px py pz pt : Pos} {kt k2 pt2} (hfi : fix i = false) (hfj : fix j = false) (hfk : fix k = false) (hc : X.calm = true) (hN : X.N.Nodup) (hi : X.N[i]? = some x) (hj : X.N[j]? = some y) (hk : X.N[k]? = some z) (hij : i ≠ j) (hik : i ≠ k) (hjk : j ≠ k)
    (hx:X.env.scope.names.lookup x=some .local) (hy:X.env.scope.names.lookup y=some .local) (hz:X.env.scope.names.lookup z=some .local) (ha:DA X [a,b,c] fa)
    (hw:swappedStores [.Tuple [.Name x px,.Name y py,.Name z pz] kt pt] (.Tuple [a,b,c] k2 pt2) X.env=pure (some [x,y,z]))
    (hs:swapsWithSole [.Tuple [.Name x px,.Name y py,.Name z pz] kt pt] (.Tuple [a,b,c] k2 pt2) pos.line X.env=pure false:=by rfl) (hli:i < 40:=by first | decide | omega) (hlj:j < 40:=by first | decide | omega) (hlk:k < 40:=by first | decide | omega) :
    DS X fix (.Assign [.Tuple [.Name x px,.Name y py,.Name z pz] kt pt] (.Tuple [a,b,c] k2 pt2) pos) (Cw i j k fa) :=
 ⟨PS.imp (OB hc hN hi hj hk hij hik hjk hx hy hz ha.ok hw hs) fun D σ H h=>by
  obtain ⟨Fz,ρ,o,ρ',r,e,q⟩:=h
  unfold Cw at e
  cases e1:fa ρ with
  | none=>rw [e1] at e;cases e
  | some p =>
   obtain ⟨ws,ρ1⟩:=p
   simp only [e1,Option.bind_some] at e
   split at e
   . rename_i d1 d2 d3
     cases e
     refine ⟨Fz,ρ,[.d d1,.d d2,.d d3],ρ1,r,e1,fun vs H1 Fz1 p1=>?_⟩
     obtain ⟨v1,v2,v3,rfl,r1,r2,r3⟩:∃ v1 v2 v3,vs = [v1,v2,v3] /\ Dr X.K Fz1 H1 v1 d1 /\ Dr X.K Fz1 H1 v2 d2 /\ Dr X.K Fz1 H1 v3 d3:=by
      have:=p1.rep
      cases this with
      | cons a t=>cases t with
       | cons b t=>cases t with
        | cons c t=>cases t;exact ⟨_,_,_,rfl,a,b,c⟩
     refine ⟨v1,v2,v3,rfl,q _ H1 Fz1 ?_⟩
     have s0:cX X.K fix Fz Fz1 ρ ρ1 σ σ H H1:=p1.drop.sp
     have s1:=As (fix:=fix) s0.rel hfi hli r1
     have s2:=As (fix:=fix) s1.rel hfj hlj r2
     exact (s0.trans s1).trans (s2.trans (As (fix:=fix) s2.rel hfk hlk r3))
   . cases e⟩
def nR(fe:Fe):Fe:=fun ρ=>(fe ρ).bind fun p=>(f7 p.2 p.1).bind fun z=>some (.d z.1,z.2)
theorem HM{X:Cx}{e:Expr}{fe:Fe}(h:DE X e fe):DE X e (nR fe):=by
 refine ⟨PE.imp h.ok fun σ H Q h=>?_⟩
 obtain ⟨Fz,ρ,w,ρ',r,e,q⟩:=h
 unfold nR at e
 obtain ⟨⟨w1,ρ1⟩,e1,e2⟩:=Option.bind_eq_some_iff.mp e
 obtain ⟨⟨x,ρ2⟩,e3,e4⟩:=Option.bind_eq_some_iff.mp e2
 cases e4
 refine ⟨Fz,ρ,w1,ρ1,r,e1,fun v H1 Fz1 p1=>?_⟩
 obtain ⟨Fz2,p2,d2⟩:=p1.esc (xs:=[x]) (ρ2:=ρ2) (by unfold bw;have e3:f7 ρ1 w1=some (x,ρ2):=e3;rw [e3];rfl)
 cases d2 with
 | cons dx _=>exact q v H1 Fz2 (p2.made (.val p2.rel.fzl dx))
theorem Li{fe:Fe}{ρ:Rho}{Q:W × Rho->Prop}:oS (nR fe ρ) Q ↔ oS (fe ρ) fun p=>oS (f7 p.2 p.1) fun z=>Q (.d z.1,z.2):=by unfold nR;simp only [aC,au]
end L2.Q3
end
section
namespace L2.Q3.Tx
open PySem PySem.Spec PyProof.Rows
section
def pO:Fs:=dP 2 (vE (mE "int" (ag 0)) (vE (Gd (mE "bool" (ag 0))) (my (nV pLe qLe) (nV pLt qLt) (fC (.int 0)) (ag 0) (ag 1))))
def dc:Fn:=fnOf [true,true] 2 pO
def iV:Fs:=bf (fIf (Ht (ig (ftV (mE "tuple" (ag 1)))) (Ht (ftB (fe2 (nV pGt qGt) (aI f9 (aa (ag 1) (aj))) (fC (.int 2)))) (ig (ftV (aI JG (aa (lh 1 (gN 2) (l4) (aw dc (aa (ag 2) (aa (fC (.int 3)) (aj)))) [2]) (aj))))))) (dP 2 (fC (.bool false))) (fNx)) (dP 2 (fe2 (gIn false) (ag 1) (aw cy (aa (fe2 gIx (ag 0) (fC (.int 0))) (aj)))))
def dE:Fn:=fnOf [true,true] 3 iV
def eF:Rho->Prop:=bIf (ig (ftV (aw jw (aa (ag 0) (aa (ag 1) (aj)))))) (wK (aa (fC (.str "this is no spot of the house")) (aj)))
def bx:List PyData->Prop:=bOf 2 eF
def eR:Rho->Prop:=bE (fY bx (aa (ag 0) (aa (ag 1) (aj))))
def cN:List PyData->Prop:=bOf 3 eR
def iW:Rho->Prop:=bE (fY cN (aa (ag 0) (aa (ag 1) (aa (ag 2) (aj)))))
def d8:List PyData->Prop:=bOf 3 iW
def cQ:Rho->Prop:=bIf (ig (ftV (aw aZ (aa (ag 0) (aa (ag 1) (aa (ag 2) (aj))))))) (wK (aa (FG "this is no whole number from " (ag 1) " to " (ag 2)) (aj)))
def aX:List PyData->Prop:=bOf 3 cQ
def dM:Rho->Prop:=Nj (kX (aw cf (aa (ag 0) (aa (ag 1) (aj))))) (bE (fY aX (aa (ag 2) (aa (fC (.int 0)) (aa (fC (.int 7)) (aj))))))
def bV:List PyData->Prop:=bOf 3 dM
def gA:Rho->Prop:=bE (fY bV (aa (ag 0) (aa (ag 1) (aa (ag 2) (aj)))))
def cV:List PyData->Prop:=bOf 3 gA
def cR:Rho->Prop:=bIf (ig (ftV (aw aZ (aa (ag 1) (aa (fC (.int 0)) (aa (fe2 uG (aI f9 (aa (fe2 gIx (ag 0) (fC (.int 1))) (aj))) (fC (.int 1))) (aj))))))) (wK (aa (fC (.str "this is no number of a recipe of the house")) (aj)))
def aY:List PyData->Prop:=bOf 2 cR
def eT:Rho->Prop:=bE (fY aY (aa (ag 0) (aa (ag 1) (aj))))
def bW:List PyData->Prop:=bOf 8 eT
def dO:Rho->Prop:=bE (fY aS (aa (ag 0) (aa (ag 1) (aj))))
def bG:List PyData->Prop:=bOf 6 dO
noncomputable def pP:Fs:=bf (cG 4 (aw dE (aa (ag 0) (aa (ag 1) (aj))))) (bf (cG 5 (eK (aa (fe2 gIx (eK (aa (fC (.str "spot")) (aa (fe2 gIx (eK (aa (fC (.str "number")) (aa (fC (.str "none")) (aj)))) (aI ve (aa (aw dc (aa (ag 2) (aa (fC (.int 8)) (aj)))) (aj)))) (aj)))) (aI ve (aa (ag 4) (aj)))) (aj)))) (bf (cG 5 (fe2 j4 (fe2 j4 (ag 5) (ag 5)) (eK (aa (fe2 gIx (eK (aa (fC (.str "recipe")) (aa (fC (.str "none")) (aj)))) (aI ve (aa (aw dc (aa (ag 3) (aa (aI f9 (aa (fe2 gIx (ag 0) (fC (.int 1))) (aj))) (aj)))) (aj)))) (aj))))) (bf (kX (jE hAppend (ag 5) (aa (fe2 gIx (eK (aa (fC (.str "tasting")) (aa (fC (.str "none")) (aj)))) (aI ve (aa (aw dc (aa (ag 3) (aa (aI f9 (aa (fe2 gIx (ag 0) (fC (.int 2))) (aj))) (aj)))) (aj)))) (aj)))) (bf (cG 6 (eK (aa (nQ (fY d8 (aa (ag 0) (aa (ag 1) (aa (ag 2) (aj))))) (.str "spot") (nQ (fY cV (aa (ag 0) (aa (ag 1) (aa (ag 2) (aj))))) (.str "number") (yu (aw jx (aa (ag 0) (aa (ag 1) (aa (ag 2) (aj))))) (.str "none")))) (aj)))) (bf (kX (jE hAppend (ag 6) (aa (nQ (fY cN (aa (ag 0) (aa (ag 1) (aa (ag 2) (aj))))) (.str "spot") (nQ (fY bV (aa (ag 0) (aa (ag 1) (aa (ag 2) (aj))))) (.str "number") (yu (aw jR (aa (ag 0) (aa (ag 1) (aa (ag 2) (aj))))) (.str "none")))) (aj)))) (bf (kX (jE hAppend (ag 6) (aa (nQ (fY bW (aa (ag 0) (aa (ag 3) (aj)))) (.str "recipe") (yu (aw fL (aa (ag 0) (aa (ag 3) (aj)))) (.str "none"))) (aj)))) (bf (kX (jE hAppend (ag 6) (aa (nQ (fY bG (aa (ag 0) (aa (ag 3) (aj)))) (.str "tasting") (yu (aw dY (aa (ag 0) (aa (ag 3) (aj)))) (.str "none"))) (aj)))) (dP 4 (fe2 lZ (ag 6) (ag 5))))))))))
noncomputable def df:Fn:=fnOf [true,true,true,true] 7 pP
noncomputable def wJ:Fs:=bf (cG 1 (aw jy (aa (aw eQ (aa (ag 0) (aa (fC (.int 0)) (aj)))) (aj)))) (bf (cG 2 (aw jz (aa (ag 1) (aj)))) (bf (cG 3 (aw cy (aa (fe2 gIx (ag 2) (fC (.int 0))) (aj)))) (bf (zY (vp (aa (fC (.int 12)) (aj))) (gN 4) (bf (Cw 7 8 9 (aa (fe2 gIx (ag 3) (aw ay (aa (ag 1) (aa (aI f9 (aa (ag 3) (aj))) (aj))))) (aa (aw ay (aa (ag 1) (aa (fC (.int 10)) (aj)))) (aa (aw ay (aa (ag 1) (aa (fC (.int 10)) (aj)))) (aj))))) (bf (fIf (ftB (fe2 lZ (aw ay (aa (ag 1) (aa (fC (.int 2)) (aj)))) (fC (.int 0)))) (cG 7 (nR (aw (bJ 6) (aa (ag 1) (aa (ag 7) (aj)))))) (fNx)) (bf (fIf (ftB (fe2 lZ (aw ay (aa (ag 1) (aa (fC (.int 3)) (aj)))) (fC (.int 0)))) (cG 8 (nR (aw (br 6) (aa (ag 1) (aa (fC (.int 2)) (aj)))))) (fNx)) (bf (fIf (ftB (fe2 lZ (aw ay (aa (ag 1) (aa (fC (.int 3)) (aj)))) (fC (.int 0)))) (cG 9 (nR (aw (br 6) (aa (ag 1) (aa (fC (.int 2)) (aj)))))) (fNx)) (fIf (ig (ftV (aw df (aa (ag 2) (aa (ag 7) (aa (ag 8) (aa (ag 9) (aj)))))))) (dP 1 (fC (.bool false))) (fNx))))))) (bf (cG 5 (eK (aa (eM (aa (aI f9 (aa (fe2 gIx (ag 2) (fC (.int 0))) (aj))) (aj))) (aa (eM (aa (fC (.int 0)) (aa (fe2 gIx (fe2 gIx (ag 2) (fC (.int 0))) (fC (.int 0))) (aj)))) (aa (eM (aj)) (aa (fC .none) (aj))))))) (bf (cG 6 (eK (aa (eM (aa (fe2 gIx (ag 5) (fC (.int 0))) (aa (fC (.int 8)) (aa (aI f9 (aa (fe2 gIx (ag 2) (fC (.int 1))) (aj))) (aj))))) (aa (eM (aa (fe2 gIx (ag 5) (fC (.int 1))) (aa (fe1 pH (fC (.int 1))) (aa (aI f9 (aa (fe2 gIx (ag 2) (fC (.int 2))) (aj))) (aj))))) (aa (eM (aa (fe2 gIx (ag 5) (fC (.int 2))) (aa (fC (.bool true)) (aa (fC (.bool true)) (aj))))) (aa (eM (aa (fe2 gIx (ag 5) (fC (.int 3))) (aa (fC (.str "0")) (aa (fe1 pH (fC (.int 1))) (aj))))) (aj))))))) (dP 1 (aI JG (aa (sU eU rJ (jg (ag 6)) (gT 3 (cE (gN 7) (cE (gN 8) (cE (gN 9) (nO))))) (l4) (aw df (aa (ag 2) (aa (ag 7) (aa (ag 8) (aa (ag 9) (aj)))))) [7,8,9]) (aj)))))))))
noncomputable def lx:Fn:=fnOf [true] 10 wJ
end
end L2.Q3.Tx
end
section
namespace L2.Q3.KI
open PySem PySem.Spec PyProof.Rows L2.Q3.Tx
section
def top(i:Nat):Stmt:=PySem.Challenge.pw_tastehouse_k06_first_refusals.main.body.getD i (.Pass ⟨0,0,0,0⟩)
structure Tf (K:PySem.W.Frag) (mg:Str->Option Value):Prop where
 Pf:mg "all" = none
 MU:mg "bool" = none
 xw:mg "enumerate" = none
 vM:mg "int" = none
 cA:mg "isinstance" = none
 ik:mg "len" = none
 MV:mg "list" = none
 SY:mg "min" = none
 jl:mg "range" = none
 S0:mg "set" = none
 MW:mg "sorted" = none
 Pg:mg "str" = none
 fZ:mg "tuple" = none
 MX:CS K "bool"
 MY:CS K "int"
 Ta:CS K "str"
 yK:CS K "tuple"
 xx:∃ t,mg "MOST_NAME" = some (.int 7 t)
def eY:Stmt:=top 38
theorem dn{X:Cx}{fix:Nat->Bool}(i:Nat){x:Str}{pos:Pos}(hN:X.N.Nodup)(hi:fix i=false:=by rfl)(hn:X.N[i]? = some x:=by rfl)(hx:Loc X.env.scope x:=by first | exact .inl rfl | exact .inr rfl)(hf:X.fn x=true \/ X.env.scope.names.lookup x=some .local:=by first | exact .inl rfl | exact .inr rfl | assumption)(hlt:i < 40:=by decide):DG X fix (.Name x pos) (gN i):=Oq hi hN hn hx hf hlt
theorem dst{X:Cx}{fix:Nat->Bool}{pos pos':Pos}{e:Expr}{fe:Fe}(i:Nat){x:Str}(hN:X.N.Nodup)(he:DE X e fe)(hi:fix i=false:=by rfl)(hn:X.N[i]? = some x:=by rfl)(hx:Loc X.env.scope x:=by first | exact .inl rfl | exact .inr rfl)(hs:swapsWith e (some (.Name x pos')) pos.line X.env=pure false:=by rfl)(hf:X.fn x=true \/ X.env.scope.names.lookup x=some .local:=by first | exact .inl rfl | exact .inr rfl | assumption)(hlt:i < 40:=by decide):DS X fix (.Assign [.Name x pos'] e pos) (cG i fe):=QQ hi hN hn hx he hs hf hlt
theorem dcc{X:Cx}{k l np:Nat}{x:Str}{F:Fn}{p pos:Pos}{e:Expr}{es:List Expr}{fa:Fa}(C:Cal X.prog X.w X.K X.mg X.base k x np F)(hr:bZ l X.A)(ha:DAn X (e :: es) fa np)(hk:k <= l:=by decide)(hg:Gl X x:=by rfl) (hdb:(x == ("__debug__" : Str))=false:=by decide) (he:starEach (e :: es) X.env=(false,eval e X.env) :: starEach es X.env:=by rfl) (hpl:(backTo pos (starEach es X.env)).any (·.1)=false:=by rfl):DE X (.Call (.Name x p) (e :: es) [] pos) (aw F fa):=ij C (hr.mono hk) hg ha hdb he hpl
theorem scK{N P:List Str}{sc:Scope}(a:sc.kind = .function:=by rfl)(b:sc.isCoroutine=false:=by rfl)(c:sc.isGenerator=false:=by rfl)(d:N.Nodup:=by decide +kernel)(e:N.take P.length=P:=by rfl)(f:∀ x ∈ P,sc.names.lookup x=some .local \/ sc.names.lookup x=some .cell:=by decide +kernel)(g:∀ y ∈ sc.names,y.2 ≠ .free:=by decide +kernel):aN N P sc:=⟨a,b,c,d,e,f,g⟩
theorem dv{X:Cx}(i:Nat){x:Str}{pos:Pos}(hN:X.N[i]? = some x:=by rfl)(hv:Vis X.env.scope x:=by first | exact .inl rfl | exact .inr (.inl rfl) | exact .inr (.inr rfl)) (hd:(x == ("__debug__" : Str))=false:=by decide) (hcd:(x == ("__classdict__" : Str))=false:=by decide):DE X (.Name x pos) (ag i):=QK hN hv hd hcd
variable {P:Program} {w:World} {K:PySem.W.Frag} {mg:Str->Option Value} {base:Heap}
theorem B7:aN ["_law_thing_here", "_law_many"] ["_law_thing_here", "_law_many"] (ah eY):=scK
theorem BQ(T:Tf K mg) (d:Dfn K mg "_law_is_in" eY):Cal P w K mg base 1 "_law_is_in" 2 dc :=
 dj (fx:=[true,true]) d B7 rfl (by decide) rfl (fun _ _ _ _ _ _ us hl=>match us,hl with | [_,_],_=>rfl) fun _ _ _ _ _ _ _ hr=>aH (bh (np:=2) (fun k h=>aK h) (Ah (nB (dv 0) T.MY rfl T.cA rfl T.vM (by decide +kernel)) (Ah (L0 (nB (dv 0) T.MX rfl T.cA rfl T.MU (by decide +kernel))) (Ag (Ae Ab cF wV cF (aq) (dv 0) (dv 1))))))
def eZ:Stmt:=top 31
theorem eI:aN ["_law_tables", "_law_found", "_law_evening", "_law_many", "_law_table"] ["_law_tables"] (ah eZ):=scK
theorem BR(T:Tf K mg) (d:Dfn K mg "_law_spots" eZ):Cal P w K mg base 1 "_law_spots" 1 cy :=
 dj (fx:=[true]) d eI rfl (by decide) rfl (fun _ _ _ _ _ _ us hl=>match us,hl with | [_],_=>rfl) fun _ _ _ _ _ _ _ hr=>aA (dst 1 eI.nd (dR (ak (fU (az)) (az)))) (aA (An PassesOwn.never rfl (IV rfl T.xw (dv 0)) (Al rfl (dS (dn 2 eI.nd) (dS (dn 3 eI.nd) (vG)))) (aH (dst 1 eI.nd (bL cI bQ (bL cI bQ (dv 1) (dR (ak (fU (ak (dv 2) (az))) (az)))) (Gr (own:=[("_law_table",4)]) rfl eI.nd rfl (gE rfl T.jl (ak (dv 3) (az))) (bB (by kernel_rfl)) (fun _ _ _ _ _=>dn 4 eI.nd) (fun _ _ _ _ _=>iz) (fun _ _ _ _ _=>fU (ak (dv 2) (ak (dv 4) (az))))))))) (aH (bh (np:=1) (fun k h=>aK h) (dv 1))))
def cM:Stmt:=top 39
theorem jJ:aN ["_law_house", "_law_thing_here", "_law_part"] ["_law_house", "_law_thing_here"] (ah cM):=scK
theorem wy(T:Tf K mg) (d:Dfn K mg "_law_is_place" cM) (d7:Cal P w K mg base 1 "_law_is_in" 2 dc) (de:Cal P w K mg base 1 "_law_spots" 1 cy):Cal P w K mg base 2 "_law_is_place" 2 dE :=
 dj (fx:=[true,true]) d jJ rfl (by decide) rfl (fun _ _ _ _ _ _ us hl=>match us,hl with | [_,_],_=>rfl) fun _ _ _ _ _ _ _ hr=>aA (gG (Gb (LY (jD (fT (nB (dv 1) T.yK rfl T.cA rfl T.fZ (by decide +kernel)))) (LY (eG Ac cF (bu bK bM rfl T.ik (by decide +kernel) (ak (dv 1) (az))) (aq) (cS _)) (LX (jD (fT (bu (LI rfl) Gj rfl T.Pf (by decide +kernel) (ak (Mq (own:=[("_law_part",2)]) rfl jJ.nd rfl (dv 1) (bB (by kernel_rfl)) (fun _ _ _ _ _=>dn 2 jJ.nd) (fun _ _ _ _ _=>iz) (fun _ _ _ _ _=>dcc d7 hr (af (dv 2) (af (aq) (ax))))) (az))))))))) (aH (bh (np:=2) (fun k h=>aK h) (lj))) (b9)) (aH (bh (np:=2) (fun k h=>aK h) (wW (QJ (SM hr)) IF (dv 1) (dcc de hr (af (bg (dv 0) (aq)) (ax))) (by rfl))))
def cC:Stmt:=top 37
theorem Ew:aN ["_law_call"] ["_law_call"] (ah cC):=scK
theorem DM{K:PySem.W.Frag}{mg:Str->Option Value} (d:Dfn K mg "_law_word" cC):vJ K mg "_law_word" cC "_law_call" (Pa (aG cC)) (.str "none") :=
 ⟨d,Ew,rfl,by decide,⟨_,_,_,_,_,_,_,_,_,_,rfl,rfl,rfl,fun _=>rfl⟩,fun _ _ _ _ _ _ us hl=>match us,hl with | [_],_=>rfl⟩
def dA:Stmt:=top 23
theorem kQ:aN ["spot", "length"] ["spot"] (ah dA):=scK
theorem yf(T:Tf K mg) (d:Dfn K mg "spots_around" dA):Cal P w K mg base 1 "spots_around" 1 gq :=
 dj (fx:=[true]) d kQ rfl (by decide) rfl (fun _ _ _ _ _ _ us hl=>match us,hl with | [_],_=>rfl) fun _ _ _ _ _ _ _ hr=>aH (bh (np:=1) (fun k h=>aK h) (Gr (own:=[("length",1)]) rfl kQ.nd rfl (Kt rfl T.jl (ak (bu bK bM rfl T.ik (by decide +kernel) (ak (dv 0) (az))) (ak (lq (aq)) (ak (lq (aq)) (az))))) (bB (by kernel_rfl)) (fun _ _ _ _ _=>dn 1 kQ.nd) (fun _ _ _ _ _=>iz) (fun _ _ _ _ _=>j9 (dv 0) (mC) (mD (dv 1)))))
def dB:Stmt:=top 24
theorem fK:aN ["house", "spot", "name", "around", "number", "recipe"] ["house", "spot", "name"] (ah dB):=scK
theorem yg(T:Tf K mg) (d:wu K mg "recipes_from" dB) (lW:Cal P w K mg base 1 "spots_around" 1 gq):Cal P w K mg base 3 "recipes_from" 3 bT :=
 yI (fx:=[true,true,true]) d fK rfl (by decide) rfl (fun _ _ _ _ _ _ us hl=>match us,hl with | [_,_,_],_=>rfl) fun _ _ _ _ _ _ _ hG hr=>aH (bh (np:=3) (fun k h=>aK h) (MN (own:=[("around",3),("number",4),("recipe",5)]) (vs1:=[4,5]) (k:=1) (hr.mono (by decide)) ⟨hG.ex⟩ rfl fK.nd rfl (by decide) rfl T.fZ (Am (dcc lW hr (af (dv 1) (ax)))) (bB (by kernel_rfl)) (by kernel_rfl) (fun _ _ _ _ _ _ _ _ hr=>dn 3 fK.nd) (fun _ _ _ _ _ _ _ _ hr=>iz) (fun _ _ _ _ _ _ _ _ hr=>IV rfl T.xw (bg (dv 0) (aq))) (fun _ _ _ _ _ _ _ _ hr=>Al rfl (dS (dn 4 fK.nd) (dS (dn 5 fK.nd) (vG)))) (fun _ _ _ _ _ _ _ _ hr=>IW (Gb (uI (eG (kP (vK hr)) fJ (bg (dv 5) (aq)) (dv 2) (cS _)) (sk (eG (kP (vK hr)) fJ (bg (dv 5) (aq)) (dv 3) (cS _)))))) (fun _ _ _ _ _ _ _ _ hr=>dv 4)))
def gm:Stmt:=top 3
theorem Ex:aN ["thing"] ["thing"] (ah gm):=scK
theorem DN(T:Tf K mg) (d:Dfn K mg "is_number" gm):Cal P w K mg base 1 "is_number" 1 jQ :=
 dj (fx:=[true]) d Ex rfl (by decide) rfl (fun _ _ _ _ _ _ us hl=>match us,hl with | [_],_=>rfl) fun _ _ _ _ _ _ _ hr=>aH (bh (np:=1) (fun k h=>aK h) (Ah (nB (dv 0) T.MY rfl T.cA rfl T.vM (by decide +kernel)) (Ag (L0 (nB (dv 0) T.MX rfl T.cA rfl T.MU (by decide +kernel))))))
def iC:Stmt:=top 4
theorem Gx:aN ["thing", "least", "most"] ["thing", "least", "most"] (ah iC):=scK
theorem Fu(T:Tf K mg) (d:Dfn K mg "is_whole" iC) (rB:Cal P w K mg base 1 "is_number" 1 jQ):Cal P w K mg base 2 "is_whole" 3 aZ :=
 dj (fx:=[true,true,true]) d Gx rfl (by decide) rfl (fun _ _ _ _ _ _ us hl=>match us,hl with | [_,_,_],_=>rfl) fun _ _ _ _ _ _ _ hr=>aH (bh (np:=3) (fun k h=>aK h) (Ah (dcc rB hr (af (dv 0) (ax))) (Ag (Ae Ab cF Ab cF (dv 1) (dv 0) (dv 2)))))
def bz:Stmt:=top 17
theorem kY:aN ["thing", "least", "most"] ["thing", "least", "most"] (ah bz):=scK
theorem sP(T:Tf K mg) (d:Dfn K mg "refuse_no_number" bz) (aU:Cal P w K mg base 2 "is_whole" 3 aZ):Cal P w K mg base 3 "refuse_no_number" 3 dF :=
 dj (fx:=[true,true,true]) d kY rfl (by decide) rfl (fun _ _ _ _ _ _ us hl=>match us,hl with | [_,_,_],_=>rfl) fun _ _ _ _ _ _ _ hr=>aH (gG (jD (fT (dcc aU hr (af (dv 0) (af (dv 1) (af (dv 2) (ax))))))) (aH (yJ)) (b9))
theorem jS{C_E:Addr} (cD:pC K mg "NoNumber" C_E) (d:Dfn K mg "refuse_no_number" bz) (aU:Cal P w K mg base 2 "is_whole" 3 aZ):fR P w K mg base 3 "refuse_no_number" 3 C_E aX :=
 jL d kY (by decide) rfl (fun _ _ _ _ _ _ us hl=>match us,hl with | [_,_,_],_=>rfl) fun _ _ _ _ _ _ _ hr=>en (IH (jD (fT (dcc aU hr (af (dv 0) (af (dv 1) (af (dv 2) (ax))))))) (en (vF cD rfl rfl (ak (QO (by decide) (by decide) (dv 1) (dv 2)) (az)))))
def eu:Stmt:=top 5
theorem AA:aN ["thing", "least", "most"] ["thing", "least", "most"] (ah eu):=scK
theorem zM(T:Tf K mg) (d:Dfn K mg "is_tuple_of" eu):Cal P w K mg base 1 "is_tuple_of" 3 hZ :=
 dj (fx:=[true,true,true]) d AA rfl (by decide) rfl (fun _ _ _ _ _ _ us hl=>match us,hl with | [_,_,_],_=>rfl) fun _ _ _ _ _ _ _ hr=>aH (bh (np:=3) (fun k h=>aK h) (Ah (nB (dv 0) T.yK rfl T.cA rfl T.fZ (by decide +kernel)) (Ag (Ae Ab cF Ab cF (dv 1) (bu bK bM rfl T.ik (by decide +kernel) (ak (dv 0) (az))) (dv 2)))))
def e8:Stmt:=top 6
theorem tV:aN ["tables", "thing", "evening"] ["tables", "thing"] (ah e8):=scK
theorem BS(T:Tf K mg) (d:Dfn K mg "is_spot_of" e8) (ng:Cal P w K mg base 1 "is_tuple_of" 3 hZ) (aU:Cal P w K mg base 2 "is_whole" 3 aZ):Cal P w K mg base 3 "is_spot_of" 2 je :=
 dj (fx:=[true,true]) d tV rfl (by decide) rfl (fun _ _ _ _ _ _ us hl=>match us,hl with | [_,_],_=>rfl) fun _ _ _ _ _ _ _ hr=>aA (gG (jD (fT (dcc ng hr (af (dv 1) (af (aq) (af (aq) (ax))))))) (aH (bh (np:=2) (fun k h=>aK h) (lj))) (b9)) (aA (gG (eG (kP (vK hr)) fJ (bu bK bM rfl T.ik (by decide +kernel) (ak (dv 1) (az))) (aq) (cS _)) (aH (bh (np:=2) (fun k h=>aK h) (lj))) (b9)) (aA (dst 2 tV.nd (bg (dv 1) (aq))) (aA (gG (jD (fT (dcc aU hr (af (dv 2) (af (aq) (af (bL rM j6 (bu bK bM rfl T.ik (by decide +kernel) (ak (dv 0) (az))) (aq)) (ax))))))) (aH (bh (np:=2) (fun k h=>aK h) (lj))) (b9)) (aH (bh (np:=2) (fun k h=>aK h) (Sz (wW (kP (vK hr)) fJ (bu bK bM rfl T.ik (by decide +kernel) (ak (dv 1) (az))) (aq) (cS _)) (Ag (dcc aU hr (af (bg (dv 1) (aq)) (af (aq) (af (bL rM j6 (bg (dv 0) (dv 2)) (aq)) (ax))))))))))))
def jr:Stmt:=top 2
theorem Ia:aN ["house", "thing"] ["house", "thing"] (ah jr):=scK
theorem GU(T:Tf K mg) (d:Dfn K mg "is_spot" jr) (pB:Cal P w K mg base 3 "is_spot_of" 2 je):Cal P w K mg base 4 "is_spot" 2 jw :=
 dj (fx:=[true,true]) d Ia rfl (by decide) rfl (fun _ _ _ _ _ _ us hl=>match us,hl with | [_,_],_=>rfl) fun _ _ _ _ _ _ _ hr=>aH (bh (np:=2) (fun k h=>aK h) (dcc pB hr (af (bg (dv 0) (aq)) (af (dv 1) (ax)))))
def bO:Stmt:=top 14
theorem mG:aN ["house", "thing"] ["house", "thing"] (ah bO):=scK
theorem u7(T:Tf K mg) (d:Dfn K mg "refuse_no_spot" bO) (ly:Cal P w K mg base 4 "is_spot" 2 jw):Cal P w K mg base 5 "refuse_no_spot" 2 cf :=
 dj (fx:=[true,true]) d mG rfl (by decide) rfl (fun _ _ _ _ _ _ us hl=>match us,hl with | [_,_],_=>rfl) fun _ _ _ _ _ _ _ hr=>aH (gG (jD (fT (dcc ly hr (af (dv 0) (af (dv 1) (ax)))))) (aH (yJ)) (b9))
theorem mn{C_E:Addr} (dw:pC K mg "NoSpot" C_E) (d:Dfn K mg "refuse_no_spot" bO) (ly:Cal P w K mg base 4 "is_spot" 2 jw):fR P w K mg base 5 "refuse_no_spot" 2 C_E bx :=
 jL d mG (by decide) rfl (fun _ _ _ _ _ _ us hl=>match us,hl with | [_,_],_=>rfl) fun _ _ _ _ _ _ _ hr=>en (IH (jD (fT (dcc ly hr (af (dv 0) (af (dv 1) (ax)))))) (en (vF dw rfl rfl (ak (gB) (az)))))
def jb:Stmt:=top 20
theorem xh:aN ["house", "spot", "name"] ["house", "spot", "name"] (ah jb):=scK
theorem Ju(T:Tf K mg) (d:Dfn K mg "all_at" jb) (dq:Cal P w K mg base 5 "refuse_no_spot" 2 cf) (iP:Cal P w K mg base 3 "refuse_no_number" 3 dF) (bS:Cal P w K mg base 3 "recipes_from" 3 bT):Cal P w K mg base 6 "all_at" 3 jR :=
 dj (fx:=[true,true,true]) d xh rfl (by decide) rfl (fun _ _ _ _ _ _ us hl=>match us,hl with | [_,_,_],_=>rfl) fun _ _ _ _ _ _ _ hr=>aA (iy (dcc dq hr (af (dv 0) (af (dv 1) (ax))))) (aA (iy (dcc iP hr (af (dv 2) (af (aq) (af (IG rfl T.xx.choose_spec) (ax)))))) (aH (bh (np:=3) (fun k h=>aK h) (dcc bS hr (af (dv 0) (af (dv 1) (af (dv 2) (ax))))))))
theorem u9{C_E:Addr} (d:Dfn K mg "all_at" jb) (eE:fR P w K mg base 5 "refuse_no_spot" 2 C_E bx):fR P w K mg base 6 "all_at" 3 C_E cN :=
 jL d xh (by decide) rfl (fun _ _ _ _ _ _ us hl=>match us,hl with | [_,_,_],_=>rfl) fun _ _ _ _ _ _ _ hr=>en (yF (iw (eE.mono (by decide)) hr rfl (af (dv 0) (af (dv 1) (ax)))))
theorem sS{C_E:Addr}(T:Tf K mg) (d:Dfn K mg "all_at" jb) (dq:Cal P w K mg base 5 "refuse_no_spot" 2 cf) (cO:fR P w K mg base 3 "refuse_no_number" 3 C_E aX):fR P w K mg base 6 "all_at" 3 C_E bV :=
 jL d xh (by decide) rfl (fun _ _ _ _ _ _ us hl=>match us,hl with | [_,_,_],_=>rfl) fun _ _ _ _ _ _ _ hr=>L1 (fix:=rS [true,true,true]) (iy (dcc dq hr (af (dv 0) (af (dv 1) (ax))))) (en (yF (iw (cO.mono (by decide)) hr rfl (af (dv 2) (af (aq) (af (IG rfl T.xx.choose_spec) (ax)))))))
def e9:Stmt:=top 26
theorem B8:aN ["numbers"] ["numbers"] (ah e9):=scK
theorem BU(T:Tf K mg) (d:Dfn K mg "nearest_of" e9):Cal P w K mg base 1 "nearest_of" 1 bU :=
 dj (fx:=[true]) d B8 rfl (by decide) rfl (fun _ _ _ _ _ _ us hl=>match us,hl with | [_],_=>rfl) fun _ _ _ _ _ _ _ hr=>aH (bh (np:=1) (fun k h=>aK h) (SA (fT (dv 0)) (bg (dv 0) (aq)) (Ec)))
def ff:Stmt:=top 19
theorem rZ:aN ["house", "spot", "name"] ["house", "spot", "name"] (ah ff):=scK
theorem Fv(T:Tf K mg) (d:Dfn K mg "found_at" ff) (bo:Cal P w K mg base 1 "nearest_of" 1 bU) (nI:Cal P w K mg base 6 "all_at" 3 jR):Cal P w K mg base 7 "found_at" 3 jx :=
 dj (fx:=[true,true,true]) d rZ rfl (by decide) rfl (fun _ _ _ _ _ _ us hl=>match us,hl with | [_,_,_],_=>rfl) fun _ _ _ _ _ _ _ hr=>aH (bh (np:=3) (fun k h=>aK h) (dcc bo hr (af (dcc nI hr (af (dv 0) (af (dv 1) (af (dv 2) (ax))))) (ax))))
theorem sR{C_E:Addr} (d:Dfn K mg "found_at" ff) (bo:Cal P w K mg base 1 "nearest_of" 1 bU) (dz:fR P w K mg base 6 "all_at" 3 C_E cN):fR P w K mg base 7 "found_at" 3 C_E d8 :=
 jL d rZ (by decide) rfl (fun _ _ _ _ _ _ us hl=>match us,hl with | [_,_,_],_=>rfl) fun _ _ _ _ _ _ _ hr=>en (L3 (Mh bo rfl (iw (dz.mono (by decide)) hr rfl (af (dv 0) (af (dv 1) (af (dv 2) (ax)))))))
theorem qw{C_E:Addr} (d:Dfn K mg "found_at" ff) (bo:Cal P w K mg base 1 "nearest_of" 1 bU) (cg:fR P w K mg base 6 "all_at" 3 C_E bV):fR P w K mg base 7 "found_at" 3 C_E cV :=
 jL d rZ (by decide) rfl (fun _ _ _ _ _ _ us hl=>match us,hl with | [_,_,_],_=>rfl) fun _ _ _ _ _ _ _ hr=>en (L3 (Mh bo rfl (iw (cg.mono (by decide)) hr rfl (af (dv 0) (af (dv 1) (af (dv 2) (ax)))))))
def eB:Stmt:=top 25
theorem mi:aN ["house", "spot", "name", "recipe", "number"] ["house", "spot", "name", "recipe"] (ah eB):=scK
theorem zN(T:Tf K mg) (d:wu K mg "others_from" eB) (bS:Cal P w K mg base 3 "recipes_from" 3 bT):Cal P w K mg base 5 "others_from" 4 ia :=
 yI (fx:=[true,true,true,true]) d mi rfl (by decide) rfl (fun _ _ _ _ _ _ us hl=>match us,hl with | [_,_,_,_],_=>rfl) fun _ _ _ _ _ _ _ hG hr=>aH (bh (np:=4) (fun k h=>aK h) (Ax (own:=[("number",4)]) (k:=3) (hr.mono (by decide)) ⟨hG.ex⟩ rfl mi.nd rfl rfl T.fZ (Am (dcc bS hr (af (dv 0) (af (dv 1) (af (dv 2) (ax)))))) (bB (by kernel_rfl)) (by kernel_rfl) (fun _ _ _ _ _ _ _ _ hr=>dn 4 mi.nd) (fun _ _ _ _ _ _ _ _ hr=>IW (eG (LK (vK hr)) IE (dv 4) (dv 3) (cS _))) (fun _ _ _ _ _ _ _ _ hr=>dv 4)))
def bA:Stmt:=top 15
theorem kZ:aN ["house", "thing"] ["house", "thing"] (ah bA):=scK
theorem sQ(T:Tf K mg) (d:Dfn K mg "refuse_no_recipe" bA) (aU:Cal P w K mg base 2 "is_whole" 3 aZ):Cal P w K mg base 3 "refuse_no_recipe" 2 dG :=
 dj (fx:=[true,true]) d kZ rfl (by decide) rfl (fun _ _ _ _ _ _ us hl=>match us,hl with | [_,_],_=>rfl) fun _ _ _ _ _ _ _ hr=>aH (gG (jD (fT (dcc aU hr (af (dv 1) (af (aq) (af (bL rM j6 (bu bK bM rfl T.ik (by decide +kernel) (ak (bg (dv 0) (aq)) (az))) (aq)) (ax))))))) (aH (yJ)) (b9))
theorem jT{C_E:Addr} (eX:pC K mg "NoRecipe" C_E) (T:Tf K mg) (d:Dfn K mg "refuse_no_recipe" bA) (aU:Cal P w K mg base 2 "is_whole" 3 aZ):fR P w K mg base 3 "refuse_no_recipe" 2 C_E aY :=
 jL d kZ (by decide) rfl (fun _ _ _ _ _ _ us hl=>match us,hl with | [_,_],_=>rfl) fun _ _ _ _ _ _ _ hr=>en (IH (jD (fT (dcc aU hr (af (dv 1) (af (aq) (af (bL rM j6 (bu bK bM rfl T.ik (by decide +kernel) (ak (bg (dv 0) (aq)) (az))) (aq)) (ax))))))) (en (vF eX rfl rfl (ak (gB) (az)))))
def dm:Stmt:=top 21
theorem bX:aN ["house", "recipe", "name", "spot", "keep", "sorts", "needs", "need"] ["house", "recipe"] (ah dm):=scK
theorem zO(T:Tf K mg) (d:wu K mg "straight_of" dm) (iQ:Cal P w K mg base 3 "refuse_no_recipe" 2 dG) (bo:Cal P w K mg base 1 "nearest_of" 1 bU) (nh:Cal P w K mg base 5 "others_from" 4 ia):Cal P w K mg base 7 "straight_of" 2 fL :=
 yI (fx:=[true,true]) d bX rfl (by decide) rfl (fun _ _ _ _ _ _ us hl=>match us,hl with | [_,_],_=>rfl) fun _ _ _ _ _ _ _ hG hr=>aA (iy (dcc iQ hr (af (dv 0) (af (dv 1) (ax))))) (aA (Mf (bg (bg (dv 0) (aq)) (dv 1)) (Al rfl (dS (dn 2 bX.nd) (dS (dn 3 bX.nd) (dS (dn 4 bX.nd) (dS (dn 5 bX.nd) (dS (dn 6 bX.nd) (vG)))))))) (aH (bh (np:=2) (fun k h=>aK h) (Ax (own:=[("need",7)]) (k:=5) (hr.mono (by decide)) ⟨hG.ex⟩ rfl bX.nd rfl rfl T.fZ (Am (dv 6)) (bB (by kernel_rfl)) (by kernel_rfl) (fun _ _ _ _ _ _ _ _ hr=>dn 7 bX.nd) (fun _ _ _ _ _ _ _ _ hr=>iz) (fun _ _ _ _ _ _ _ _ hr=>dcc bo hr (af (dcc nh hr (af (dv 0) (af (dv 3) (af (dv 7) (af (dv 1) (ax)))))) (ax)))))))
theorem nr{C_E:Addr} (d:wu K mg "straight_of" dm) (cP:fR P w K mg base 3 "refuse_no_recipe" 2 C_E aY):fR P w K mg base 7 "straight_of" 2 C_E bW :=
 jL d.dfn bX (by decide) rfl (fun _ _ _ _ _ _ us hl=>match us,hl with | [_,_],_=>rfl) fun _ _ _ _ _ _ _ hr=>en (yF (iw (cP.mono (by decide)) hr rfl (af (dv 0) (af (dv 1) (ax)))))
def bq:Stmt:=top 16
theorem kf:aN ["house", "thing"] ["house", "thing"] (ah bq):=scK
theorem rC(T:Tf K mg) (d:Dfn K mg "refuse_no_tasting" bq) (aU:Cal P w K mg base 2 "is_whole" 3 aZ):Cal P w K mg base 3 "refuse_no_tasting" 2 cU :=
 dj (fx:=[true,true]) d kf rfl (by decide) rfl (fun _ _ _ _ _ _ us hl=>match us,hl with | [_,_],_=>rfl) fun _ _ _ _ _ _ _ hr=>aH (gG (jD (fT (dcc aU hr (af (dv 1) (af (aq) (af (bL rM j6 (bu bK bM rfl T.ik (by decide +kernel) (ak (bg (dv 0) (aq)) (az))) (aq)) (ax))))))) (aH (yJ)) (b9))
theorem jm{C_E:Addr} (fy:pC K mg "NoTasting" C_E) (T:Tf K mg) (d:Dfn K mg "refuse_no_tasting" bq) (aU:Cal P w K mg base 2 "is_whole" 3 aZ):fR P w K mg base 3 "refuse_no_tasting" 2 C_E aS :=
 jL d kf (by decide) rfl (fun _ _ _ _ _ _ us hl=>match us,hl with | [_,_],_=>rfl) fun _ _ _ _ _ _ _ hr=>en (IH (jD (fT (dcc aU hr (af (dv 1) (af (aq) (af (bL rM j6 (bu bK bM rfl T.ik (by decide +kernel) (ak (bg (dv 0) (aq)) (az))) (aq)) (ax))))))) (en (vF fy rfl rfl (ak (gB) (az)))))
def b0:Stmt:=top 22
theorem cq:aN ["house", "tasting", "spot", "needs", "words", "need"] ["house", "tasting"] (ah b0):=scK
theorem wz(T:Tf K mg) (d:wu K mg "tasting_needs" b0) (gQ:Cal P w K mg base 3 "refuse_no_tasting" 2 cU) (bo:Cal P w K mg base 1 "nearest_of" 1 bU) (bS:Cal P w K mg base 3 "recipes_from" 3 bT):Cal P w K mg base 5 "tasting_needs" 2 dY :=
 yI (fx:=[true,true]) d cq rfl (by decide) rfl (fun _ _ _ _ _ _ us hl=>match us,hl with | [_,_],_=>rfl) fun _ _ _ _ _ _ _ hG hr=>aA (iy (dcc gQ hr (af (dv 0) (af (dv 1) (ax))))) (aA (Mf (bg (bg (dv 0) (aq)) (dv 1)) (Al rfl (dS (dn 2 cq.nd) (dS (dn 3 cq.nd) (dS (dn 4 cq.nd) (vG)))))) (aH (bh (np:=2) (fun k h=>aK h) (Ax (own:=[("need",5)]) (k:=3) (hr.mono (by decide)) ⟨hG.ex⟩ rfl cq.nd rfl rfl T.fZ (Am (dv 3)) (bB (by kernel_rfl)) (by kernel_rfl) (fun _ _ _ _ _ _ _ _ hr=>dn 5 cq.nd) (fun _ _ _ _ _ _ _ _ hr=>iz) (fun _ _ _ _ _ _ _ _ hr=>dcc bo hr (af (dcc bS hr (af (dv 0) (af (dv 2) (af (dv 5) (ax))))) (ax)))))))
theorem k9{C_E:Addr} (d:wu K mg "tasting_needs" b0) (cj:fR P w K mg base 3 "refuse_no_tasting" 2 C_E aS):fR P w K mg base 5 "tasting_needs" 2 C_E bG :=
 jL d.dfn cq (by decide) rfl (fun _ _ _ _ _ _ us hl=>match us,hl with | [_,_],_=>rfl) fun _ _ _ _ _ _ _ hr=>en (yF (iw (cj.mono (by decide)) hr rfl (af (dv 0) (af (dv 1) (ax)))))
def fj:Stmt:=top 40
theorem aV:aN ["_law_house", "_law_spot", "_law_name", "_law_at", "_law_good", "_law_due", "_law_said"] ["_law_house", "_law_spot", "_law_name", "_law_at"] (ah fj):=scK
theorem BV{jK:Addr}{mj:Addr}{nZ:Addr}{kg:Addr} (cD:pC K mg "NoNumber" jK) (eX:pC K mg "NoRecipe" mj) (dw:pC K mg "NoSpot" nZ) (fy:pC K mg "NoTasting" kg) (fA:Off K jK nZ) (gr:Off K mj jK) (iR:Off K mj nZ) (fP:Off K kg jK) (fQ:Off K kg mj) (gS:Off K kg nZ) (iS:fR P w K mg base 7 "found_at" 3 nZ d8) (gu:fR P w K mg base 7 "found_at" 3 jK cV) (dz:fR P w K mg base 6 "all_at" 3 nZ cN) (cg:fR P w K mg base 6 "all_at" 3 jK bV) (eP:fR P w K mg base 7 "straight_of" 2 mj bW) (dH:fR P w K mg base 5 "tasting_needs" 2 kg bG) (T:Tf K mg) (d:Pn K mg "_law_asked" fj) (kA:Cal P w K mg base 2 "_law_is_place" 2 dE) (d7:Cal P w K mg base 1 "_law_is_in" 2 dc) (uv:Cal P w K mg base 7 "found_at" 3 jx) (nI:Cal P w K mg base 6 "all_at" 3 jR) (nq:Cal P w K mg base 7 "straight_of" 2 fL) (kC:Cal P w K mg base 5 "tasting_needs" 2 dY) (b7:vJ K mg "_law_word" cC "_law_call" (Pa (aG cC)) (.str "none")):Cal P w K mg base 10 "_law_asked" 4 df :=
 OP (fx:=[true,true,true,true]) d aV rfl (by decide) rfl (fun _ _ _ _ _ _ us hl=>match us,hl with | [_,_,_,_],_=>rfl) fun _ _ _ _ _ _ _ hG hr=>aA (dst 4 aV.nd (dcc kA hr (af (dv 0) (af (dv 1) (ax))))) (aA (dst 5 aV.nd (dR (ak (bg (dR (ak (gB) (ak (bg (dR (ak (gB) (ak (gB) (az)))) (cJ lz lA rfl T.vM (by decide +kernel) (ak (dcc d7 hr (af (dv 2) (af (aq) (ax)))) (az)))) (az)))) (cJ lz lA rfl T.vM (by decide +kernel) (ak (dv 4) (az)))) (az)))) (aA (dst 5 aV.nd (bL cI bQ (bL cI bQ (dv 5) (dv 5)) (dR (ak (bg (dR (ak (gB) (ak (gB) (az)))) (cJ lz lA rfl T.vM (by decide +kernel) (ak (dcc d7 hr (af (dv 3) (af (bu bK bM rfl T.ik (by decide +kernel) (ak (bg (dv 0) (aq)) (az))) (ax)))) (az)))) (az))))) (aA (iy (mz PySem.F.slot_list_append PySem.F.type_list_append jC jF (dv 5) (ak (bg (dR (ak (gB) (ak (gB) (az)))) (cJ lz lA rfl T.vM (by decide +kernel) (ak (dcc d7 hr (af (dv 3) (af (bu bK bM rfl T.ik (by decide +kernel) (ak (bg (dv 0) (aq)) (az))) (ax)))) (az)))) (az)))) (aA (dst 6 aV.nd (dR (ak (jH (k:=7) b7 hG (hr.mono (by decide)) aV.nd (bB (by kernel_rfl)) (by kernel_rfl) rfl dw (fun _=>.hit dw rfl (by decide) rfl) (fun _ _ _ _ _ _ _ _ _ hr=>iw (iS.mono (by decide)) hr rfl (af (dv 0) (af (dv 1) (af (dv 2) (ax))))) (lB (pure_cons cY (pure_cons cY (pure_cons cY pure_nil)))) (jH (k:=7) b7 hG (hr.mono (by decide)) aV.nd (bB (by kernel_rfl)) (by kernel_rfl) rfl cD (fun _=>.miss dw rfl (by decide) fA (.hit cD rfl (by decide) rfl)) (fun _ _ _ _ _ _ _ _ _ hr=>iw (gu.mono (by decide)) hr rfl (af (dv 0) (af (dv 1) (af (dv 2) (ax))))) (lB (pure_cons cY (pure_cons cY (pure_cons cY pure_nil)))) (su (k:=7) b7 hG (hr.mono (by decide)) aV.nd (bB (by kernel_rfl)) (by kernel_rfl) rfl (fun _ _ _ _ _ _ _ _ _ hr=>dcc uv hr (af (dv 0) (af (dv 1) (af (dv 2) (ax))))) (fun fd h1 h2 h3=>by cases fd;cases h1;cases h2;cases h3;rfl)) (fun fd h1 h2 h3=>by cases fd;cases h1;cases h2;cases h3;rfl)) (fun fd h1 h2 h3=>by cases fd;cases h1;cases h2;cases h3;rfl)) (az)))) (aA (iy (mz PySem.F.slot_list_append PySem.F.type_list_append jC jF (dv 6) (ak (jH (k:=6) b7 hG (hr.mono (by decide)) aV.nd (bB (by kernel_rfl)) (by kernel_rfl) rfl dw (fun _=>.hit dw rfl (by decide) rfl) (fun _ _ _ _ _ _ _ _ _ hr=>iw (dz.mono (by decide)) hr rfl (af (dv 0) (af (dv 1) (af (dv 2) (ax))))) (lB (pure_cons cY (pure_cons cY (pure_cons cY pure_nil)))) (jH (k:=6) b7 hG (hr.mono (by decide)) aV.nd (bB (by kernel_rfl)) (by kernel_rfl) rfl cD (fun _=>.miss dw rfl (by decide) fA (.hit cD rfl (by decide) rfl)) (fun _ _ _ _ _ _ _ _ _ hr=>iw (cg.mono (by decide)) hr rfl (af (dv 0) (af (dv 1) (af (dv 2) (ax))))) (lB (pure_cons cY (pure_cons cY (pure_cons cY pure_nil)))) (su (k:=6) b7 hG (hr.mono (by decide)) aV.nd (bB (by kernel_rfl)) (by kernel_rfl) rfl (fun _ _ _ _ _ _ _ _ _ hr=>dcc nI hr (af (dv 0) (af (dv 1) (af (dv 2) (ax))))) (fun fd h1 h2 h3=>by cases fd;cases h1;cases h2;cases h3;rfl)) (fun fd h1 h2 h3=>by cases fd;cases h1;cases h2;cases h3;rfl)) (fun fd h1 h2 h3=>by cases fd;cases h1;cases h2;cases h3;rfl)) (az)))) (aA (iy (mz PySem.F.slot_list_append PySem.F.type_list_append jC jF (dv 6) (ak (jH (k:=7) b7 hG (hr.mono (by decide)) aV.nd (bB (by kernel_rfl)) (by kernel_rfl) rfl eX (fun _=>.miss dw rfl (by decide) iR (.miss cD rfl (by decide) gr (.hit eX rfl (by decide) rfl))) (fun _ _ _ _ _ _ _ _ _ hr=>iw (eP.mono (by decide)) hr rfl (af (dv 0) (af (dv 3) (ax)))) (lB (pure_cons cY (pure_cons cY pure_nil))) (su (k:=7) b7 hG (hr.mono (by decide)) aV.nd (bB (by kernel_rfl)) (by kernel_rfl) rfl (fun _ _ _ _ _ _ _ _ _ hr=>dcc nq hr (af (dv 0) (af (dv 3) (ax)))) (fun fd h1 h2 h3=>by cases fd;cases h1;cases h2;cases h3;rfl)) (fun fd h1 h2 h3=>by cases fd;cases h1;cases h2;cases h3;rfl)) (az)))) (aA (iy (mz PySem.F.slot_list_append PySem.F.type_list_append jC jF (dv 6) (ak (jH (k:=5) b7 hG (hr.mono (by decide)) aV.nd (bB (by kernel_rfl)) (by kernel_rfl) rfl fy (fun _=>.miss dw rfl (by decide) gS (.miss cD rfl (by decide) fP (.miss eX rfl (by decide) fQ (.hit fy rfl (by decide) rfl)))) (fun _ _ _ _ _ _ _ _ _ hr=>iw (dH.mono (by decide)) hr rfl (af (dv 0) (af (dv 3) (ax)))) (lB (pure_cons cY (pure_cons cY pure_nil))) (su (k:=5) b7 hG (hr.mono (by decide)) aV.nd (bB (by kernel_rfl)) (by kernel_rfl) rfl (fun _ _ _ _ _ _ _ _ _ hr=>dcc kC hr (af (dv 0) (af (dv 3) (ax)))) (fun fd h1 h2 h3=>by cases fd;cases h1;cases h2;cases h3;rfl)) (fun fd h1 h2 h3=>by cases fd;cases h1;cases h2;cases h3;rfl)) (az)))) (aH (bh (np:=4) (fun k h=>aK h) (wW (kP (vK hr)) fJ (dv 6) (dv 5) (cS _)))))))))))
def dC:Stmt:=top 28
theorem yz:aN ["_law_script", "_law_k"] ["_law_script", "_law_k"] (ah dC):=scK
theorem yh(T:Tf K mg) (d:Dfn K mg "_law_cell_at" dC):Cal P w K mg base 1 "_law_cell_at" 2 eQ :=
 dj (fx:=[true,true]) d yz rfl (by decide) rfl (fun _ _ _ _ _ _ us hl=>match us,hl with | [_,_],_=>rfl) fun _ _ _ _ _ _ _ hr=>aA (gG (eG wV cF (dv 1) (bu bK bM rfl T.ik (by decide +kernel) (ak (dv 0) (az))) (cS _)) (aH (bh (np:=2) (fun k h=>aK h) (bg (dv 0) (dv 1)))) (b9)) (aH (bh (np:=2) (fun k h=>aK h) (aq)))
def gn:Stmt:=top 30
theorem lu:aN ["_law_pen_here", "_law_bound", "_law_stir", "_law_found"] ["_law_pen_here", "_law_bound"] (ah gn):=scK
theorem DP(T:Tf K mg) (d:Dfn K mg "_law_draw" gn):Cal P w K mg base 1 "_law_draw" 2 ay :=
 dj (fx:=[true,true]) d lu rfl (by decide) rfl (fun _ _ _ _ _ _ us hl=>match us,hl with | [_,_],_=>rfl) fun _ _ _ _ _ _ _ hr=>aA (gG (Gb (uI (eG (kP (vK hr)) fJ (bg (dv 0) (aq)) (aq) (cS _)) (sk (eG Ac cF (bg (dv 0) (aq)) (aq) (cS _))))) (aA (dst 3 lu.nd (bL wM nU (bg (dv 0) (aq)) (dv 1))) (aA (Gk (bL Iw F7 (bg (dv 0) (aq)) (dv 1)) (dv 0) (aq)) (aH (bh (np:=2) (fun k h=>aK h) (dv 3))))) (b9)) (aA (Gk (bL cI bQ (bg (dv 0) (aq)) (aq)) (dv 0) (aq)) (aA (dst 2 lu.nd (bL wM nU (bL zZ rQ (bL cI bQ (bg (dv 0) (aq)) (aq)) (bL cI bQ (aq) (bL zZ rQ (aq) (bg (dv 0) (aq))))) (aq))) (aA (dst 2 lu.nd (bL wM nU (bL cI bQ (bL cI bQ (bL zZ rQ (dv 2) (dv 2)) (bL zZ rQ (aq) (bg (dv 0) (aq)))) (aq)) (aq))) (aH (bh (np:=2) (fun k h=>aK h) (bL wM nU (bL Iw F7 (bL wM nU (bL zZ rQ (dv 2) (aq)) (aq)) (aq)) (dv 1)))))))
def iL:Stmt:=top 29
theorem Gy:aN ["_law_cell"] ["_law_cell"] (ah iL):=scK
theorem Fw(T:Tf K mg) (d:Dfn K mg "_law_pen" iL):Cal P w K mg base 1 "_law_pen" 1 jy :=
 dj (fx:=[true]) d Gy rfl (by decide) rfl (fun _ _ _ _ _ _ us hl=>match us,hl with | [_],_=>rfl) fun _ _ _ _ _ _ _ hr=>aH (bh (np:=1) (fun k h=>aK h) (dR (ak (dv 0) (ak (cJ lz lA rfl T.vM (by decide +kernel) (ak (wW QH cF (dv 0) (bL Ls F8 (aq) (aq)) (cS _)) (az))) (ak (aq) (ak (bL wM nU (dv 0) (aq)) (az)))))))
def fm:Stmt:=top 32
theorem jM:aN ["_law_pen_here", "_law_names", "_law_left", "_law_k"] ["_law_pen_here", "_law_names"] (ah fm):=scK
theorem BW(T:Tf K mg) (d:Dfn K mg "_law_needs" fm) (aB:Cal P w K mg base 1 "_law_draw" 2 ay):Cal P w K mg base 2 "_law_needs" 2 gC :=
 dj (fx:=[true,true]) d jM rfl (by decide) rfl (fun _ _ _ _ _ _ us hl=>match us,hl with | [_,_],_=>rfl) fun _ _ _ _ _ _ _ hr=>aA (dst 2 jM.nd (En rfl rfl T.MV rfl T.jl (ak (dv 1) (az)))) (aH (bh (np:=2) (fun k h=>aK h) (cJ fM jG rfl T.fZ (by decide +kernel) (ak (Gr (own:=[("_law_k",3)]) rfl jM.nd rfl (gE rfl T.jl (ak (bu (JU rfl) Om rfl T.SY (by decide +kernel) (ak (dv 1) (ak (dcc aB hr (af (dv 0) (af (aq) (ax)))) (az)))) (az))) (bB (by kernel_rfl)) (fun _ _ _ _ _=>dn 3 jM.nd) (fun _ _ _ _ _=>iz) (fun _ _ _ _ _=>mz PySem.F.slot_list_pop PySem.F.type_list_pop LG Kb (dv 2) (ak (dcc aB hr (af (dv 0) (af (bu bK bM rfl T.ik (by decide +kernel) (ak (dv 2) (az))) (ax)))) (az)))) (az)))))
def fq:Stmt:=top 33
theorem eJ:aN ["_law_pen_here", "_law_found", "_law_k", "_law_long", "_law_most", "_law_j"] ["_law_pen_here"] (ah fq):=scK
theorem BX(T:Tf K mg) (d:Dfn K mg "_law_words" fq) (aB:Cal P w K mg base 1 "_law_draw" 2 ay):Cal P w K mg base 2 "_law_words" 1 jf :=
 dj (fx:=[true]) d eJ rfl (by decide) rfl (fun _ _ _ _ _ _ us hl=>match us,hl with | [_],_=>rfl) fun _ _ _ _ _ _ _ hr=>aA (dst 1 eJ.nd (dR (az))) (aA (An PassesOwn.never rfl (gE rfl T.jl (ak (dcc aB hr (af (dv 0) (af (aq) (ax)))) (az))) (dn 2 eJ.nd) (aA (dst 3 eJ.nd (bg (dR (ak (aq) (ak (aq) (ak (aq) (ak (aq) (az)))))) (dcc aB hr (af (dv 0) (af (aq) (ax)))))) (aA (dst 4 eJ.nd (bg (dR (ak (aq) (ak (aq) (az)))) (cJ lz lA rfl T.vM (by decide +kernel) (ak (wW Ac cF (dv 3) (aq) (cS _)) (az))))) (aH (iy (mz PySem.F.slot_list_append PySem.F.type_list_append jC jF (dv 1) (ak (SF PySem.F.slot_str_join PySem.F.type_str_join NY Oo (gB) (ak (Gr (own:=[("_law_j",5)]) rfl eJ.nd rfl (gE rfl T.jl (ak (dv 3) (az))) (bB (by kernel_rfl)) (fun _ _ _ _ _=>dn 5 eJ.nd) (fun _ _ _ _ _=>iz) (fun _ _ _ _ _=>bg (gB) (dcc aB hr (af (dv 0) (af (dv 4) (ax)))))) (az))) (az)))))))) (aH (bh (np:=1) (fun k h=>aK h) (cJ fM jG rfl T.fZ (by decide +kernel) (ak (HU rfl rfl T.MW rfl T.S0 (ak (dv 1) (az))) (az))))))
def iM:Stmt:=top 34
theorem bD:aN ["_law_pen_here", "_law_tables", "_law_spots_here", "_law_names", "_law_recipes", "_law_k", "_law_tastings", "_law_row", "_law_at", "_law_one"] ["_law_pen_here"] (ah iM):=scK
theorem Fx(T:Tf K mg) (d:Dfn K mg "_law_raw" iM) (aB:Cal P w K mg base 1 "_law_draw" 2 ay) (de:Cal P w K mg base 1 "_law_spots" 1 cy) (lb:Cal P w K mg base 2 "_law_needs" 2 gC) (pD:Cal P w K mg base 2 "_law_words" 1 jf):Cal P w K mg base 3 "_law_raw" 1 jz :=
 dj (fx:=[true]) d bD rfl (by decide) rfl (fun _ _ _ _ _ _ us hl=>match us,hl with | [_],_=>rfl) fun _ _ _ _ _ _ _ hr=>aA (dst 1 bD.nd (cJ fM jG rfl T.fZ (by decide +kernel) (ak (Gr (own:=[("_law_k",5)]) rfl bD.nd rfl (gE rfl T.jl (ak (bL cI bQ (aq) (dcc aB hr (af (dv 0) (af (aq) (ax))))) (az))) (bB (by kernel_rfl)) (fun _ _ _ _ _=>dn 5 bD.nd) (fun _ _ _ _ _=>iz) (fun _ _ _ _ _=>bL cI bQ (aq) (dcc aB hr (af (dv 0) (af (aq) (ax)))))) (az)))) (aA (dst 2 bD.nd (dcc de hr (af (dv 1) (ax)))) (aA (dst 3 bD.nd (bg (dR (ak (aq) (ak (aq) (ak (aq) (az))))) (dcc aB hr (af (dv 0) (af (aq) (ax)))))) (aA (dst 4 bD.nd (dR (az))) (aA (An PassesOwn.never rfl (gE rfl T.jl (ak (dcc aB hr (af (dv 0) (af (aq) (ax)))) (az))) (dn 5 bD.nd) (aA (dst 7 bD.nd (fU (ak (dcc aB hr (af (dv 0) (af (dv 3) (ax)))) (ak (bg (dv 2) (dcc aB hr (af (dv 0) (af (bu bK bM rfl T.ik (by decide +kernel) (ak (dv 2) (az))) (ax))))) (ak (dcc aB hr (af (dv 0) (af (aq) (ax)))) (az)))))) (aA (dst 7 bD.nd (bL cI bQ (dv 7) (fU (ak (bL cI bQ (aq) (dcc aB hr (af (dv 0) (af (aq) (ax))))) (ak (dcc lb hr (af (dv 0) (af (dv 3) (ax)))) (az)))))) (aH (gG (eG (J9 (SM hr)) IF (j9 (dv 7) (mC) (mD (aq))) (Mq (own:=[("_law_one",9)]) rfl bD.nd rfl (dv 4) (bB (by kernel_rfl)) (fun _ _ _ _ _=>dn 9 bD.nd) (fun _ _ _ _ _=>iz) (fun _ _ _ _ _=>j9 (dv 9) (mC) (mD (aq)))) (by rfl)) (aH (iy (mz PySem.F.slot_list_append PySem.F.type_list_append jC jF (dv 4) (ak (dv 7) (az))))) (b9)))))) (aA (dst 6 bD.nd (dR (az))) (aA (An PassesOwn.never rfl (gE rfl T.jl (ak (dcc aB hr (af (dv 0) (af (aq) (ax)))) (az))) (dn 5 bD.nd) (aA (dst 8 bD.nd (dcc aB hr (af (dv 0) (af (bu bK bM rfl T.ik (by decide +kernel) (ak (dv 1) (az))) (ax))))) (aH (iy (mz PySem.F.slot_list_append PySem.F.type_list_append jC jF (dv 6) (ak (fU (ak (fU (ak (dv 8) (ak (dcc aB hr (af (dv 0) (af (bg (dv 1) (dv 8)) (ax)))) (az)))) (ak (dcc lb hr (af (dv 0) (af (dv 3) (ax)))) (ak (dcc pD hr (af (dv 0) (ax))) (az))))) (az))))))) (aH (bh (np:=1) (fun k h=>aK h) (fU (ak (dv 1) (ak (cJ fM jG rfl T.fZ (by decide +kernel) (ak (dv 4) (az))) (ak (cJ fM jG rfl T.fZ (by decide +kernel) (ak (dv 6) (az))) (az)))))))))))))
def fu:Stmt:=top 35
theorem jN:aN ["_law_pen_here", "_law_deep", "_law_way", "_law_parts", "_law_k"] ["_law_pen_here", "_law_deep"] (ah fu):=scK
theorem tH(T:Tf K mg) (d:Dfn K mg "_law_thing" fu) (aB:Cal P w K mg base 1 "_law_draw" 2 ay):∀ j:Nat,Cal P w K mg base (1 + j) "_law_thing" 2 (br j)
 | 0=>Gu (ps:=["_law_pen_here", "_law_deep"]) d (fun _ _ _ _ _ _ us hl=>match us,hl with | [_,_],_=>rfl)
 | j + 1=>by
  have cz:=tH T d aB j
  exact dj (k:=1 + j) (fx:=[true,true]) d jN rfl (by decide) rfl (fun _ _ _ _ _ _ us hl=>match us,hl with | [_,_],_=>rfl) fun _ _ _ _ _ _ _ hr=>aA (dst 2 jN.nd (ij aB (hr.mono (Nat.le_trans (by decide) (Nat.le_add_right _ _))) rfl (af (dv 0) (af (aq) (ax))))) (aA (gG (Gb (LY (eG wV cF (dv 2) (aq) (cS _)) (LX (eG (kP (vK hr)) fJ (dv 1) (aq) (cS _))))) (aH (bh (np:=2) (fun k h=>aK h) (bg (dR (ak (Ec) (ak (lj) (ak (lj) (ak (aq) (ak (aq) (ak (lq (aq)) (ak (aq) (ak (bL Ls F8 (aq) (aq)) (ak (gB) (ak (gB) (ak (fU (az)) (ak (dR (az)) (az)))))))))))))) (ij aB (hr.mono (Nat.le_trans (by decide) (Nat.le_add_right _ _))) rfl (af (dv 0) (af (aq) (ax))))))) (b9)) (aA (Mm (own:=[("_law_k",4)]) rfl rfl jN.nd rfl rfl rfl (NQ rfl rfl rfl rfl) (gE rfl T.jl (ak (ij aB (hr.mono (Nat.le_trans (by decide) (Nat.le_add_right _ _))) rfl (af (dv 0) (af (aq) (ax)))) (az))) (bB (by kernel_rfl)) (fun _ _ _ _ _=>dn 4 jN.nd) (fun _ _ _ _ _=>iz) (fun _ _ _ _ _=>ij cz (hr.mono (Nat.le_refl _)) rfl (af (dv 0) (af (bL rM j6 (dv 1) (aq)) (ax))))) (aA (gG (eG (kP (vK hr)) fJ (dv 2) (aq) (cS _)) (aH (bh (np:=2) (fun k h=>aK h) (dv 3))) (b9)) (aA (gG (eG (kP (vK hr)) fJ (dv 2) (aq) (cS _)) (aH (bh (np:=2) (fun k h=>aK h) (Ms (dv 3)))) (b9)) (aH (bh (np:=2) (fun k h=>aK h) (cJ fM jG rfl T.fZ (by decide +kernel) (ak (dv 3) (az)))))))))
def eC:Stmt:=top 36
theorem mm:aN ["_law_pen_here", "_law_thing_here", "_law_way", "_law_at"] ["_law_pen_here", "_law_thing_here"] (ah eC):=scK
theorem rD(T:Tf K mg) (d:Dfn K mg "_law_spoilt" eC) (aB:Cal P w K mg base 1 "_law_draw" 2 ay) (cz:Cal P w K mg base 7 "_law_thing" 2 (br 6)):∀ j:Nat,Cal P w K mg base (7 + j) "_law_spoilt" 2 (bJ j)
 | 0=>Gu (ps:=["_law_pen_here", "_law_thing_here"]) d (fun _ _ _ _ _ _ us hl=>match us,hl with | [_,_],_=>rfl)
 | j + 1=>by
  have ib:=rD T d aB cz j
  exact dj (k:=7 + j) (fx:=[true,true]) d mm rfl (by decide) rfl (fun _ _ _ _ _ _ us hl=>match us,hl with | [_,_],_=>rfl) fun _ _ _ _ _ _ _ hr=>aA (gG (Gb (uI (fT (nB (dv 1) T.yK rfl T.cA rfl T.fZ (by decide +kernel))) (uI (eG (LK (vK hr)) IE (dv 1) (fU (az)) (cS _)) (sk (eG Ac cF (ij aB (hr.mono (Nat.le_trans (by decide) (Nat.le_add_right _ _))) rfl (af (dv 0) (af (aq) (ax)))) (aq) (cS _)))))) (aA (dst 3 mm.nd (ij aB (hr.mono (Nat.le_trans (by decide) (Nat.le_add_right _ _))) rfl (af (dv 0) (af (bu bK bM rfl T.ik (by decide +kernel) (ak (dv 1) (az))) (ax))))) (aH (bh (np:=2) (fun k h=>aK h) (bL cI bQ (bL cI bQ (j9 (dv 1) (mC) (mD (dv 3))) (fU (ak (ij ib (hr.mono (Nat.le_refl _)) rfl (af (dv 0) (af (bg (dv 1) (dv 3)) (ax)))) (az)))) (j9 (dv 1) (mD (bL cI bQ (dv 3) (aq))) (mC)))))) (b9)) (aA (dst 2 mm.nd (ij aB (hr.mono (Nat.le_trans (by decide) (Nat.le_add_right _ _))) rfl (af (dv 0) (af (aq) (ax))))) (aA (gG (Gb (uI (fT (nB (dv 1) T.yK rfl T.cA rfl T.fZ (by decide +kernel))) (sk (eG wV cF (dv 2) (aq) (cS _))))) (aH (bh (np:=2) (fun k h=>aK h) (bg (dR (ak (bL cI bQ (dv 1) (j9 (dv 1) (mD (lq (aq))) (mC))) (ak (j9 (dv 1) (mC) (mD (lq (aq)))) (ak (cJ D8 Kc rfl T.MV (by decide +kernel) (ak (dv 1) (az))) (ak (QW (dv 1) (lq (aq))) (az)))))) (dv 2)))) (b9)) (aA (gG (Gb (uI (fT (nB (dv 1) T.MY rfl T.cA rfl T.vM (by decide +kernel))) (sk (eG wV cF (dv 2) (aq) (cS _))))) (aH (bh (np:=2) (fun k h=>aK h) (bg (dR (ak (bL cI bQ (dv 1) (aq)) (ak (bL rM j6 (dv 1) (aq)) (ak (wW Ac cF (dv 1) (aq) (cS _)) (ak (cJ D3 Mc rfl T.Pg (by decide +kernel) (ak (dv 1) (az))) (az)))))) (dv 2)))) (b9)) (aA (gG (Gb (uI (fT (nB (dv 1) T.Ta rfl T.cA rfl T.Pg (by decide +kernel))) (sk (eG wV cF (dv 2) (aq) (cS _))))) (aH (bh (np:=2) (fun k h=>aK h) (bg (dR (ak (bL cI bQ (dv 1) (gB)) (ak (QS PySem.F.slot_str_upper PySem.F.type_str_upper LQ Md (dv 1)) (ak (j9 (dv 1) (mC) (mD (lq (aq)))) (ak (bL cI bQ (gB) (dv 1)) (az)))))) (dv 2)))) (b9)) (aH (bh (np:=2) (fun k h=>aK h) (ij cz (hr.mono (Nat.le_trans (by decide) (Nat.le_add_right _ _))) rfl (af (dv 0) (af (aq) (ax))))))))))
def rf:Stmt:=top 41
theorem i4:aN ["_law_script", "_law_pen_here", "_law_house", "_law_spots_here", "_law_turn", "_law_wrong", "_law_row", "_law_spot", "_law_name", "_law_at"] ["_law_script"] (ah rf):=scK
theorem M3{P:Program}{w:World}{K:PySem.W.Frag}{mg:Str->Option Value}{base:Heap}{f:Addr}{fd:FuncData}(T:Tf K mg) (F:Fun K "law" "law" rf f fd) (uw:Cal P w K mg base 1 "_law_pen" 1 jy) (lX:Cal P w K mg base 1 "_law_cell_at" 2 eQ) (ux:Cal P w K mg base 3 "_law_raw" 1 jz) (de:Cal P w K mg base 1 "_law_spots" 1 cy) (aB:Cal P w K mg base 1 "_law_draw" 2 ay) (ib:Cal P w K mg base 13 "_law_spoilt" 2 (bJ 6)) (cz:Cal P w K mg base 7 "_law_thing" 2 (br 6)) (la:Cal P w K mg base 10 "_law_asked" 4 df):jd P w K mg base CX0 14 f fd ["_law_script"] (spF K 1 lx) :=
 Ma (fx:=[true]) F i4 rfl (by decide) fun _ _ _ _ _ _ hr=>aA (dst 1 i4.nd (dcc uw hr (af (dcc lX hr (af (dv 0) (af (aq) (ax)))) (ax)))) (aA (dst 2 i4.nd (dcc ux hr (af (dv 1) (ax)))) (aA (dst 3 i4.nd (dcc de hr (af (bg (dv 2) (aq)) (ax)))) (aA (An PassesOwn.never rfl (gE rfl T.jl (ak (aq) (az))) (dn 4 i4.nd) (aA (OC (i:=7) (j:=8) (k:=9) rfl rfl rfl rfl i4.nd rfl rfl rfl (by decide) (by decide) (by decide) rfl rfl rfl (ak (bg (dv 3) (dcc aB hr (af (dv 1) (af (bu bK bM rfl T.ik (by decide +kernel) (ak (dv 3) (az))) (ax))))) (ak (dcc aB hr (af (dv 1) (af (aq) (ax)))) (ak (dcc aB hr (af (dv 1) (af (aq) (ax)))) (az)))) rfl) (aA (gG (eG (kP (vK hr)) fJ (dcc aB hr (af (dv 1) (af (aq) (ax)))) (aq) (cS _)) (aH (dst 7 i4.nd (HM (dcc ib hr (af (dv 1) (af (dv 7) (ax))))))) (b9)) (aA (gG (eG (kP (vK hr)) fJ (dcc aB hr (af (dv 1) (af (aq) (ax)))) (aq) (cS _)) (aH (dst 8 i4.nd (HM (dcc cz hr (af (dv 1) (af (aq) (ax))))))) (b9)) (aA (gG (eG (kP (vK hr)) fJ (dcc aB hr (af (dv 1) (af (aq) (ax)))) (aq) (cS _)) (aH (dst 9 i4.nd (HM (dcc cz hr (af (dv 1) (af (aq) (ax))))))) (b9)) (aH (gG (jD (fT (dcc la hr (af (dv 2) (af (dv 7) (af (dv 8) (af (dv 9) (ax)))))))) (aH (bh (np:=1) (fun k h=>aK h) (lj))) (b9)))))))) (aA (dst 5 i4.nd (dR (ak (fU (ak (bu bK bM rfl T.ik (by decide +kernel) (ak (bg (dv 2) (aq)) (az))) (az))) (ak (fU (ak (aq) (ak (bg (bg (dv 2) (aq)) (aq)) (az)))) (ak (fU (az)) (ak (Ec) (az))))))) (aA (dst 6 i4.nd (dR (ak (fU (ak (bg (dv 5) (aq)) (ak (aq) (ak (bu bK bM rfl T.ik (by decide +kernel) (ak (bg (dv 2) (aq)) (az))) (az))))) (ak (fU (ak (bg (dv 5) (aq)) (ak (lq (aq)) (ak (bu bK bM rfl T.ik (by decide +kernel) (ak (bg (dv 2) (aq)) (az))) (az))))) (ak (fU (ak (bg (dv 5) (aq)) (ak (lj) (ak (lj) (az))))) (ak (fU (ak (bg (dv 5) (aq)) (ak (gB) (ak (lq (aq)) (az))))) (az))))))) (aH (bh (np:=1) (fun k h=>aK h) (bu (LI rfl) Gj rfl T.Pf (by decide +kernel) (ak (Q5 (own:=[("_law_spot",7),("_law_name",8),("_law_at",9)]) rfl i4.nd rfl (Am (dv 6)) (bB (by kernel_rfl)) (fun _ _ _ _ _=>Al rfl (dS (dn 7 i4.nd) (dS (dn 8 i4.nd) (dS (dn 9 i4.nd) (vG))))) (fun _ _ _ _ _=>iz) (fun _ _ _ _ _=>dcc la hr (af (dv 2) (af (dv 7) (af (dv 8) (af (dv 9) (ax))))))) (az))))))))))
end
end L2.Q3.KI
end
section
namespace L2.Q3
open PySem PySem.Spec PyProof.Rows
section
theorem u6{q:Program}{nm:Str}(h:((recsOf q).any fun r=>r.name == nm)=true):∃ r ∈ recsOf q,r.name=nm:=by
 obtain ⟨r,hr,e⟩:=List.any_eq_true.mp h
 exact ⟨r,hr,by simpa using e⟩
def Fl(vs:Array Value):Option Addr:=match (vs[11]? : Option Value),vs.getD 18 .none,vs.getD 7 .none,vs.getD 9 .none,vs.getD 10 .none with
 | some (.ref P),.str _ _,.int _ _,.bool _,.int _ _=>some P
 | _,_,_,_,_=>none
section
variable {K:PySem.W.Frag} {mg:Str->Option Value}
theorem fV{c P:Addr}{rd:Option Addr}{rv:Array Value}{rs:Array (Option Value)} (l:K.lookup c=some ⟨.type "code",rd,.fields rv,rs⟩) (h:Fl rv=some P):AB K (.ref c) P:=by
 refine rec_of (P:=P) ?_
 unfold recC
 simp only [l]
 exact h
theorem rA {nm : Str} {f c P : Addr} {oc : Value} {od : Option Addr} {sl : Array (Option Value)} {rd : Option Addr} {rv : Array Value} {rs : Array (Option Value)} {kV doc pm ct : Value} {an : Option Addr} {x qn : Str} {da : _} {db : _} {dsc : _}
    (a:mg nm=some (.ref f)) (l:K.lookup f=some ⟨oc,od,.func (PySem.W.fnOf x qn da db dsc .none kV doc pm an (.ref c) ct),sl⟩) (r:K.lookup c=some ⟨.type "code",rd,.fields rv,rs⟩) (p:Fl rv=some P) (t:(K.lookup P).isNone=true)
    {f' b:Addr} {oc':Value} {od':Option Addr} {fd':FuncData} {sl':Array (Option Value)} (e1:mg nm=some (.ref f')) (e2:K.lookup f'=some ⟨oc',od',.func fd',sl'⟩) (e3:AB K fd'.code b):K.lookup b=none:=by
 rw [a] at e1
 cases e1
 rw [l] at e2
 cases e2
 obtain ⟨c',oc2,od2,vs,sl2,h1,h2,h3,_⟩:=e3
 have h1:(Value.ref c) = .ref c':=h1
 cases h1
 rw [r] at h2
 cases h2
 have:rv.getD 11 .none=Value.ref P:=by
  unfold Fl at p
  split at p
  . rename_i P' _ _ _ _ _ _ _ h11 _ _ _ _
    cases p
    rw [Array.getD_eq_getD_getElem?,h11];rfl
  . cases p
 rw [this] at h3
 cases h3
 exact Option.isNone_iff_eq_none.mp t
end
end
end L2.Q3
end
section
namespace L2.Q3.Tx
section
open PySem PySem.Spec PyProof.Rows L2
end
section
open PySem PySem.Spec PyProof.Rows L2
end
section
open PySem PySem.Spec PyProof.Rows L2
end
section
open PySem PySem.Spec PyProof.Rows L2
end
end L2.Q3.Tx
end
section
namespace L2.Q3.Tx
open PySem PySem.Spec PyProof.Rows L2
section
def Od(ot:Nat->List Nat):List Nat->List Nat->Prop
 | _,[]=>True
 | pre,x :: l=>(∀ o ∈ ot x,o ∈ pre) /\ Od ot (x :: pre) l
theorem Od.at{ot:Nat->List Nat}:∀ {a pre b:List Nat} {x:Nat},Od ot pre (a ++ x :: b)->∀ o ∈ ot x,o ∈ a \/ o ∈ pre
 | [],pre,b,x,⟨h1,_⟩,o,ho=>.inr (h1 o ho)
 | y :: a,pre,b,x,⟨_,h2⟩,o,ho=>by
  rcases Od.at h2 o ho with h | h
  . exact .inl (List.mem_cons_of_mem _ h)
  . rcases List.mem_cons.mp h with rfl | h
    . exact .inl List.mem_cons_self
    . exact .inr h
end
section
inductive HN:D->Prop
 | tup {xs:List D} (l:xs.length <= 100) (h:∀ y ∈ xs,HN y):HN (.tuple xs)
 | oth {x:D} (h:NS x) (n:∀ xs,x ≠ .tuple xs):HN x
theorem HN.at{xs:List D}(h:HN (.tuple xs)):xs.length <= 100 /\ ∀ y ∈ xs,HN y:=by
 generalize e:PyData.tuple xs=x at h
 cases h with
 | tup l h=>cases e;exact ⟨l,h⟩
 | oth h n=>exact absurd e.symm (n xs)
end
end L2.Q3.Tx
end
section
namespace L2.Q3.Tx
section
open PySem PySem.Spec PyProof.Rows L2
end
section
open PySem PySem.Spec PyProof.Rows L2
end
section
open PySem PySem.Spec PyProof.Rows L2
end
section
open PySem PySem.Spec PyProof.Rows L2
end
section
open PySem PySem.Spec PyProof.Rows L2
end
end L2.Q3.Tx
end
section
namespace L2.Q3.Tx
open PySem PySem.Spec PyProof.Rows L2
section
section
variable {ot:Nat->List Nat} {n:Nat} (ho:∀ i j,j ∈ ot i->j < n)
include ho
end
end
end L2.Q3.Tx
end
section
namespace L2.Q3.Tx
section
open PySem PySem.Spec PyProof.Rows L2
end
section
open PySem PySem.Spec PyProof.Rows L2
end
section
open PySem PySem.Spec PyProof.Rows L2
end
section
open PySem PySem.Spec PyProof.Rows L2
end
section
open PySem PySem.Spec PyProof.Rows L2
end
section
open PySem PySem.Spec PyProof.Rows L2
end
section
open PySem PySem.Spec PyProof.Rows L2
end
section
open PySem PySem.Spec PyProof.Rows L2
end
section
open PySem PySem.Spec PyProof.Rows L2
end
section
open PySem PySem.Spec PyProof.Rows L2
end
section
open PySem PySem.Spec PyProof.Rows L2
end
section
open PySem PySem.Spec PyProof.Rows L2
end
section
open PySem PySem.Spec PyProof.Rows L2
end
end L2.Q3.Tx
end
section
namespace L2.Q3.Tx
open PySem PySem.Spec PyProof.Rows L2
local macro_rules | `(tactic| walk_at "mir5") => `(tactic| simp (config := { decide := true, maxSteps := 2000000 }) only [zS, MS, Q7, Q8, sf, vc, Rp, OV, Ru, List.length_map, List.length_range, List.length_zipIdx, Int.toNat_natCast, ↓Je, Je, ↓OS, OS, ↓OT, OT, rX, uL, ar, b8, me, rJ, Eu, Jd, HY, ↓Kv, Kv, ↓nJ, ↓yi, ↓yj, ↓qc, ↓qd, ↓kG, ↓il, ↓o_C, ↓qf, ↓kH, ↓jU, ↓dJ, ↓yk, ↓ym, ↓kI, ↓kJ, ↓qg, ↓yn, ↓qh, ↓yo, ↓qi, ↓qj, ↓iq, ↓qk, ↓ql, ↓gW, ↓qm, ↓qo, ↓qp, ↓yp, ↓kK, ↓yq, ↓ir, ↓qr, ↓kL, ↓yr, ↓kM, ↓qt,
 nJ,yi,yj,qc,qd,kG,il,o_C,qf,kH,jU,dJ,yk,ym,kI,kJ,qg,yn,qh,yo,qi,qj,iq,qk,ql,gW,qm,qo,qp,yp,kK,yq,ir,qr,kL,yr,kM,qt,
 ↓aC,↓au,↓fX,↓aE,↓iu,aC,au,fX,aE,iu,Cj,Ck,Cm,Cn,Co,wB,wC,wD,Cp,Cq,Cr,Cs,Ct,Cu,nK,nL,nM,nN,
 gN,gT,nO,cE,cu,rdW,rE,bw,f7,gz,vd,slots,mq,putBack,BZ,B0,jV,kF,sT,tru,itemsOf,f9,ve,pH,
 List.getElem?_cons_zero,List.getElem?_cons_succ,List.set_cons_zero,List.set_cons_succ,List.length_cons,List.length_nil,List.take_succ_cons,List.take_zero,List.map_cons,List.map_nil,Option.getD_some,Option.getD_none,Option.isSome_some,Option.isNone_none,Option.isNone_some,Option.bind_some,Option.bind_none,Bool.true_and,Bool.and_true,Bool.not_true,Bool.not_false,if_true,if_false,ite_true,ite_false,reduceCtorEq,true_and,and_true,List.nodup_cons,List.not_mem_nil,not_false_eq_true,List.nodup_nil,List.mem_singleton,List.mem_cons,Nat.reduceAdd,Nat.zero_add,Nat.reduceLeDiff,Nat.reduceEqDiff,Nat.reduceLT,Int.reduceNeg,Bool.false_eq_true,List.all_cons,List.all_nil,List.append_nil])
section
variable {hh:fW}
end
section
variable {hh:fW}
theorem G9{α:Type}{o:Option α}{Q:α->Prop}(h:oS o Q){a:α}(e:o=some a):Q a:=by
 obtain ⟨b,e',q⟩:=h
 rw [e] at e'
 cases e'
 exact q
theorem RC{f:Fs}{b:Rho->Prop}{ρ:Rho}(h:oS (f ρ) fun p=>p.1 = .nx /\ b p.2):Nj f b ρ:=by
 obtain ⟨⟨o,ρ1⟩,e,h1,h2⟩:=h
 cases h1
 exact ⟨ρ1,e,h2⟩
theorem xIf{t:Ft}{b:Rho->Prop}{ρ:Rho}(h:oS (t ρ) fun p=>p.1=true /\ b p.2):bIf t b ρ:=by
 obtain ⟨⟨o,ρ1⟩,e,h1,h2⟩:=h
 cases h1
 exact ⟨ρ1,e,h2⟩
theorem xq{B:List D->Prop}{fa:Fa}{ρ:Rho}(h:oS (fa ρ) fun p=>∃ ds:List D,p.1=ds.map W.d /\ B ds):bE (fY B fa) ρ:=by
 obtain ⟨⟨ws,ρ1⟩,e,ds,h1,h2⟩:=h
 cases h1
 exact ⟨ρ1,ds,e,h2⟩
theorem DZ{fa:Fa}{ρ:Rho}(h:oS (fa ρ) fun p=>p.1.length=1):wK fa ρ:=by
 obtain ⟨⟨ws,ρ1⟩,e,h1⟩:=h
 exact ⟨ws,ρ1,e,h1⟩
theorem RD{f:Fs}{b:Rho->Prop}{ρ:Rho}(h:oS (f ρ) fun p=>¬ b p.2):¬ Nj f b ρ:=fun ⟨ρ1,e,hb⟩=>G9 h e hb
theorem nIf{t:Ft}{b:Rho->Prop}{ρ:Rho}(h:oS (t ρ) fun p=>p.1=true->¬ b p.2):¬ bIf t b ρ:=fun ⟨ρ1,e,hb⟩=>G9 h e rfl hb
theorem Cy:∀ {ds es:List D},ds.map W.d=es.map W.d->ds=es
 | [],[],_=>rfl
 | [],_ :: _,h=>by cases h
 | _ :: _,[],h=>by cases h
 | d :: ds,e :: es,h=>by
  rw [List.map_cons,List.map_cons] at h
  obtain ⟨h1,h2⟩:=List.cons.inj h
  cases h1
  rw [Cy h2]
theorem vn{B:List D->Prop}{fa:Fa}{ρ:Rho}(h:oS (fa ρ) fun p=>∃ ds:List D,p.1=ds.map W.d /\ ¬ B ds):¬ bE (fY B fa) ρ:=fun ⟨ρ1,es,e,hb⟩=>by
 obtain ⟨ds,h1,h2⟩:=G9 h e
 rw [Cy h1] at hb
 exact h2 hb
theorem O2 {x : D} (hx : NS x) (htl : hh.tt.length <= 6) {Q : Bool × Rho -> Prop} (h : Q (!aO x 0 ((hh.tt.length : Int) - 1), [some (.d hh.D), some (.d x)])) :
    oS ((ig (ftV (aw aZ (aa (ag 1) (aa (fC (.int 0)) (aa (fe2 uG (aI f9 (aa (fe2 gIx (ag 0) (fC (.int 2))) (aj))) (fC (.int 1))) (aj))))))) [some (.d hh.D),some (.d x)]) Q:=by
 rw [zX] at h ⊢
 try walk_at "mir5"
 refine ic hx ?_
 try walk_at "mir5"
 exact h
theorem Nd{x:D}(hx:NS x)(htl:hh.tt.length <= 6)(hw:aO x 0 ((hh.tt.length:Int) - 1)=false):aS [hh.D,x]:=by
 show ck [some (.d hh.D),some (.d x)]
 refine xIf (O2 hx htl ?_)
 rw [hw]
 refine ⟨rfl,DZ ?_⟩
 try walk_at "mir5"
theorem Nf{x:D}(hx:NS x)(htl:hh.tt.length <= 6)(hw:aO x 0 ((hh.tt.length:Int) - 1)=true):¬ aS [hh.D,x]:=by
 show ¬ ck [some (.d hh.D),some (.d x)]
 refine nIf (O2 hx htl ?_)
 rw [hw]
 exact fun z=>nomatch z
end
section
variable {hh:fW}
theorem JF{B:List D->Prop}{fa:Fa}{d:D}{f:Fe}{ρ:Rho}{Q:W × Rho->Prop}(hno:FE ρ=true)(h:oS (fa ρ) fun p=>∃ ds:List D,p.1=ds.map W.d /\ B ds)(q:Q (.d d,ρ)):oS (nQ (fY B fa) d f ρ) Q:=by
 obtain ⟨⟨ws,ρ1⟩,e,ds,h1,h2⟩:=h
 cases h1
 rw [K3 ⟨ρ1,ds,e,h2⟩ hno]
 exact au.mpr q
theorem wOk{B:List D->Prop}{fa:Fa}{d:D}{f:Fe}{ρ:Rho}{Q:W × Rho->Prop}(h:oS (fa ρ) fun p=>∃ ds:List D,p.1=ds.map W.d /\ ¬ B ds)(q:oS (f ρ) Q):oS (nQ (fY B fa) d f ρ) Q:=by
 rw [Na (vn h)]
 exact q
theorem Nb{fe:Fe}{d0:D}{ρ:Rho}{Q:W × Rho->Prop}:oS (yu fe d0 ρ) Q ↔ oS (fe ρ) fun p=>Q (.d d0,p.2):=by
 unfold yu
 rw [aC]
 constructor
 . exact fun h=>aT h fun p hp=>au.mp hp
 . exact fun h=>aT h fun p hp=>au.mpr hp
theorem yC{x:D}{m:Int}(hx:NS x){Q:W × List W->Prop}(h:Q (.d (.bool (aO x 0 (m - 1))),[.d x,.d (.int m)])):oS (dc [.d x,.d (.int m)]) Q:=by
 refine dI rfl rfl ?_
 show oS (pO [some (.d x),some (.d (.int m))]) _
 unfold pO
 try walk_at "mir5"
 simp only [DX hx]
 cases x with
 | int i =>
  have e1:fS (cw (.int i)) "int" = true:=rfl
  have e2:fS (cw (.int i)) "bool" = false:=rfl
  simp only [e1,e2]
  try walk_at "mir5"
  cases h0:pLe 0 i with
  | true =>
   try walk_at "mir5"
   have e3:pLt i m=aO (.int i) 0 (m - 1):=by
    have h0:0 <= i:=of_decide_eq_true h0
    show decide _=(decide _ && decide _)
    rw [Bool.eq_iff_iff,Bool.and_eq_true,decide_eq_true_eq,decide_eq_true_eq,decide_eq_true_eq];omega
   rw [e3]
   exact h
  | false =>
   try walk_at "mir5"
   have e3:aO (.int i) 0 (m - 1)=false:=by
    have h0:=of_decide_eq_false h0
    show (decide _ && decide _)=false
    rw [decide_eq_false h0];rfl
   rw [e3] at h
   exact h
 | bool k =>
  have e1:fS (cw (.bool k)) "int" = true:=rfl
  have e2:fS (cw (.bool k)) "bool" = true:=rfl
  simp only [e1,e2];try walk_at "mir5"
  exact h
 | none => have e1 : fS (cw .none) "int" = false := rfl
           simp only [e1];try walk_at "mir5"
           exact h
 | str y => have e1 : fS (cw (.str y)) "int" = false := rfl
            simp only [e1];try walk_at "mir5"
            exact h
 | list y => have e1 : fS (cw (.list y)) "int" = false := rfl
             simp only [e1];try walk_at "mir5"
             exact h
 | tuple y => have e1 : fS (cw (.tuple y)) "int" = false := rfl
              simp only [e1];try walk_at "mir5"
              exact h
 | dict y => have e1 : fS (cw (.dict y)) "int" = false := rfl
             simp only [e1];try walk_at "mir5"
             exact h
theorem Im(hok:dg hh){x:D}(hx:Good x)(hw:i8 hh.ts x=true):¬ bx [hh.D,x]:=by
 show ¬ eF [some (.d hh.D),some (.d x)]
 refine nIf ?_
 rw [zX]
 try walk_at "mir5"
 refine DY (ts:=hh.ts) hx ?_
 rw [hw]
 try walk_at "mir5"
 exact fun z=>z.elim
theorem Io(hok:dg hh){x:D}(hx:Good x)(hw:i8 hh.ts x=false):bx [hh.D,x]:=by
 show eF [some (.d hh.D),some (.d x)]
 refine xIf ?_
 rw [zX]
 try walk_at "mir5"
 refine DY (ts:=hh.ts) hx ?_
 rw [hw]
 try walk_at "mir5"
 refine DZ ?_
 try walk_at "mir5"
theorem K4{x:D}(hx:NS x)(hw:aO x 0 7=true):¬ aX [x,.int 0,.int 7]:=by
 show ¬ cQ [some (.d x),some (.d (.int 0)),some (.d (.int 7))]
 refine nIf ?_
 try walk_at "mir5"
 refine ic hx ?_
 rw [hw]
 try walk_at "mir5"
 exact fun z=>z.elim
theorem O1{i:Int}(h0:0 <= i)(h1:i <= 7):FF (.int i)=some (Str.ofString (toString i)):=by
 have:∀ n:Fin 8,FF (.int ((n.1:Nat):Int))=some (Str.ofString (toString ((n.1:Nat):Int))):=by
  intro n
  unfold FF
  exact if_pos (by revert n;decide +kernel)
 have:=this ⟨i.toNat,by omega⟩
 rwa [show (((⟨i.toNat,by omega⟩:Fin 8).1:Nat):Int)=i from by show ((i.toNat:Nat):Int)=i;omega] at this
theorem K5{x:D}(hx:NS x)(hw:aO x 0 7=false):aX [x,.int 0,.int 7]:=by
 show cQ [some (.d x),some (.d (.int 0)),some (.d (.int 7))]
 refine xIf ?_
 try walk_at "mir5"
 refine ic hx ?_
 rw [hw]
 try walk_at "mir5"
 refine DZ ?_
 have e1:=O1 (i:=0) (by decide) (by decide)
 have e2:=O1 (i:=7) (by decide) (by decide)
 have e3:FG "this is no whole number from " (ag 1) " to " (ag 2) [some (.d x),some (.d (.int 0)),some (.d (.int 7))] = some (.d (.str ("this is no whole number from " ++ Str.ofString (toString (0:Int)) ++ " to " ++ Str.ofString (toString (7:Int)))),[some (.d x),some (.d (.int 0)),some (.d (.int 7))]):=by
  have v1:ag 1 [some (.d x),some (.d (.int 0)),some (.d (.int 7))] = some (.d (.int 0),[some (.d x),some (.d (.int 0)),some (.d (.int 7))]):=rfl
  have v2:ag 2 [some (.d x),some (.d (.int 0)),some (.d (.int 7))] = some (.d (.int 7),[some (.d x),some (.d (.int 0)),some (.d (.int 7))]):=rfl
  unfold FG
  rw [v1,Option.bind_some]
  dsimp only
  rw [e1,Option.bind_some,v2,Option.bind_some]
  dsimp only
  rw [e2,Option.bind_some,if_pos (by decide +kernel)]
 rw [dJ,e3,au,jU]
 rfl
theorem K7 (hok : dg hh) {x : D} (hx : NS x) {Q : Bool × Rho -> Prop} (h : Q (!aO x 0 ((hh.rs.length : Int) - 1), [some (.d hh.D), some (.d x)])) :
    oS ((ig (ftV (aw aZ (aa (ag 1) (aa (fC (.int 0)) (aa (fe2 uG (aI f9 (aa (fe2 gIx (ag 0) (fC (.int 1))) (aj))) (fC (.int 1))) (aj))))))) [some (.d hh.D),some (.d x)]) Q:=by
 have hl:=hok.DU
 rw [zX] at h ⊢
 try walk_at "mir5"
 refine ic hx ?_
 try walk_at "mir5"
 exact h
theorem Pz(hok:dg hh){x:D}(hx:NS x)(hw:aO x 0 ((hh.rs.length:Int) - 1)=false):aY [hh.D,x]:=by
 show cR [some (.d hh.D),some (.d x)]
 refine xIf (K7 hok hx ?_)
 rw [hw]
 refine ⟨rfl,DZ ?_⟩
 try walk_at "mir5"
theorem PB(hok:dg hh){x:D}(hx:NS x)(hw:aO x 0 ((hh.rs.length:Int) - 1)=true):¬ aY [hh.D,x]:=by
 show ¬ cR [some (.d hh.D),some (.d x)]
 refine nIf (K7 hok hx ?_)
 rw [hw]
 exact fun z=>nomatch z
theorem PC(L:List D)(b:D->Bool):boolsOf (L.map fun y=>.bool (b y))=some (L.map b):=by
 induction L with
 | nil=>rfl
 | cons x L ih =>
  show (boolsOf (L.map fun y=>.bool (b y))).bind _=_
  rw [ih];rfl
theorem K8{L:List D}{b:D->Bool}{Q:W->Prop}(h:Q (.d (.bool (L.all b)))):oS (JG [.list (L.map fun y=>.bool (b y))]) Q:=by
 show oS ((boolsOf (L.map fun y=>.bool (b y))).bind _) Q
 rw [PC,Option.bind_some,au]
 have:(L.map b).all id=L.all b:=by rw [List.all_map];rfl
 rw [this]
 exact h
theorem Rz(s:List Int):∀ l:List (List Int),((l.map aJ).any fun z=>PyData.eqv z (aJ s))=decide (s ∈ l)
 | []=>rfl
 | t :: l=>by
  rw [List.map_cons,List.any_cons,Rz s l]
  have e:PyData.eqv (aJ t) (aJ s)=decide (t=s):=zP t s
  rw [e]
  by_cases h:t=s
  . subst h;simp
  . have h':s ≠ t:=fun e=>h e.symm
    simp [h,h']
theorem RA{s:List Int}{l:List (List Int)}{Q:W->Prop}(h:Q (.d (.bool (decide (s ∈ l))))):oS (gIn false [aJ s,.list (l.map aJ)]) Q:=by
 have h1:Sh 1 (aJ s):=KY fun y hy=>by obtain ⟨i,_,rfl⟩:=List.mem_map.mp hy;exact KW
 have h2:∀ y ∈ l.map aJ,Sh 1 y:=fun y hy=>by
  obtain ⟨t,_,rfl⟩:=List.mem_map.mp hy
  exact KY fun y hy=>by obtain ⟨i,_,rfl⟩:=List.mem_map.mp hy;exact KW
 show oS (if SeqAt.shaped (aJ s)=true /\ PyData.canLayAll0 (l.map aJ)=true then some (W.d (.bool (((l.map aJ).any fun z=>PyData.eqv z (aJ s)) != false))) else none) Q
 rw [if_pos ⟨h1.shaped (by decide),(wA h2).1⟩,au,Rz]
 simpa using h
theorem wI{x:D}{a b:Int}(h:aO x a b=true):∃ i,x = .int i /\ a <= i /\ i <= b:=by
 cases x with
 | int i =>
  have:(decide (a <= i) && decide (i <= b))=true:=h
  rw [Bool.and_eq_true,decide_eq_true_eq,decide_eq_true_eq] at this
  exact ⟨i,rfl,this⟩
 | _=>cases h
theorem RB:∀ {xs:List D},xs.all (fun y=>aO y 0 2)=true->∃ s:List Int,xs=s.map .int
 | [],_=>⟨[],rfl⟩
 | x :: xs,h=>by
  rw [List.all_cons,Bool.and_eq_true] at h
  obtain ⟨i,rfl,_⟩:=wI h.1
  obtain ⟨s,rfl⟩:=RB h.2
  exact ⟨i :: s,rfl⟩
theorem Ip{ts:List Int}(hT:xo ts){xs:List D}(h:xs.length <= 2->xs.all (fun y=>aO y 0 2)=true->False):i8 ts (.tuple xs)=false:=by
 cases e:i8 ts (.tuple xs) with
 | false=>rfl
 | true =>
  obtain ⟨s,hs,e2⟩:=(vf ts (fun m hm=>(DV hT m hm).1) _).mp e
  cases e2
  exfalso
  have hb:s.length <= 2 /\ ∀ i ∈ s,0 <= i /\ i <= 2:=by
   rcases mw.mp hs with rfl | ⟨⟨m,p⟩,hp,hs⟩
   . exact ⟨by decide,fun i hi=>absurd hi (by simp)⟩
   have hp2:=pG.mp hp
   have hpl:p < ts.length:=(List.getElem?_eq_some_iff.mp hp2).1
   have hm:=hT.2.2 m (List.mem_of_getElem? hp2)
   have hl:=hT.2.1
   rcases hs with rfl | ⟨t,ht,rfl⟩
   . refine ⟨by simp,fun i hi=>?_⟩
     rw [List.mem_singleton.mp hi]
     show (0:Int) <= (p:Int) /\ (p:Int) <= 2
     omega
   . refine ⟨by simp,fun i hi=>?_⟩
     have ht:t < m.toNat:=ht
     simp only [List.mem_cons,List.not_mem_nil,or_false] at hi
     rcases hi with rfl | rfl
     . show (0:Int) <= (p:Int) /\ (p:Int) <= 2
       omega
     . omega
  refine h (by rw [List.length_map];exact hb.1) ?_
  rw [List.all_eq_true]
  intro y hy
  obtain ⟨i,hi,rfl⟩:=List.mem_map.mp hy
  obtain ⟨h1,h2⟩:=hb.2 i hi
  show (decide _ && decide _)=true
  rw [decide_eq_true h1,decide_eq_true h2];rfl
theorem JH(hok:dg hh){x:D}(hx:Good x){Q:W × List W->Prop}(h:Q (.d (.bool (i8 hh.ts x)),[.d hh.D,.d x])):oS (dE [.d hh.D,.d x]) Q:=by
 have hT:=hok.tab
 rw [zX] at h ⊢
 refine dI rfl rfl ?_
 show oS (iV [some (.d (.tuple [aJ hh.ts,.tuple (hh.rs.map Rcp.D),.tuple (hh.tt.map Tst.D)])),some (.d x),none]) _
 unfold iV
 try walk_at "mir5"
 simp only [DX hx.1]
 cases x with
 | tuple xs =>
  have e1:fS (cw (.tuple xs)) "tuple" = true:=rfl
  simp only [e1]
  try walk_at "mir5"
  cases h2:pGt (xs.length:Int) 2 with
  | true =>
   try walk_at "mir5"
   have h2:(2:Int) < xs.length:=of_decide_eq_true h2
   rw [Ip hT fun z=>by omega] at h
   exact h
  | false =>
   try walk_at "mir5"
   have h2:¬ (2:Int) < xs.length:=of_decide_eq_false h2
   refine Jy rfl (K9 (L:=xs) (g:=fun y=>y) (p:=fun _=>true) (f:=fun y=>.bool (aO y 0 2)) ?_ rfl (by omega) (fun y hy=>?_) ?_)
   . try walk_at "mir5"
     rw [List.map_id']
   . try walk_at "mir5"
     refine yC (m:=3) (hx.2 xs rfl y hy) ?_
     try walk_at "mir5"
     rfl
   rw [vk]
   try walk_at "mir5"
   refine K8 ?_
   cases ha:xs.all (fun y=>aO y 0 2) with
   | false =>
    try walk_at "mir5"
    rw [Ip hT fun _ z=>by rw [ha] at z;cases z] at h
    exact h
   | true =>
    try walk_at "mir5"
    obtain ⟨s,rfl⟩:=RB ha
    refine zQ (ts:=hh.ts) hT.2.1 (DV hT) ?_
    try walk_at "mir5"
    refine RA ?_
    try walk_at "mir5"
    have e5:i8 hh.ts (aJ s)=decide (s ∈ spS hh.ts.zipIdx):=by
     rw [Bool.eq_iff_iff,decide_eq_true_eq,vf hh.ts (fun m hm=>(DV hT m hm).1)]
     constructor
     . rintro ⟨z,hz,e⟩
       have:s=z:=by
        have e:s.map PyData.int=z.map PyData.int:=by injection e
        exact (List.map_inj_right (fun _ _ e=>by cases e;rfl)).mp e
       rw [this];exact hz
     . exact fun hs=>⟨s,hs,rfl⟩
    rw [<- e5]
    exact h
 | none => have e1 : fS (cw .none) "tuple" = false := rfl
           simp only [e1];try walk_at "mir5"
           exact h
 | bool y => have e1 : fS (cw (.bool y)) "tuple" = false := rfl
             simp only [e1];try walk_at "mir5"
             exact h
 | int y => have e1 : fS (cw (.int y)) "tuple" = false := rfl
            simp only [e1];try walk_at "mir5"
            exact h
 | str y => have e1 : fS (cw (.str y)) "tuple" = false := rfl
            simp only [e1];try walk_at "mir5"
            exact h
 | list y => have e1 : fS (cw (.list y)) "tuple" = false := rfl
             simp only [e1];try walk_at "mir5"
             exact h
 | dict y => have e1 : fS (cw (.dict y)) "tuple" = false := rfl
             simp only [e1];try walk_at "mir5"
             exact h
def wSp(a b:Bool):Str:=if a=true then (if b=true then "none" else "number") else "spot"
theorem La{x:D}(hw:aO x 0 7=true):∃ i,x = .int i /\ 0 <= i /\ i <= 7:=wI hw
theorem Iq(hok:dg hh){x:D}(hw:i8 hh.ts x=true):∃ s ∈ spS hh.ts.zipIdx,x=aJ s:=(vf hh.ts (fun m hm=>(DV hok.tab m hm).1) _).mp hw
theorem Nc (hok : dg hh) {x y : D} (hx : Good x) (hy : NS y) {ρ : Rho} (hno : FE ρ = true) (h0 : ρ[0]? = some (some (.d hh.D))) (h1 : ρ[1]? = some (some (.d x))) (h2 : ρ[2]? = some (some (.d y))) {Q : W × Rho -> Prop} (h : Q (.d (.str (wSp (i8 hh.ts x) (aO y 0 7))), ρ)) :
    oS (nQ (fY cN (aa (ag 0) (aa (ag 1) (aa (ag 2) (aj))))) (.str "spot") (nQ (fY bV (aa (ag 0) (aa (ag 1) (aa (ag 2) (aj))))) (.str "number") (yu (aw jR (aa (ag 0) (aa (ag 1) (aa (ag 2) (aj))))) (.str "none"))) ρ) Q:=by
 have v0:ag 0 ρ=some (.d hh.D,ρ):=by unfold ag;rw [h0]
 have v1:ag 1 ρ=some (.d x,ρ):=by unfold ag;rw [h1]
 have v2:ag 2 ρ=some (.d y,ρ):=by unfold ag;rw [h2]
 have ea:∀ {Q:List W × Rho->Prop},Q ([.d hh.D,.d x,.d y],ρ)->oS (aa (ag 0) (aa (ag 1) (aa (ag 2) (aj))) ρ) Q:=fun h=>by
  rw [dJ,v0,au,dJ,v1,au,dJ,v2,au,jU]
  exact h
 cases hs:i8 hh.ts x with
 | false =>
  rw [hs] at h
  refine JF hno (ea ⟨[hh.D,x,y],rfl,?_⟩) h
  show eR [some (.d hh.D),some (.d x),some (.d y)]
  refine xq ?_
  try walk_at "mir5"
  exact ⟨[hh.D,x],rfl,Io hok hx hs⟩
 | true =>
  rw [hs] at h
  obtain ⟨s,hss,rfl⟩:=Iq hok hs
  refine wOk (ea ⟨[hh.D,aJ s,y],rfl,?_⟩) ?_
  . show ¬ eR [some (.d hh.D),some (.d (aJ s)),some (.d y)]
    refine vn ?_
    try walk_at "mir5"
    exact ⟨[hh.D,aJ s],rfl,Im hok hx hs⟩
  cases hn:aO y 0 7 with
  | false =>
   rw [hn] at h
   refine JF hno (ea ⟨[hh.D,aJ s,y],rfl,?_⟩) h
   show dM [some (.d hh.D),some (.d (aJ s)),some (.d y)]
   refine RC ?_
   try walk_at "mir5"
   refine jX hok.tab hss ?_
   try walk_at "mir5"
   refine xq ?_
   try walk_at "mir5"
   exact ⟨[y,.int 0,.int 7],rfl,K5 hy hn⟩
  | true =>
   rw [hn] at h
   obtain ⟨i,rfl,i0,i7⟩:=La hn
   refine wOk (ea ⟨[hh.D,aJ s,.int i],rfl,?_⟩) ?_
   . show ¬ dM [some (.d hh.D),some (.d (aJ s)),some (.d (.int i))]
     refine RD ?_
     try walk_at "mir5"
     refine jX hok.tab hss ?_
     try walk_at "mir5"
     refine vn ?_
     try walk_at "mir5"
     exact ⟨[.int i,.int 0,.int 7],rfl,K4 hy hn⟩
   rw [Nb,gW]
   refine ea ?_
   try walk_at "mir5"
   refine Cv hok.tab (by have:=hok.DU;omega) hss i0 i7 ?_
   try walk_at "mir5"
   exact h
theorem JI (hok : dg hh) {x y : D} (hx : Good x) (hy : NS y) {ρ : Rho} (hno : FE ρ = true) (h0 : ρ[0]? = some (some (.d hh.D))) (h1 : ρ[1]? = some (some (.d x))) (h2 : ρ[2]? = some (some (.d y))) {Q : W × Rho -> Prop} (h : Q (.d (.str (wSp (i8 hh.ts x) (aO y 0 7))), ρ)) :
    oS (nQ (fY d8 (aa (ag 0) (aa (ag 1) (aa (ag 2) (aj))))) (.str "spot") (nQ (fY cV (aa (ag 0) (aa (ag 1) (aa (ag 2) (aj))))) (.str "number") (yu (aw jx (aa (ag 0) (aa (ag 1) (aa (ag 2) (aj))))) (.str "none"))) ρ) Q:=by
 have v0:ag 0 ρ=some (.d hh.D,ρ):=by unfold ag;rw [h0]
 have v1:ag 1 ρ=some (.d x,ρ):=by unfold ag;rw [h1]
 have v2:ag 2 ρ=some (.d y,ρ):=by unfold ag;rw [h2]
 have ea:∀ {Q:List W × Rho->Prop},Q ([.d hh.D,.d x,.d y],ρ)->oS (aa (ag 0) (aa (ag 1) (aa (ag 2) (aj))) ρ) Q:=fun h=>by
  rw [dJ,v0,au,dJ,v1,au,dJ,v2,au,jU]
  exact h
 cases hs:i8 hh.ts x with
 | false =>
  rw [hs] at h
  refine JF hno (ea ⟨[hh.D,x,y],rfl,?_⟩) h
  show iW [some (.d hh.D),some (.d x),some (.d y)]
  refine xq ?_
  try walk_at "mir5"
  refine ⟨[hh.D,x,y],rfl,?_⟩
  show eR [some (.d hh.D),some (.d x),some (.d y)]
  refine xq ?_
  try walk_at "mir5"
  exact ⟨[hh.D,x],rfl,Io hok hx hs⟩
 | true =>
  rw [hs] at h
  obtain ⟨s,hss,rfl⟩:=Iq hok hs
  refine wOk (ea ⟨[hh.D,aJ s,y],rfl,?_⟩) ?_
  . show ¬ iW [some (.d hh.D),some (.d (aJ s)),some (.d y)]
    refine vn ?_
    try walk_at "mir5"
    refine ⟨[hh.D,aJ s,y],rfl,?_⟩
    show ¬ eR [some (.d hh.D),some (.d (aJ s)),some (.d y)]
    refine vn ?_
    try walk_at "mir5"
    exact ⟨[hh.D,aJ s],rfl,Im hok hx hs⟩
  cases hn:aO y 0 7 with
  | false =>
   rw [hn] at h
   refine JF hno (ea ⟨[hh.D,aJ s,y],rfl,?_⟩) h
   show gA [some (.d hh.D),some (.d (aJ s)),some (.d y)]
   refine xq ?_
   try walk_at "mir5"
   refine ⟨[hh.D,aJ s,y],rfl,?_⟩
   show dM [some (.d hh.D),some (.d (aJ s)),some (.d y)]
   refine RC ?_
   try walk_at "mir5"
   refine jX hok.tab hss ?_
   try walk_at "mir5"
   refine xq ?_
   try walk_at "mir5"
   exact ⟨[y,.int 0,.int 7],rfl,K5 hy hn⟩
  | true =>
   rw [hn] at h
   obtain ⟨i,rfl,i0,i7⟩:=La hn
   refine wOk (ea ⟨[hh.D,aJ s,.int i],rfl,?_⟩) ?_
   . show ¬ gA [some (.d hh.D),some (.d (aJ s)),some (.d (.int i))]
     refine vn ?_
     try walk_at "mir5"
     refine ⟨[hh.D,aJ s,.int i],rfl,?_⟩
     show ¬ dM [some (.d hh.D),some (.d (aJ s)),some (.d (.int i))]
     refine RD ?_
     try walk_at "mir5"
     refine jX hok.tab hss ?_
     try walk_at "mir5"
     refine vn ?_
     try walk_at "mir5"
     exact ⟨[.int i,.int 0,.int 7],rfl,K4 hy hn⟩
   rw [Nb,gW]
   refine ea ?_
   try walk_at "mir5"
   refine FH hok.tab (by have:=hok.DU;omega) hss i0 i7 ?_
   try walk_at "mir5"
   exact h
def wR6(b:Bool)(w:Str):Str:=if b=true then "none" else w
theorem Lb{x:D}{n:Nat}(hw:aO x 0 ((n:Int) - 1)=true):∃ i:Nat,x = .int (i:Int) /\ i < n:=by
 obtain ⟨i,rfl,i0,i1⟩:=wI hw
 exact ⟨i.toNat,by rw [Int.toNat_of_nonneg i0],by omega⟩
theorem Lc(hok:dg hh){s:List Int}(hs:s ∈ spS hh.ts.zipIdx):s.length <= 2:=(zU hok.tab hs).1
theorem Ld (hok : dg hh) {x : D} (hx : NS x) {ρ : Rho} (hno : FE ρ = true) (h0 : ρ[0]? = some (some (.d hh.D))) (h3 : ρ[3]? = some (some (.d x))) {Q : W × Rho -> Prop} (h : Q (.d (.str (wR6 (aO x 0 ((hh.rs.length : Int) - 1)) "recipe")), ρ)) :
    oS (nQ (fY bW (aa (ag 0) (aa (ag 3) (aj)))) (.str "recipe") (yu (aw fL (aa (ag 0) (aa (ag 3) (aj)))) (.str "none")) ρ) Q:=by
 have v0:ag 0 ρ=some (.d hh.D,ρ):=by unfold ag;rw [h0]
 have v3:ag 3 ρ=some (.d x,ρ):=by unfold ag;rw [h3]
 have ea:∀ {Q:List W × Rho->Prop},Q ([.d hh.D,.d x],ρ)->oS (aa (ag 0) (aa (ag 3) (aj)) ρ) Q:=fun h=>by
  rw [dJ,v0,au,dJ,v3,au,jU]
  exact h
 cases hn:aO x 0 ((hh.rs.length:Int) - 1) with
 | false =>
  rw [hn] at h
  refine JF hno (ea ⟨[hh.D,x],rfl,?_⟩) h
  show eT [some (.d hh.D),some (.d x),none,none,none,none,none,none]
  refine xq ?_
  try walk_at "mir5"
  exact ⟨[hh.D,x],rfl,Pz hok hx hn⟩
 | true =>
  rw [hn] at h
  refine wOk (ea ⟨[hh.D,x],rfl,?_⟩) ?_
  . show ¬ eT [some (.d hh.D),some (.d x),none,none,none,none,none,none]
    refine vn ?_
    try walk_at "mir5"
    exact ⟨[hh.D,x],rfl,PB hok hx hn⟩
  obtain ⟨i,rfl,hi⟩:=Lb hn
  obtain ⟨r,hr⟩:∃ r,hh.rs[i]? = some r:=⟨_,List.getElem?_eq_getElem hi⟩
  have ho:=hok.rok r (List.mem_of_getElem? hr)
  have hnl:=ho.gy
  rw [Nb,gW]
  refine ea ?_
  try walk_at "mir5"
  refine FC hr (by have:=hok.DU;omega) (Lc hok ho.nt) (by have:=hnl.len;omega) ?_
  try walk_at "mir5"
  exact h
theorem Le (hok : dg hh) {x : D} (hx : NS x) {ρ : Rho} (hno : FE ρ = true) (h0 : ρ[0]? = some (some (.d hh.D))) (h3 : ρ[3]? = some (some (.d x))) {Q : W × Rho -> Prop} (h : Q (.d (.str (wR6 (aO x 0 ((hh.tt.length : Int) - 1)) "tasting")), ρ)) :
    oS (nQ (fY bG (aa (ag 0) (aa (ag 3) (aj)))) (.str "tasting") (yu (aw dY (aa (ag 0) (aa (ag 3) (aj)))) (.str "none")) ρ) Q:=by
 have v0:ag 0 ρ=some (.d hh.D,ρ):=by unfold ag;rw [h0]
 have v3:ag 3 ρ=some (.d x,ρ):=by unfold ag;rw [h3]
 have ea:∀ {Q:List W × Rho->Prop},Q ([.d hh.D,.d x],ρ)->oS (aa (ag 0) (aa (ag 3) (aj)) ρ) Q:=fun h=>by
  rw [dJ,v0,au,dJ,v3,au,jU]
  exact h
 cases hn:aO x 0 ((hh.tt.length:Int) - 1) with
 | false =>
  rw [hn] at h
  refine JF hno (ea ⟨[hh.D,x],rfl,?_⟩) h
  show dO [some (.d hh.D),some (.d x),none,none,none,none]
  refine xq ?_
  try walk_at "mir5"
  exact ⟨[hh.D,x],rfl,Nd hx hok.Jw hn⟩
 | true =>
  rw [hn] at h
  refine wOk (ea ⟨[hh.D,x],rfl,?_⟩) ?_
  . show ¬ dO [some (.d hh.D),some (.d x),none,none,none,none]
    refine vn ?_
    try walk_at "mir5"
    exact ⟨[hh.D,x],rfl,Nf hx hok.Jw hn⟩
  obtain ⟨i,rfl,hi⟩:=Lb hn
  obtain ⟨t,ht⟩:∃ t,hh.tt[i]? = some t:=⟨_,List.getElem?_eq_getElem hi⟩
  have ho:=hok.tok t (List.mem_of_getElem? ht)
  rw [Nb,gW]
  refine ea ?_
  try walk_at "mir5"
  refine JE ht (by have:=hok.DU;omega) ?_ ?_
  . have:=ho.gy.len;omega
  try walk_at "mir5"
  exact h
end
section
variable {hh:fW}
theorem ix6{a c:D}{b:Bool}:atI [a,c] (if b=true then 1 else 0)=some (if b=true then c else a):=by cases b <;> rfl
theorem ws6(a b:Bool):(if a=true then (if b=true then PyData.str "none" else .str "number") else .str "spot") = .str (wSp a b):=by cases a <;> cases b <;> rfl
theorem wr6(a:Bool)(w:Str):(if a=true then PyData.str "none" else .str w) = .str (wR6 a w):=by cases a <;> rfl
theorem ok6{w:Str} (h:w ∈ (["none", "number", "spot", "recipe", "tasting"]:List Str)):Sh 0 (.str w):=by
 have:∀ w ∈ (["none", "number", "spot", "recipe", "tasting"]:List Str),(PyData.str w).canLay0=true:=by decide +kernel
 exact ⟨this w h,Nat.zero_le _⟩
theorem Lf(a b:Bool):wSp a b ∈ (["none", "number", "spot", "recipe", "tasting"]:List Str):=by cases a <;> cases b <;> simp [wSp]
theorem Lg(a:Bool){w:Str} (h:w ∈ (["none", "number", "spot", "recipe", "tasting"]:List Str)):wR6 a w ∈ (["none", "number", "spot", "recipe", "tasting"]:List Str):=by
 cases a
 . exact h
 . simp [wR6]
theorem RF{x:D}{xs:List D}{n:Nat}(h:Sh n (.list xs))(l:n <= 64)(e:x = .list xs){Q:W->Prop}(q:Q (.d (.bool true))):oS (lZ [x,x]) Q:=by
 subst e
 show oS (if xs.length=xs.length then gEq false [.list xs,.list xs] else some (.d (.bool false))) Q
 rw [if_pos rfl]
 show oS (if _ then _ else none) Q
 rw [if_pos ⟨h.shaped l,h.shaped l⟩,au]
 have e:PyData.eqv (.list xs) (.list xs)=true:=SeqAt.eqv_refl _ h.1
 rw [e]
 exact q
theorem FI(hok:dg hh){x y z:D}(hx:Good x)(hy:NS y)(hz:NS z){Q:W × List W->Prop}(h:Q (.d (.bool true),[.d hh.D,.d x,.d y,.d z])):oS (df [.d hh.D,.d x,.d y,.d z]) Q:=by
 have hrl:=hok.DU
 have htl:=hok.Jw
 refine dI rfl rfl ?_
 show oS (pP [some (.d hh.D),some (.d x),some (.d y),some (.d z),none,none,none]) _
 unfold pP
 try walk_at "mir5"
 refine JH hok hx ?_
 try walk_at "mir5"
 refine yC (m:=8) hy ?_
 try walk_at "mir5"
 rw [show aO y 0 (8 - 1)=aO y 0 7 from rfl,ix6]
 try walk_at "mir5"
 rw [ix6,ws6]
 try walk_at "mir5"
 rw [zX]
 try walk_at "mir5"
 refine yC (m:=(hh.rs.length:Int)) hz ?_
 try walk_at "mir5"
 rw [ix6,wr6]
 try walk_at "mir5"
 refine ⟨by simp,yC (m:=(hh.tt.length:Int)) hz ?_⟩
 try walk_at "mir5"
 rw [ix6,wr6]
 try walk_at "mir5"
 rw [<- zX]
 refine ⟨by simp,JI hok hx hy rfl rfl rfl rfl ?_⟩
 try walk_at "mir5"
 refine Nc hok hx hy rfl rfl rfl rfl ?_
 try walk_at "mir5"
 refine Ld hok hz rfl rfl rfl ?_
 try walk_at "mir5"
 refine ⟨by simp,Le hok hz rfl rfl rfl ?_⟩
 try walk_at "mir5"
 refine ⟨by simp,RF (n:=1) (Pp fun w hw=>?_) (by decide) rfl ?_⟩
 . simp only [List.mem_append,List.mem_singleton] at hw
   rcases hw with ((rfl | rfl) | rfl) | rfl
   . exact ok6 (Lf _ _)
   . exact ok6 (Lf _ _)
   . exact ok6 (Lg _ (by simp))
   . exact ok6 (Lg _ (by simp))
 try walk_at "mir5"
 exact h
noncomputable def G3:Fs:=(bf (Cw 7 8 9 (aa (fe2 gIx (ag 3) (aw ay (aa (ag 1) (aa (aI f9 (aa (ag 3) (aj))) (aj))))) (aa (aw ay (aa (ag 1) (aa (fC (.int 10)) (aj)))) (aa (aw ay (aa (ag 1) (aa (fC (.int 10)) (aj)))) (aj))))) (bf (fIf (ftB (fe2 lZ (aw ay (aa (ag 1) (aa (fC (.int 2)) (aj)))) (fC (.int 0)))) (cG 7 (nR (aw (bJ 6) (aa (ag 1) (aa (ag 7) (aj)))))) (fNx)) (bf (fIf (ftB (fe2 lZ (aw ay (aa (ag 1) (aa (fC (.int 3)) (aj)))) (fC (.int 0)))) (cG 8 (nR (aw (br 6) (aa (ag 1) (aa (fC (.int 2)) (aj)))))) (fNx)) (bf (fIf (ftB (fe2 lZ (aw ay (aa (ag 1) (aa (fC (.int 3)) (aj)))) (fC (.int 0)))) (cG 9 (nR (aw (br 6) (aa (ag 1) (aa (fC (.int 2)) (aj)))))) (fNx)) (fIf (ig (ftV (aw df (aa (ag 2) (aa (ag 7) (aa (ag 8) (aa (ag 9) (aj)))))))) (dP 1 (fC (.bool false))) (fNx))))))
noncomputable def G8:Fs:=(bf (cG 5 (eK (aa (eM (aa (aI f9 (aa (fe2 gIx (ag 2) (fC (.int 0))) (aj))) (aj))) (aa (eM (aa (fC (.int 0)) (aa (fe2 gIx (fe2 gIx (ag 2) (fC (.int 0))) (fC (.int 0))) (aj)))) (aa (eM (aj)) (aa (fC .none) (aj))))))) (bf (cG 6 (eK (aa (eM (aa (fe2 gIx (ag 5) (fC (.int 0))) (aa (fC (.int 8)) (aa (aI f9 (aa (fe2 gIx (ag 2) (fC (.int 1))) (aj))) (aj))))) (aa (eM (aa (fe2 gIx (ag 5) (fC (.int 1))) (aa (fe1 pH (fC (.int 1))) (aa (aI f9 (aa (fe2 gIx (ag 2) (fC (.int 2))) (aj))) (aj))))) (aa (eM (aa (fe2 gIx (ag 5) (fC (.int 2))) (aa (fC (.bool true)) (aa (fC (.bool true)) (aj))))) (aa (eM (aa (fe2 gIx (ag 5) (fC (.int 3))) (aa (fC (.str "0")) (aa (fe1 pH (fC (.int 1))) (aj))))) (aj))))))) (dP 1 (aI JG (aa (sU eU rJ (jg (ag 6)) (gT 3 (cE (gN 7) (cE (gN 8) (cE (gN 9) (nO))))) (l4) (aw df (aa (ag 2) (aa (ag 7) (aa (ag 8) (aa (ag 9) (aj)))))) [7,8,9]) (aj))))))
theorem Lh:wJ=bf (cG 1 (aw jy (aa (aw eQ (aa (ag 0) (aa (fC (.int 0)) (aj)))) (aj)))) (bf (cG 2 (aw jz (aa (ag 1) (aj)))) (bf (cG 3 (aw cy (aa (fe2 gIx (ag 2) (fC (.int 0))) (aj)))) (bf (zY (vp (aa (fC (.int 12)) (aj))) (gN 4) G3) G8))):=rfl
end
section
variable {hh:fW}
def pQ(o0:Option W)(p:List D)(hh:fW)(o4 o5 o6 o7 o8 o9:Option W):Rho:=[o0,some (.fr p),some (.d hh.D),some (.fr (kD hh.ts)),o4,o5,o6,o7,o8,o9]
noncomputable def PD:Fs:=(fIf (ftB (fe2 lZ (aw ay (aa (ag 1) (aa (fC (.int 2)) (aj)))) (fC (.int 0)))) (cG 7 (nR (aw (bJ 6) (aa (ag 1) (aa (ag 7) (aj)))))) (fNx))
noncomputable def PF:Fs:=(fIf (ftB (fe2 lZ (aw ay (aa (ag 1) (aa (fC (.int 3)) (aj)))) (fC (.int 0)))) (cG 8 (nR (aw (br 6) (aa (ag 1) (aa (fC (.int 2)) (aj)))))) (fNx))
noncomputable def PH:Fs:=(fIf (ftB (fe2 lZ (aw ay (aa (ag 1) (aa (fC (.int 3)) (aj)))) (fC (.int 0)))) (cG 9 (nR (aw (br 6) (aa (ag 1) (aa (fC (.int 2)) (aj)))))) (fNx))
noncomputable def a06:Fs:=(fIf (ig (ftV (aw df (aa (ag 2) (aa (ag 7) (aa (ag 8) (aa (ag 9) (aj)))))))) (dP 1 (fC (.bool false))) (fNx))
theorem JJ:G3=bf (Cw 7 8 9 (aa (fe2 gIx (ag 3) (aw ay (aa (ag 1) (aa (aI f9 (aa (ag 3) (aj))) (aj))))) (aa (aw ay (aa (ag 1) (aa (fC (.int 10)) (aj)))) (aa (aw ay (aa (ag 1) (aa (fC (.int 10)) (aj)))) (aj))))) (bf PD (bf PF (bf PH a06))):=rfl
theorem Ng{p:List D}(hp:cW p){o0 o4 o5 o6 o8 o9:Option W}{s:List Int}(hss:s.length <= 2 /\ ∀ i ∈ s,0 <= i /\ i <= 3){Q:Out × Rho->Prop}(h:∀ p y,cW p->Good y->Q (.nx,pQ o0 p hh o4 o5 o6 (some (.d y)) o8 o9)):oS (PD (pQ o0 p hh o4 o5 o6 (some (.d (aJ s))) o8 o9)) Q:=by
 unfold PD
 unfold pQ at h ⊢
 try walk_at "mir5"
 refine bp hp (by decide) (by decide) fun z p1 hp1 z0 z1=>?_
 try walk_at "mir5"
 cases hz:(z == 0) with
 | true =>
  try walk_at "mir5"
  rw [Li]
  try walk_at "mir5"
  refine G1 4 hss.1 hss.2 hp1 fun r p2 hp2 hr=>?_
  try walk_at "mir5"
  rcases hr with ⟨y,rfl,hy⟩ | ⟨ys,rfl⟩
  . try walk_at "mir5"
    exact h _ _ hp2 hy
  . try walk_at "mir5"
    exact h _ _ hp2 (jW ys)
 | false =>
  try walk_at "mir5"
  exact h _ _ hp1 (JB s)
theorem Nh{p:List D}(hp:cW p){o0 o4 o5 o6 o7 o9:Option W}{i:Int}{Q:Out × Rho->Prop}(h:∀ p y,cW p->Good y->Q (.nx,pQ o0 p hh o4 o5 o6 o7 (some (.d y)) o9)):oS (PF (pQ o0 p hh o4 o5 o6 o7 (some (.d (.int i))) o9)) Q:=by
 unfold PF
 unfold pQ at h ⊢
 try walk_at "mir5"
 refine bp hp (by decide) (by decide) fun z p1 hp1 z0 z1=>?_
 try walk_at "mir5"
 cases hz:(z == 0) with
 | true =>
  try walk_at "mir5"
  rw [Li]
  try walk_at "mir5"
  refine nP 6 2 p1 _ hp1 (by decide) (by decide) fun r p2 hp2 hr=>?_
  try walk_at "mir5"
  rcases hr with ⟨y,rfl,hy⟩ | ⟨ys,rfl⟩
  . try walk_at "mir5"
    exact h _ _ hp2 hy
  . try walk_at "mir5"
    exact h _ _ hp2 (jW ys)
 | false =>
  try walk_at "mir5"
  exact h _ _ hp1 (good_int i)
theorem Ni{p:List D}(hp:cW p){o0 o4 o5 o6 o7 o8:Option W}{i:Int}{Q:Out × Rho->Prop}(h:∀ p y,cW p->Good y->Q (.nx,pQ o0 p hh o4 o5 o6 o7 o8 (some (.d y)))):oS (PH (pQ o0 p hh o4 o5 o6 o7 o8 (some (.d (.int i))))) Q:=by
 unfold PH
 unfold pQ at h ⊢
 try walk_at "mir5"
 refine bp hp (by decide) (by decide) fun z p1 hp1 z0 z1=>?_
 try walk_at "mir5"
 cases hz:(z == 0) with
 | true =>
  try walk_at "mir5"
  rw [Li]
  try walk_at "mir5"
  refine nP 6 2 p1 _ hp1 (by decide) (by decide) fun r p2 hp2 hr=>?_
  try walk_at "mir5"
  rcases hr with ⟨y,rfl,hy⟩ | ⟨ys,rfl⟩
  . try walk_at "mir5"
    exact h _ _ hp2 hy
  . try walk_at "mir5"
    exact h _ _ hp2 (jW ys)
 | false =>
  try walk_at "mir5"
  exact h _ _ hp1 (good_int i)
theorem JK(hok:dg hh){p:List D}(hp:cW p){o0 o4 o5 o6 o7 o8 o9:Option W}{Q:Out × Rho->Prop}(h:∀ p o7 o8 o9,cW p->Q (.nx,pQ o0 p hh o4 o5 o6 o7 o8 o9)):oS (G3 (pQ o0 p hh o4 o5 o6 o7 o8 o9)) Q:=by
 have hT:=hok.tab
 have hsl:=Cg hT.2.1 (DV hT)
 have hsp:=Cf hh.ts
 rw [JJ]
 unfold pQ
 rw [nJ,PJ]
 try walk_at "mir5"
 refine bp hp (by omega) (by omega) fun z0 p1 hp1 z00 z01=>?_
 obtain ⟨z0,rfl⟩:∃ k:Nat,z0=k:=⟨z0.toNat,by rw [Int.toNat_of_nonneg z00]⟩
 try walk_at "mir5"
 obtain ⟨y,hy⟩:∃ y,(kD hh.ts)[z0]? = some y:=⟨_,List.getElem?_eq_getElem (by omega)⟩
 rw [vm hy]
 obtain ⟨s,rfl,hs⟩:=Ci (List.mem_of_getElem? hy)
 have hss:=zU hT hs
 try walk_at "mir5"
 refine bp hp1 (by decide) (by decide) fun z1 p2 hp2 z10 z11=>?_
 try walk_at "mir5"
 refine bp hp2 (by decide) (by decide) fun z2 p3 hp3 z20 z21=>?_
 try walk_at "mir5"
 refine Ng (hh:=hh) hp3 hss fun p4 x hp4 hx=>?_
 unfold pQ
 try walk_at "mir5"
 refine Nh (hh:=hh) hp4 fun p5 y hp5 hy=>?_
 unfold pQ
 try walk_at "mir5"
 refine Ni (hh:=hh) hp5 fun p6 z hp6 hz=>?_
 unfold pQ a06
 try walk_at "mir5"
 refine FI hok hx hy.1 hz.1 ?_
 try walk_at "mir5"
 exact h _ _ _ _ hp6
end
section
variable {hh:fW}
theorem JL(hok:dg hh){p:List D}{o0 o4 o5 o6 o7 o8 o9:Option W}{Q:Out × Rho->Prop}(h:∀ ρ,Q (.rt (.d (.bool true)),ρ)):oS (G8 (pQ o0 p hh o4 o5 o6 o7 o8 o9)) Q:=by
 have hT:=hok.tab
 have hrl:=hok.DU
 have htl:=hok.Jw
 obtain ⟨m,ts,hts⟩:∃ m ts,hh.ts=m :: ts:=by
  cases e:hh.ts with
  | nil=>have:=hT.1;rw [e] at this;exact absurd this (by decide)
  | cons m ts=>exact ⟨m,ts,rfl⟩
 unfold G8 pQ
 rw [zX]
 try walk_at "mir5"
 rw [show aJ hh.ts = .tuple (hh.ts.map .int) from rfl,hts]
 try walk_at "mir5"
 have eD:(PyData.tuple [PyData.tuple (PyData.int m :: ts.map PyData.int),PyData.tuple (hh.rs.map Rcp.D),PyData.tuple (hh.tt.map Tst.D)])=hh.D:=by
  rw [zX,show aJ hh.ts = .tuple (hh.ts.map .int) from rfl,hts];rfl
 rw [eD]
 refine Ir [o0,some (.fr p),some (.d hh.D),some (.fr (kD (m :: ts))),o4,some (.fr [PyData.tuple [PyData.int ((ts.length + 1:Nat):Int)],PyData.tuple [PyData.int 0,PyData.int m],PyData.tuple [],PyData.none]),
  some (.d (.list [PyData.tuple [PyData.tuple [PyData.int ((ts.length + 1:Nat):Int)],PyData.int 8,PyData.int (hh.rs.length:Int)],PyData.tuple [PyData.tuple [PyData.int 0,PyData.int m],PyData.int (-1),PyData.int (hh.tt.length:Int)],PyData.tuple [PyData.tuple [],PyData.bool true,PyData.bool true],PyData.tuple [PyData.none,PyData.str "0",PyData.int (-1)]])),o7,o8,o9]
  (L:=[(PyData.tuple [PyData.int ((ts.length + 1:Nat):Int)],PyData.int 8,PyData.int (hh.rs.length:Int)),(PyData.tuple [PyData.int 0,PyData.int m],PyData.int (-1),PyData.int (hh.tt.length:Int)),(PyData.tuple [],PyData.bool true,PyData.bool true),(PyData.none,PyData.str "0",PyData.int (-1))])
  (g:=fun t=>PyData.tuple [t.1,t.2.1,t.2.2]) (p:=fun _=>true) (f:=fun _=>.bool true) ?_ (by simp) (fun t ht=>?_) ?_
 . try walk_at "mir5"
 . have hg:Good t.1 /\ NS t.2.1 /\ NS t.2.2:=by
    simp only [List.mem_cons,List.not_mem_nil,or_false] at ht
    rcases ht with rfl | rfl | rfl | rfl
    . exact ⟨d9 fun y hy=>by simp only [List.mem_cons,List.not_mem_nil,or_false] at hy;rw [hy];exact (good_int _).1,(good_int _).1,(good_int _).1⟩
    . refine ⟨d9 fun y hy=>?_,(good_int _).1,(good_int _).1⟩
      simp only [List.mem_cons,List.not_mem_nil,or_false] at hy
      rcases hy with rfl | rfl <;> exact (good_int _).1
    . exact ⟨d9 fun y hy=>absurd hy (by simp),(good_bool _).1,(good_bool _).1⟩
    . exact ⟨good_none,(good_str _).1,(good_int _).1⟩
   try walk_at "mir5"
   refine FI hok hg.1 hg.2.1 hg.2.2 ?_
   try walk_at "mir5"
 rw [vk]
 try walk_at "mir5"
 refine K8 (L:=[PyData.none,PyData.none,PyData.none,PyData.none]) (b:=fun _=>true) ?_
 try walk_at "mir5"
 exact h _
theorem DQ(ns:List Int)(hl:ns.length <= 63):∃ fin,lx [B1 ns] = some (.d (.bool true),fin):=by
 have main:oS (lx [B1 ns]) fun r=>r.1 = .d (.bool true):=by
  refine dI rfl rfl ?_
  show oS (wJ [some (B1 ns),none,none,none,none,none,none,none,none,none]) _
  rw [Lh]
  unfold B1
  try walk_at "mir5"
  refine M7 (k:=0) (by decide) fun x=>?_
  try walk_at "mir5"
  refine Pq fun p hp=>?_
  try walk_at "mir5"
  refine M6 hp fun hh p1 hok hp1=>?_
  try walk_at "mir5"
  have hT:=hok.tab
  rw [zX]
  try walk_at "mir5"
  refine zQ (ts:=hh.ts) hT.2.1 (DV hT) ?_
  try walk_at "mir5"
  rw [<- zX]
  refine zR ?_
  try walk_at "mir5"
  refine ⟨fun items ρ=>∃ (p:List D) (o4 o7 o8 o9:Option W),cW p /\ ρ=pQ (some (.d (.dict [(.none,.list (ns.map .int))]))) p hh o4 none none o7 o8 o9,⟨p1,none,none,none,none,hp1,rfl⟩,?_,?_⟩
  . rintro ρ ⟨p,o4,o7,o8,o9,hp,rfl⟩
    try walk_at "mir5"
    refine JL hok fun ρ=>?_
    try walk_at "mir5"
  . rintro x xs ρ ⟨p,o4,o7,o8,o9,hp,rfl⟩
    unfold pQ
    try walk_at "mir5"
    refine JK hok hp fun p o7 o8 o9 hp=>?_
    try walk_at "mir5"
    exact ⟨p,_,_,_,_,hp,rfl⟩
 obtain ⟨⟨v,fin⟩,e,rfl⟩:=main
 exact ⟨fin,e⟩
end
end L2.Q3.Tx
end
section
namespace L2.Q3.KI
open PySem PySem.Spec PyProof.Rows L2.Q3.Tx
theorem all_mk {l : PySem.W.OpenLaw} {q : Program} {w : World} {K : PySem.W.Frag} {h : Heap} {mg : Str -> Option Value} (X : K.In h) (G : h.Ns mainGlobals mg)
    {og AE AF AG AH AI AJ AK AL sZ
    oh AM AN AO AQ AR AS AU AV tj
    kh vN vO vP vQ vR vS vT vU nF
    qy C4 C5 C6 C7 C8 C9 Dc Dd uR
    lE xC xD xE xF xG xH xI xJ pY
    lF xK xM xN xO xP xQ xR xS ki fE xT xU pZ
    qz De Df Dg Dh Di Dj Dk Dl uS
    tX EB EC ED EE EF EG EH EI xj
    iA sv sx sy sA sC sD sE sF kT
    mI yO yP yQ yR yS yT yU yV qA
    oi AW AX AY AZ A2 A3 A5 A6 tm
    vV GF GG GH GI GJ GK GL GN yW
    jo uT uU uV uW uX uY uZ u4 mr
    yX Jh Ji Jj Jk Jl Jm Jn Jo Cb
    oj A7 A8 A9 Ba Bb Bc Bd Be tq
    tY EJ EK EL EM EN EO ER ES xk
    mJ yY yZ y0 y6 y8 y9 za zb lG gc zc zd qB
    iB sG sH sI sJ sL sM sN sO kU
    mK zg zh zi zj zk zl zm zo lH gf zp zq qC
    gH qD qE qF qG qH qI qJ qK jP
    kj vW vX vY vZ v5 v7 v8 v9 jq eN wa wb nG
    om Bf Bg Bh Bi Bj Bk Bl Bm mL er Bn Bo tu
    lI xV xW xX xY xZ ya yb yc qa
    qL Dm Dn Dq Ds Dt Du Dv Dw u5
    tZ ET EU EV EW EX EY EZ E1 xl
    oq Bp Bq Br Bs Bt Bu Bv Bw tw
    ou Bx By Bz BA BB BC BD BE tB
    t4 E2 E3 E4 E5 E6 E7 E8 E9 xm
    ox BF BG BH BI BJ BK BL BM tD
    mM zr zu zv zw zx zy zA zB qM
    KJ Pk KL Pl Pm KN KO KP KQ GO
    vt_MOST_NAME} {cK:Addr} {Fb:Value} {Fc:Option Addr} {xn:ClassData} {Fd:Array (Option Value)} {et:Addr} {Ff:Value} {Fh:Option Addr} {qN:ClassData} {Fj:Array (Option Value)} {eO:Addr} {Jp:Value} {Jq:Option Addr} {Jr:ClassData} {Js:Array (Option Value)} {d6:Addr} {Dx:Value} {Dy:Option Addr} {k8:ClassData} {Dz:Array (Option Value)}
    (hq:(["straight_of", "tasting_needs", "recipes_from", "others_from", "_law_asked"]:List Str).all (fun nm=>(recsOf q).any fun r=>r.name == nm)=true)
    (oy:PySem.W.nsIn K mainGlobals "_law_is_in" = some (some (.ref og))) (oz:K.lookup og=some ⟨AH,AE,.func (PySem.W.fnOf "_law_is_in" "_law_is_in" (aM eY) (aG eY) (ah eY) .none AI AJ AK AF sZ AL),AG⟩) (oA:PySem.W.codeIn K sZ "_law_is_in" = true) (oB:PySem.W.keepIn K (.ref og)=true)
    (oC:PySem.W.nsIn K mainGlobals "_law_spots" = some (some (.ref oh))) (oD:K.lookup oh=some ⟨AQ,AM,.func (PySem.W.fnOf "_law_spots" "_law_spots" (aM eZ) (aG eZ) (ah eZ) .none AR AS AU AN tj AV),AO⟩) (oE:PySem.W.codeIn K tj "_law_spots" = true) (oF:PySem.W.keepIn K (.ref oh)=true)
    (kl:PySem.W.nsIn K mainGlobals "_law_is_place" = some (some (.ref kh))) (km:K.lookup kh=some ⟨vQ,vN,.func (PySem.W.fnOf "_law_is_place" "_law_is_place" (aM cM) (aG cM) (ah cM) .none vR vS vT vO nF vU),vP⟩) (kn:PySem.W.codeIn K nF "_law_is_place" = true) (ko:PySem.W.keepIn K (.ref kh)=true)
    (qO:PySem.W.nsIn K mainGlobals "_law_word" = some (some (.ref qy))) (qQ:K.lookup qy=some ⟨C7,C4,.func (PySem.W.fnOf "_law_word" "_law_word" (aM cC) (aG cC) (ah cC) .none C8 C9 Dc C5 uR Dd),C6⟩) (qR:PySem.W.codeIn K uR "_law_word" = true) (qS:PySem.W.keepIn K (.ref qy)=true)
    (lJ:PySem.W.nsIn K mainGlobals "spots_around" = some (some (.ref lE))) (lK:K.lookup lE=some ⟨xF,xC,.func (PySem.W.fnOf "spots_around" "spots_around" (aM dA) (aG dA) (ah dA) .none xG xH xI xD pY xJ),xE⟩) (lL:PySem.W.codeIn K pY "spots_around" = true) (lM:PySem.W.keepIn K (.ref lE)=true)
    (gh:PySem.W.nsIn K mainGlobals "recipes_from" = some (some (.ref lF))) (gi:K.lookup lF=some ⟨xO,xK,.func (PySem.W.fnOf "recipes_from" "recipes_from" (aM dB) (aG dB) (ah dB) .none xP xQ xR xM (.ref ki) xS),xN⟩) (lN:PySem.W.codeIn K (.ref ki) "recipes_from" = true) (lO:PySem.W.keepIn K (.ref lF)=true)
    (gj:K.lookup ki=some ⟨.type "code",xT,.fields pZ,xU⟩) (gk:Fl pZ=some fE) (lP:(K.lookup fE).isNone=true)
    (qT:PySem.W.nsIn K mainGlobals "is_number" = some (some (.ref qz))) (qU:K.lookup qz=some ⟨Dh,De,.func (PySem.W.fnOf "is_number" "is_number" (aM gm) (aG gm) (ah gm) .none Di Dj Dk Df uS Dl),Dg⟩) (qV:PySem.W.codeIn K uS "is_number" = true) (qW:PySem.W.keepIn K (.ref qz)=true)
    (t8:PySem.W.nsIn K mainGlobals "is_whole" = some (some (.ref tX))) (t9:K.lookup tX=some ⟨EE,EB,.func (PySem.W.fnOf "is_whole" "is_whole" (aM iC) (aG iC) (ah iC) .none EF EG EH EC xj EI),ED⟩) (ua:PySem.W.codeIn K xj "is_whole" = true) (ub:PySem.W.keepIn K (.ref tX)=true)
    (iD:PySem.W.nsIn K mainGlobals "refuse_no_number" = some (some (.ref iA))) (iE:K.lookup iA=some ⟨sA,sv,.func (PySem.W.fnOf "refuse_no_number" "refuse_no_number" (aM bz) (aG bz) (ah bz) .none sC sD sE sx kT sF),sy⟩) (iF:PySem.W.codeIn K kT "refuse_no_number" = true) (iG:PySem.W.keepIn K (.ref iA)=true)
    (mO:PySem.W.nsIn K mainGlobals "is_tuple_of" = some (some (.ref mI))) (mP:K.lookup mI=some ⟨yR,yO,.func (PySem.W.fnOf "is_tuple_of" "is_tuple_of" (aM eu) (aG eu) (ah eu) .none yS yT yU yP qA yV),yQ⟩) (mQ:PySem.W.codeIn K qA "is_tuple_of" = true) (mR:PySem.W.keepIn K (.ref mI)=true)
    (oG:PySem.W.nsIn K mainGlobals "is_spot_of" = some (some (.ref oi))) (oH:K.lookup oi=some ⟨AZ,AW,.func (PySem.W.fnOf "is_spot_of" "is_spot_of" (aM e8) (aG e8) (ah e8) .none A2 A3 A5 AX tm A6),AY⟩) (oI:PySem.W.codeIn K tm "is_spot_of" = true) (oJ:PySem.W.keepIn K (.ref oi)=true)
    (we:PySem.W.nsIn K mainGlobals "is_spot" = some (some (.ref vV))) (wg:K.lookup vV=some ⟨GI,GF,.func (PySem.W.fnOf "is_spot" "is_spot" (aM jr) (aG jr) (ah jr) .none GJ GK GL GG yW GN),GH⟩) (wj:PySem.W.codeIn K yW "is_spot" = true) (wm:PySem.W.keepIn K (.ref vV)=true)
    (js:PySem.W.nsIn K mainGlobals "refuse_no_spot" = some (some (.ref jo))) (jt:K.lookup jo=some ⟨uW,uT,.func (PySem.W.fnOf "refuse_no_spot" "refuse_no_spot" (aM bO) (aG bO) (ah bO) .none uX uY uZ uU mr u4),uV⟩) (ju:PySem.W.codeIn K mr "refuse_no_spot" = true) (jv:PySem.W.keepIn K (.ref jo)=true)
    (zC:PySem.W.nsIn K mainGlobals "all_at" = some (some (.ref yX))) (zD:K.lookup yX=some ⟨Jk,Jh,.func (PySem.W.fnOf "all_at" "all_at" (aM jb) (aG jb) (ah jb) .none Jl Jm Jn Ji Cb Jo),Jj⟩) (zE:PySem.W.codeIn K Cb "all_at" = true) (zF:PySem.W.keepIn K (.ref yX)=true)
    (oK:PySem.W.nsIn K mainGlobals "nearest_of" = some (some (.ref oj))) (oM:K.lookup oj=some ⟨Ba,A7,.func (PySem.W.fnOf "nearest_of" "nearest_of" (aM e9) (aG e9) (ah e9) .none Bb Bc Bd A8 tq Be),A9⟩) (oN:PySem.W.codeIn K tq "nearest_of" = true) (oO:PySem.W.keepIn K (.ref oj)=true)
    (ud:PySem.W.nsIn K mainGlobals "found_at" = some (some (.ref tY))) (ue:K.lookup tY=some ⟨EM,EJ,.func (PySem.W.fnOf "found_at" "found_at" (aM ff) (aG ff) (ah ff) .none EN EO ER EK xk ES),EL⟩) (uf:PySem.W.codeIn K xk "found_at" = true) (ug:PySem.W.keepIn K (.ref tY)=true)
    (gZ:PySem.W.nsIn K mainGlobals "others_from" = some (some (.ref mJ))) (g7:K.lookup mJ=some ⟨y6,yY,.func (PySem.W.fnOf "others_from" "others_from" (aM eB) (aG eB) (ah eB) .none y8 y9 za yZ (.ref lG) zb),y0⟩) (mS:PySem.W.codeIn K (.ref lG) "others_from" = true) (mT:PySem.W.keepIn K (.ref mJ)=true)
    (g8:K.lookup lG=some ⟨.type "code",zc,.fields qB,zd⟩) (g9:Fl qB=some gc) (mU:(K.lookup gc).isNone=true)
    (iH:PySem.W.nsIn K mainGlobals "refuse_no_recipe" = some (some (.ref iB))) (iI:K.lookup iB=some ⟨sJ,sG,.func (PySem.W.fnOf "refuse_no_recipe" "refuse_no_recipe" (aM bA) (aG bA) (ah bA) .none sL sM sN sH kU sO),sI⟩) (iJ:PySem.W.codeIn K kU "refuse_no_recipe" = true) (iK:PySem.W.keepIn K (.ref iB)=true)
    (hJ:PySem.W.nsIn K mainGlobals "straight_of" = some (some (.ref mK))) (hU:K.lookup mK=some ⟨zj,zg,.func (PySem.W.fnOf "straight_of" "straight_of" (aM dm) (aG dm) (ah dm) .none zk zl zm zh (.ref lH) zo),zi⟩) (mV:PySem.W.codeIn K (.ref lH) "straight_of" = true) (mW:PySem.W.keepIn K (.ref mK)=true)
    (hV:K.lookup lH=some ⟨.type "code",zp,.fields qC,zq⟩) (hX:Fl qC=some gf) (mX:(K.lookup gf).isNone=true)
    (gJ:PySem.W.nsIn K mainGlobals "refuse_no_tasting" = some (some (.ref gH))) (gK:K.lookup gH=some ⟨qG,qD,.func (PySem.W.fnOf "refuse_no_tasting" "refuse_no_tasting" (aM bq) (aG bq) (ah bq) .none qH qI qJ qE jP qK),qF⟩) (gL:PySem.W.codeIn K jP "refuse_no_tasting" = true) (gM:PySem.W.keepIn K (.ref gH)=true)
    (fF:PySem.W.nsIn K mainGlobals "tasting_needs" = some (some (.ref kj))) (fG:K.lookup kj=some ⟨vZ,vW,.func (PySem.W.fnOf "tasting_needs" "tasting_needs" (aM b0) (aG b0) (ah b0) .none v5 v7 v8 vX (.ref jq) v9),vY⟩) (kq:PySem.W.codeIn K (.ref jq) "tasting_needs" = true) (kr:PySem.W.keepIn K (.ref kj)=true)
    (fH:K.lookup jq=some ⟨.type "code",wa,.fields nG,wb⟩) (fI:Fl nG=some eN) (ku:(K.lookup eN).isNone=true)
    (cZ:PySem.W.nsIn K mainGlobals "_law_asked" = some (some (.ref om))) (c6:K.lookup om=some ⟨Bi,Bf,.func (PySem.W.fnOf "_law_asked" "_law_asked" (aM fj) (aG fj) (ah fj) .none Bj Bk Bl Bg (.ref mL) Bm),Bh⟩) (oP:PySem.W.codeIn K (.ref mL) "_law_asked" = true) (oQ:PySem.W.keepIn K (.ref om)=true)
    (c7:K.lookup mL=some ⟨.type "code",Bn,.fields tu,Bo⟩) (c8:Fl tu=some er) (oR:(K.lookup er).isNone=true)
    (lQ:PySem.W.nsIn K mainGlobals "_law_cell_at" = some (some (.ref lI))) (lR:K.lookup lI=some ⟨xY,xV,.func (PySem.W.fnOf "_law_cell_at" "_law_cell_at" (aM dC) (aG dC) (ah dC) .none xZ ya yb xW qa yc),xX⟩) (lS:PySem.W.codeIn K qa "_law_cell_at" = true) (lT:PySem.W.keepIn K (.ref lI)=true)
    (qX:PySem.W.nsIn K mainGlobals "_law_draw" = some (some (.ref qL))) (qY:K.lookup qL=some ⟨Ds,Dm,.func (PySem.W.fnOf "_law_draw" "_law_draw" (aM gn) (aG gn) (ah gn) .none Dt Du Dv Dn u5 Dw),Dq⟩) (qZ:PySem.W.codeIn K u5 "_law_draw" = true) (q5:PySem.W.keepIn K (.ref qL)=true)
    (uh:PySem.W.nsIn K mainGlobals "_law_pen" = some (some (.ref tZ))) (ui:K.lookup tZ=some ⟨EW,ET,.func (PySem.W.fnOf "_law_pen" "_law_pen" (aM iL) (aG iL) (ah iL) .none EX EY EZ EU xl E1),EV⟩) (uj:PySem.W.codeIn K xl "_law_pen" = true) (uk:PySem.W.keepIn K (.ref tZ)=true)
    (oU:PySem.W.nsIn K mainGlobals "_law_needs" = some (some (.ref oq))) (oV:K.lookup oq=some ⟨Bs,Bp,.func (PySem.W.fnOf "_law_needs" "_law_needs" (aM fm) (aG fm) (ah fm) .none Bt Bu Bv Bq tw Bw),Br⟩) (oW:PySem.W.codeIn K tw "_law_needs" = true) (oX:PySem.W.keepIn K (.ref oq)=true)
    (oY:PySem.W.nsIn K mainGlobals "_law_words" = some (some (.ref ou))) (oZ:K.lookup ou=some ⟨BA,Bx,.func (PySem.W.fnOf "_law_words" "_law_words" (aM fq) (aG fq) (ah fq) .none BB BC BD By tB BE),Bz⟩) (pd:PySem.W.codeIn K tB "_law_words" = true) (pf:PySem.W.keepIn K (.ref ou)=true)
    (um:PySem.W.nsIn K mainGlobals "_law_raw" = some (some (.ref t4))) (uo:K.lookup t4=some ⟨E5,E2,.func (PySem.W.fnOf "_law_raw" "_law_raw" (aM iM) (aG iM) (ah iM) .none E6 E7 E8 E3 xm E9),E4⟩) (uq:PySem.W.codeIn K xm "_law_raw" = true) (ur:PySem.W.keepIn K (.ref t4)=true)
    (ph:PySem.W.nsIn K mainGlobals "_law_thing" = some (some (.ref ox))) (pj:K.lookup ox=some ⟨BI,BF,.func (PySem.W.fnOf "_law_thing" "_law_thing" (aM fu) (aG fu) (ah fu) .none BJ BK BL BG tD BM),BH⟩) (pk:PySem.W.codeIn K tD "_law_thing" = true) (pq:PySem.W.keepIn K (.ref ox)=true)
    (mY:PySem.W.nsIn K mainGlobals "_law_spoilt" = some (some (.ref mM))) (mZ:K.lookup mM=some ⟨zw,zr,.func (PySem.W.fnOf "_law_spoilt" "_law_spoilt" (aM eC) (aG eC) (ah eC) .none zx zy zA zu qM zB),zv⟩) (m7:PySem.W.codeIn K qM "_law_spoilt" = true) (m9:PySem.W.keepIn K (.ref mM)=true)
    (Ic:PySem.W.nsIn K mainGlobals "law" = some (some (.ref KJ))) (Ie:K.lookup KJ=some ⟨Pm,Pk,.func (PySem.W.fnOf "law" "law" (aM rf) (aG rf) (ah rf) .none KN KO KP KL GO KQ),Pl⟩) (Ig:PySem.W.codeIn K GO "law" = true) (Ih:PySem.W.keepIn K (.ref KJ)=true)
    (z_all:PySem.W.nsIn K mainGlobals "all" = some none)
    (z_bool:PySem.W.nsIn K mainGlobals "bool" = some none)
    (z_enumerate:PySem.W.nsIn K mainGlobals "enumerate" = some none)
    (z_int:PySem.W.nsIn K mainGlobals "int" = some none)
    (z_isinstance:PySem.W.nsIn K mainGlobals "isinstance" = some none)
    (z_len:PySem.W.nsIn K mainGlobals "len" = some none)
    (z_list:PySem.W.nsIn K mainGlobals "list" = some none)
    (z_min:PySem.W.nsIn K mainGlobals "min" = some none)
    (z_range:PySem.W.nsIn K mainGlobals "range" = some none)
    (z_set:PySem.W.nsIn K mainGlobals "set" = some none)
    (z_sorted:PySem.W.nsIn K mainGlobals "sorted" = some none)
    (z_str:PySem.W.nsIn K mainGlobals "str" = some none)
    (z_tuple:PySem.W.nsIn K mainGlobals "tuple" = some none)
    (z_is_unfit:PySem.W.nsIn K mainGlobals "is_unfit" = some none)
    (z_is_cooked_of_any:PySem.W.nsIn K mainGlobals "is_cooked_of_any" = some none)
    (z_are_heights:PySem.W.nsIn K mainGlobals "are_heights" = some none)
    (z_all_straight:PySem.W.nsIn K mainGlobals "all_straight" = some none)
    (z_is_word:PySem.W.nsIn K mainGlobals "is_word" = some none)
    (z_is_rising:PySem.W.nsIn K mainGlobals "is_rising" = some none)
    (z_are_tables:PySem.W.nsIn K mainGlobals "are_tables" = some none)
    (z_are_needs:PySem.W.nsIn K mainGlobals "are_needs" = some none)
    (z_are_words:PySem.W.nsIn K mainGlobals "are_words" = some none)
    (z_are_recipes:PySem.W.nsIn K mainGlobals "are_recipes" = some none)
    (z_are_tastings:PySem.W.nsIn K mainGlobals "are_tastings" = some none)
    (z_is_told_list:PySem.W.nsIn K mainGlobals "is_told_list" = some none)
    (z_is_same:PySem.W.nsIn K mainGlobals "is_same" = some none)
    (z_pots_of_turn:PySem.W.nsIn K mainGlobals "pots_of_turn" = some none)
    (z_pot_of:PySem.W.nsIn K mainGlobals "pot_of" = some none)
    (z_are_mishaps:PySem.W.nsIn K mainGlobals "are_mishaps" = some none)
    (z_order_of:PySem.W.nsIn K mainGlobals "order_of" = some none)
    (z_is_order_of:PySem.W.nsIn K mainGlobals "is_order_of" = some none)
    (z_is_turn_of:PySem.W.nsIn K mainGlobals "is_turn_of" = some none)
    (z_choices_of:PySem.W.nsIn K mainGlobals "choices_of" = some none)
    (z_many_ahead:PySem.W.nsIn K mainGlobals "many_ahead" = some none)
    (z_house_read:PySem.W.nsIn K mainGlobals "house_read" = some none)
    (z_is_pick_of:PySem.W.nsIn K mainGlobals "is_pick_of" = some none)
    (z_is_right_floor:PySem.W.nsIn K mainGlobals "is_right_floor" = some none)
    (z_is_table:PySem.W.nsIn K mainGlobals "is_table" = some none)
    (z_list_text:PySem.W.nsIn K mainGlobals "list_text" = some none)
    (z_number_read:PySem.W.nsIn K mainGlobals "number_read" = some none)
    (z_numbers_read:PySem.W.nsIn K mainGlobals "numbers_read" = some none)
    (z_parting:PySem.W.nsIn K mainGlobals "parting" = some none)
    (z_spaced:PySem.W.nsIn K mainGlobals "spaced" = some none)
    (z_spot_text:PySem.W.nsIn K mainGlobals "spot_text" = some none)
    (z_step_by:PySem.W.nsIn K mainGlobals "step_by" = some none)
    (z_tasting_read:PySem.W.nsIn K mainGlobals "tasting_read" = some none)
    (z_with_blanks_ahead:PySem.W.nsIn K mainGlobals "with_blanks_ahead" = some none)
    (z__law_found:PySem.W.nsIn K mainGlobals "_law_found" = some none)
    (z__law_turn_so:PySem.W.nsIn K mainGlobals "_law_turn_so" = some none)
    (z__law_list_so:PySem.W.nsIn K mainGlobals "_law_list_so" = some none)
    (z__law_all_no:PySem.W.nsIn K mainGlobals "_law_all_no" = some none)
    (z__law_no_words:PySem.W.nsIn K mainGlobals "_law_no_words" = some none)
    (z__law_one_deed:PySem.W.nsIn K mainGlobals "_law_one_deed" = some none)
    (z__law_stopped_at:PySem.W.nsIn K mainGlobals "_law_stopped_at" = some none)
    (z__law_right:PySem.W.nsIn K mainGlobals "_law_right" = some none)
    (z__law_refused:PySem.W.nsIn K mainGlobals "_law_refused" = some none)
    (z__law_tells_so:PySem.W.nsIn K mainGlobals "_law_tells_so" = some none)
    (z__law_deed:PySem.W.nsIn K mainGlobals "_law_deed" = some none)
    (z__law_some:PySem.W.nsIn K mainGlobals "_law_some" = some none)
    (z__law_part:PySem.W.nsIn K mainGlobals "_law_part" = some none)
    (z__law_all_so:PySem.W.nsIn K mainGlobals "_law_all_so" = some none)
    (z__law_wrong_words:PySem.W.nsIn K mainGlobals "_law_wrong_words" = some none)
    (z__law_wrong_recipes:PySem.W.nsIn K mainGlobals "_law_wrong_recipes" = some none)
    (v_MOST_NAME:PySem.W.nsIn K mainGlobals "MOST_NAME" = some (some (.int 7 vt_MOST_NAME)))
    (i_bool_NoneType:PySem.W.kitOne K (.type "NoneType") (.type "bool")=some false)
    (i_bool_bool:PySem.W.kitOne K (.type "bool") (.type "bool")=some true)
    (i_bool_int:PySem.W.kitOne K (.type "int") (.type "bool")=some false)
    (i_bool_str:PySem.W.kitOne K (.type "str") (.type "bool")=some false)
    (i_bool_list:PySem.W.kitOne K (.type "list") (.type "bool")=some false)
    (i_bool_tuple:PySem.W.kitOne K (.type "tuple") (.type "bool")=some false)
    (i_bool_dict:PySem.W.kitOne K (.type "dict") (.type "bool")=some false)
    (i_int_NoneType:PySem.W.kitOne K (.type "NoneType") (.type "int")=some false)
    (i_int_bool:PySem.W.kitOne K (.type "bool") (.type "int")=some true)
    (i_int_int:PySem.W.kitOne K (.type "int") (.type "int")=some true)
    (i_int_str:PySem.W.kitOne K (.type "str") (.type "int")=some false)
    (i_int_list:PySem.W.kitOne K (.type "list") (.type "int")=some false)
    (i_int_tuple:PySem.W.kitOne K (.type "tuple") (.type "int")=some false)
    (i_int_dict:PySem.W.kitOne K (.type "dict") (.type "int")=some false)
    (i_str_NoneType:PySem.W.kitOne K (.type "NoneType") (.type "str")=some false)
    (i_str_bool:PySem.W.kitOne K (.type "bool") (.type "str")=some false)
    (i_str_int:PySem.W.kitOne K (.type "int") (.type "str")=some false)
    (i_str_str:PySem.W.kitOne K (.type "str") (.type "str")=some true)
    (i_str_list:PySem.W.kitOne K (.type "list") (.type "str")=some false)
    (i_str_tuple:PySem.W.kitOne K (.type "tuple") (.type "str")=some false)
    (i_str_dict:PySem.W.kitOne K (.type "dict") (.type "str")=some false)
    (i_tuple_NoneType:PySem.W.kitOne K (.type "NoneType") (.type "tuple")=some false)
    (i_tuple_bool:PySem.W.kitOne K (.type "bool") (.type "tuple")=some false)
    (i_tuple_int:PySem.W.kitOne K (.type "int") (.type "tuple")=some false)
    (i_tuple_str:PySem.W.kitOne K (.type "str") (.type "tuple")=some false)
    (i_tuple_list:PySem.W.kitOne K (.type "list") (.type "tuple")=some false)
    (i_tuple_tuple:PySem.W.kitOne K (.type "tuple") (.type "tuple")=some true)
    (i_tuple_dict:PySem.W.kitOne K (.type "dict") (.type "tuple")=some false)
    (dU:(gf == er)=false)
    (c9:(eN == er)=false)
    (dD:(fE == er)=false)
    (dW:(gc == er)=false)
    (rg:PySem.W.nsIn K mainGlobals "NoNumber" = some (some (.ref cK))) (rh:PySem.W.excIn K cK [.type "ValueError",.type "Exception",.type "BaseException",.type "object"] "ValueError.__new__" = true) (rj:K.lookup cK=some ⟨Fb,Fc,.cls xn,Fd⟩)
    (rq:PySem.W.nsIn K mainGlobals "NoRecipe" = some (some (.ref et))) (rz:PySem.W.excIn K et [.type "ValueError",.type "Exception",.type "BaseException",.type "object"] "ValueError.__new__" = true) (mv:K.lookup et=some ⟨Ff,Fh,.cls qN,Fj⟩)
    (wo:PySem.W.nsIn K mainGlobals "NoSpot" = some (some (.ref eO))) (wt:PySem.W.excIn K eO [.type "ValueError",.type "Exception",.type "BaseException",.type "object"] "ValueError.__new__" = true) (Cc:K.lookup eO=some ⟨Jp,Jq,.cls Jr,Js⟩)
    (pv:PySem.W.nsIn K mainGlobals "NoTasting" = some (some (.ref d6))) (pA:PySem.W.excIn K d6 [.type "ValueError",.type "Exception",.type "BaseException",.type "object"] "ValueError.__new__" = true) (jc:K.lookup d6=some ⟨Dx,Dy,.cls k8,Dz⟩)
    (iN:xn.mro.contains (.ref eO)=false)
    (gp:qN.mro.contains (.ref cK)=false)
    (iO:qN.mro.contains (.ref eO)=false)
    (fN:k8.mro.contains (.ref cK)=false)
    (fO:k8.mro.contains (.ref et)=false)
    (gO:k8.mro.contains (.ref eO)=false) :
    (∀ nm ∈ fD ++ cb,(∃ r ∈ recsOf q,r.name=nm) \/ ∀ f:Addr,mg nm ≠ some (.ref f)) /\ (∀ b,Tb K mg b->K.lookup b=none) /\ ∀ fa:Addr,mg "law" = some (.ref fa) ->
     ∃ fd:FuncData,(∀ (s:Shared) (v:Value),BindsTo s fd ⟨[v],[]⟩ [("_law_script",v)]) /\ ∀ base:Heap,K.In base->base.Ns mainGlobals mg->jd l.prog w K mg base CX0 14 fa fd ["_law_script"] (spF K 1 lx):=by
 refine ⟨fun nm hm=>?_,fun b hb=>?_,fun fa hfa=>?_⟩
 . simp only [fD,cb,List.cons_append,List.nil_append,List.mem_cons,List.not_mem_nil,or_false] at hm
   simp only [List.all_cons,List.all_nil,Bool.and_eq_true,Bool.and_true] at hq
   rcases hm with rfl | rfl | rfl | rfl | rfl | rfl | rfl | rfl | rfl | rfl | rfl | rfl | rfl | rfl | rfl | rfl | rfl | rfl | rfl | rfl | rfl | rfl | rfl | rfl | rfl | rfl | rfl | rfl | rfl | rfl | rfl | rfl | rfl | rfl | rfl | rfl | rfl | rfl | rfl | rfl | rfl | rfl | rfl | rfl | rfl | rfl | rfl | rfl | rfl | rfl | rfl | rfl | rfl | rfl | rfl
   . exact .inr fun f e=>by rw [PySem.W.mg_none_of X G z_is_unfit] at e;cases e
   . exact .inr fun f e=>by rw [PySem.W.mg_none_of X G z_is_cooked_of_any] at e;cases e
   . exact .inr fun f e=>by rw [PySem.W.mg_none_of X G z_are_heights] at e;cases e
   . exact .inr fun f e=>by rw [PySem.W.mg_none_of X G z_all_straight] at e;cases e
   . exact .inl (u6 (hq.1))
   . exact .inl (u6 (hq.2.1))
   . exact .inl (u6 (hq.2.2.1))
   . exact .inl (u6 (hq.2.2.2.1))
   . exact .inr fun f e=>by rw [PySem.W.mg_none_of X G z_is_word] at e;cases e
   . exact .inr fun f e=>by rw [PySem.W.mg_none_of X G z_is_rising] at e;cases e
   . exact .inr fun f e=>by rw [PySem.W.mg_none_of X G z_are_tables] at e;cases e
   . exact .inr fun f e=>by rw [PySem.W.mg_none_of X G z_are_needs] at e;cases e
   . exact .inr fun f e=>by rw [PySem.W.mg_none_of X G z_are_words] at e;cases e
   . exact .inr fun f e=>by rw [PySem.W.mg_none_of X G z_are_recipes] at e;cases e
   . exact .inr fun f e=>by rw [PySem.W.mg_none_of X G z_are_tastings] at e;cases e
   . exact .inr fun f e=>by rw [PySem.W.mg_none_of X G z_is_told_list] at e;cases e
   . exact .inr fun f e=>by rw [PySem.W.mg_none_of X G z_is_same] at e;cases e
   . exact .inr fun f e=>by rw [PySem.W.mg_none_of X G z_pots_of_turn] at e;cases e
   . exact .inr fun f e=>by rw [PySem.W.mg_none_of X G z_pot_of] at e;cases e
   . exact .inr fun f e=>by rw [PySem.W.mg_none_of X G z_are_mishaps] at e;cases e
   . exact .inr fun f e=>by rw [PySem.W.mg_none_of X G z_order_of] at e;cases e
   . exact .inr fun f e=>by rw [PySem.W.mg_none_of X G z_is_order_of] at e;cases e
   . exact .inr fun f e=>by rw [PySem.W.mg_none_of X G z_is_turn_of] at e;cases e
   . exact .inr fun f e=>by rw [PySem.W.mg_none_of X G z_choices_of] at e;cases e
   . exact .inr fun f e=>by rw [PySem.W.mg_none_of X G z_many_ahead] at e;cases e
   . exact .inr fun f e=>by rw [PySem.W.mg_none_of X G z_house_read] at e;cases e
   . exact .inr fun f e=>by rw [PySem.W.mg_none_of X G z_is_pick_of] at e;cases e
   . exact .inr fun f e=>by rw [PySem.W.mg_none_of X G z_is_right_floor] at e;cases e
   . exact .inr fun f e=>by rw [PySem.W.mg_none_of X G z_is_table] at e;cases e
   . exact .inr fun f e=>by rw [PySem.W.mg_none_of X G z_list_text] at e;cases e
   . exact .inr fun f e=>by rw [PySem.W.mg_none_of X G z_number_read] at e;cases e
   . exact .inr fun f e=>by rw [PySem.W.mg_none_of X G z_numbers_read] at e;cases e
   . exact .inr fun f e=>by rw [PySem.W.mg_none_of X G z_parting] at e;cases e
   . exact .inr fun f e=>by rw [PySem.W.mg_none_of X G z_spaced] at e;cases e
   . exact .inr fun f e=>by rw [PySem.W.mg_none_of X G z_spot_text] at e;cases e
   . exact .inr fun f e=>by rw [PySem.W.mg_none_of X G z_step_by] at e;cases e
   . exact .inr fun f e=>by rw [PySem.W.mg_none_of X G z_tasting_read] at e;cases e
   . exact .inr fun f e=>by rw [PySem.W.mg_none_of X G z_with_blanks_ahead] at e;cases e
   . exact .inr fun f e=>by rw [PySem.W.mg_none_of X G z__law_found] at e;cases e
   . exact .inr fun f e=>by rw [PySem.W.mg_none_of X G z__law_turn_so] at e;cases e
   . exact .inr fun f e=>by rw [PySem.W.mg_none_of X G z__law_list_so] at e;cases e
   . exact .inr fun f e=>by rw [PySem.W.mg_none_of X G z__law_all_no] at e;cases e
   . exact .inr fun f e=>by rw [PySem.W.mg_none_of X G z__law_no_words] at e;cases e
   . exact .inr fun f e=>by rw [PySem.W.mg_none_of X G z__law_one_deed] at e;cases e
   . exact .inr fun f e=>by rw [PySem.W.mg_none_of X G z__law_stopped_at] at e;cases e
   . exact .inr fun f e=>by rw [PySem.W.mg_none_of X G z__law_right] at e;cases e
   . exact .inr fun f e=>by rw [PySem.W.mg_none_of X G z__law_refused] at e;cases e
   . exact .inr fun f e=>by rw [PySem.W.mg_none_of X G z__law_tells_so] at e;cases e
   . exact .inr fun f e=>by rw [PySem.W.mg_none_of X G z__law_deed] at e;cases e
   . exact .inr fun f e=>by rw [PySem.W.mg_none_of X G z__law_some] at e;cases e
   . exact .inr fun f e=>by rw [PySem.W.mg_none_of X G z__law_part] at e;cases e
   . exact .inl (u6 (hq.2.2.2.2))
   . exact .inr fun f e=>by rw [PySem.W.mg_none_of X G z__law_all_so] at e;cases e
   . exact .inr fun f e=>by rw [PySem.W.mg_none_of X G z__law_wrong_words] at e;cases e
   . exact .inr fun f e=>by rw [PySem.W.mg_none_of X G z__law_wrong_recipes] at e;cases e
 . obtain ⟨nm,hm,f,oc,od,fd,sl,e1,e2,e3⟩:=hb.n
   simp only [fD,cb,List.cons_append,List.nil_append,List.mem_cons,List.not_mem_nil,or_false] at hm
   rcases hm with rfl | rfl | rfl | rfl | rfl | rfl | rfl | rfl | rfl | rfl | rfl | rfl | rfl | rfl | rfl | rfl | rfl | rfl | rfl | rfl | rfl | rfl | rfl | rfl | rfl | rfl | rfl | rfl | rfl | rfl | rfl | rfl | rfl | rfl | rfl | rfl | rfl | rfl | rfl | rfl | rfl | rfl | rfl | rfl | rfl | rfl | rfl | rfl | rfl | rfl | rfl | rfl | rfl | rfl | rfl
   . rw [PySem.W.mg_none_of X G z_is_unfit] at e1;cases e1
   . rw [PySem.W.mg_none_of X G z_is_cooked_of_any] at e1;cases e1
   . rw [PySem.W.mg_none_of X G z_are_heights] at e1;cases e1
   . rw [PySem.W.mg_none_of X G z_all_straight] at e1;cases e1
   . exact rA (PySem.W.mg_of X G hJ) hU hV hX mX e1 e2 e3
   . exact rA (PySem.W.mg_of X G fF) fG fH fI ku e1 e2 e3
   . exact rA (PySem.W.mg_of X G gh) gi gj gk lP e1 e2 e3
   . exact rA (PySem.W.mg_of X G gZ) g7 g8 g9 mU e1 e2 e3
   . rw [PySem.W.mg_none_of X G z_is_word] at e1;cases e1
   . rw [PySem.W.mg_none_of X G z_is_rising] at e1;cases e1
   . rw [PySem.W.mg_none_of X G z_are_tables] at e1;cases e1
   . rw [PySem.W.mg_none_of X G z_are_needs] at e1;cases e1
   . rw [PySem.W.mg_none_of X G z_are_words] at e1;cases e1
   . rw [PySem.W.mg_none_of X G z_are_recipes] at e1;cases e1
   . rw [PySem.W.mg_none_of X G z_are_tastings] at e1;cases e1
   . rw [PySem.W.mg_none_of X G z_is_told_list] at e1;cases e1
   . rw [PySem.W.mg_none_of X G z_is_same] at e1;cases e1
   . rw [PySem.W.mg_none_of X G z_pots_of_turn] at e1;cases e1
   . rw [PySem.W.mg_none_of X G z_pot_of] at e1;cases e1
   . rw [PySem.W.mg_none_of X G z_are_mishaps] at e1;cases e1
   . rw [PySem.W.mg_none_of X G z_order_of] at e1;cases e1
   . rw [PySem.W.mg_none_of X G z_is_order_of] at e1;cases e1
   . rw [PySem.W.mg_none_of X G z_is_turn_of] at e1;cases e1
   . rw [PySem.W.mg_none_of X G z_choices_of] at e1;cases e1
   . rw [PySem.W.mg_none_of X G z_many_ahead] at e1;cases e1
   . rw [PySem.W.mg_none_of X G z_house_read] at e1;cases e1
   . rw [PySem.W.mg_none_of X G z_is_pick_of] at e1;cases e1
   . rw [PySem.W.mg_none_of X G z_is_right_floor] at e1;cases e1
   . rw [PySem.W.mg_none_of X G z_is_table] at e1;cases e1
   . rw [PySem.W.mg_none_of X G z_list_text] at e1;cases e1
   . rw [PySem.W.mg_none_of X G z_number_read] at e1;cases e1
   . rw [PySem.W.mg_none_of X G z_numbers_read] at e1;cases e1
   . rw [PySem.W.mg_none_of X G z_parting] at e1;cases e1
   . rw [PySem.W.mg_none_of X G z_spaced] at e1;cases e1
   . rw [PySem.W.mg_none_of X G z_spot_text] at e1;cases e1
   . rw [PySem.W.mg_none_of X G z_step_by] at e1;cases e1
   . rw [PySem.W.mg_none_of X G z_tasting_read] at e1;cases e1
   . rw [PySem.W.mg_none_of X G z_with_blanks_ahead] at e1;cases e1
   . rw [PySem.W.mg_none_of X G z__law_found] at e1;cases e1
   . rw [PySem.W.mg_none_of X G z__law_turn_so] at e1;cases e1
   . rw [PySem.W.mg_none_of X G z__law_list_so] at e1;cases e1
   . rw [PySem.W.mg_none_of X G z__law_all_no] at e1;cases e1
   . rw [PySem.W.mg_none_of X G z__law_no_words] at e1;cases e1
   . rw [PySem.W.mg_none_of X G z__law_one_deed] at e1;cases e1
   . rw [PySem.W.mg_none_of X G z__law_stopped_at] at e1;cases e1
   . rw [PySem.W.mg_none_of X G z__law_right] at e1;cases e1
   . rw [PySem.W.mg_none_of X G z__law_refused] at e1;cases e1
   . rw [PySem.W.mg_none_of X G z__law_tells_so] at e1;cases e1
   . rw [PySem.W.mg_none_of X G z__law_deed] at e1;cases e1
   . rw [PySem.W.mg_none_of X G z__law_some] at e1;cases e1
   . rw [PySem.W.mg_none_of X G z__law_part] at e1;cases e1
   . exact rA (PySem.W.mg_of X G cZ) c6 c7 c8 oR e1 e2 e3
   . rw [PySem.W.mg_none_of X G z__law_all_so] at e1;cases e1
   . rw [PySem.W.mg_none_of X G z__law_wrong_words] at e1;cases e1
   . rw [PySem.W.mg_none_of X G z__law_wrong_recipes] at e1;cases e1
 . have e:=hfa.symm.trans (PySem.W.mg_of X G Ic)
   cases e
   have nz:∀ n ∈ (["_law_found", "_law_turn_so", "_law_list_so", "_law_all_no", "_law_no_words", "_law_one_deed", "_law_stopped_at", "_law_right", "_law_refused", "_law_tells_so", "_law_deed", "_law_some", "_law_part", "_law_all_so", "_law_wrong_words", "_law_wrong_recipes"]:List Str),mg n=none:=by
    intro n hn
    simp only [List.mem_cons,List.not_mem_nil,or_false] at hn
    rcases hn with rfl | rfl | rfl | rfl | rfl | rfl | rfl | rfl | rfl | rfl | rfl | rfl | rfl | rfl | rfl | rfl
    . exact PySem.W.mg_none_of X G z__law_found
    . exact PySem.W.mg_none_of X G z__law_turn_so
    . exact PySem.W.mg_none_of X G z__law_list_so
    . exact PySem.W.mg_none_of X G z__law_all_no
    . exact PySem.W.mg_none_of X G z__law_no_words
    . exact PySem.W.mg_none_of X G z__law_one_deed
    . exact PySem.W.mg_none_of X G z__law_stopped_at
    . exact PySem.W.mg_none_of X G z__law_right
    . exact PySem.W.mg_none_of X G z__law_refused
    . exact PySem.W.mg_none_of X G z__law_tells_so
    . exact PySem.W.mg_none_of X G z__law_deed
    . exact PySem.W.mg_none_of X G z__law_some
    . exact PySem.W.mg_none_of X G z__law_part
    . exact PySem.W.mg_none_of X G z__law_all_so
    . exact PySem.W.mg_none_of X G z__law_wrong_words
    . exact PySem.W.mg_none_of X G z__law_wrong_recipes
   have T:Tf K mg:=⟨PySem.W.mg_none_of X G z_all,PySem.W.mg_none_of X G z_bool,PySem.W.mg_none_of X G z_enumerate,PySem.W.mg_none_of X G z_int,PySem.W.mg_none_of X G z_isinstance,PySem.W.mg_none_of X G z_len,PySem.W.mg_none_of X G z_list,PySem.W.mg_none_of X G z_min,PySem.W.mg_none_of X G z_range,PySem.W.mg_none_of X G z_set,PySem.W.mg_none_of X G z_sorted,PySem.W.mg_none_of X G z_str,PySem.W.mg_none_of X G z_tuple,⟨fun a ha=>by
    simp only [List.mem_cons,List.not_mem_nil,or_false] at ha
    rcases ha with rfl | rfl | rfl | rfl | rfl | rfl | rfl
    . exact i_bool_NoneType
    . exact i_bool_bool
    . exact i_bool_int
    . exact i_bool_str
    . exact i_bool_list
    . exact i_bool_tuple
    . exact i_bool_dict⟩,⟨fun a ha=>by
    simp only [List.mem_cons,List.not_mem_nil,or_false] at ha
    rcases ha with rfl | rfl | rfl | rfl | rfl | rfl | rfl
    . exact i_int_NoneType
    . exact i_int_bool
    . exact i_int_int
    . exact i_int_str
    . exact i_int_list
    . exact i_int_tuple
    . exact i_int_dict⟩,⟨fun a ha=>by
    simp only [List.mem_cons,List.not_mem_nil,or_false] at ha
    rcases ha with rfl | rfl | rfl | rfl | rfl | rfl | rfl
    . exact i_str_NoneType
    . exact i_str_bool
    . exact i_str_int
    . exact i_str_str
    . exact i_str_list
    . exact i_str_tuple
    . exact i_str_dict⟩,⟨fun a ha=>by
    simp only [List.mem_cons,List.not_mem_nil,or_false] at ha
    rcases ha with rfl | rfl | rfl | rfl | rfl | rfl | rfl
    . exact i_tuple_NoneType
    . exact i_tuple_bool
    . exact i_tuple_int
    . exact i_tuple_str
    . exact i_tuple_list
    . exact i_tuple_tuple
    . exact i_tuple_dict⟩,⟨_,PySem.W.mg_of X G v_MOST_NAME⟩⟩
   have DB:Dfn K mg "_law_is_in" eY:=⟨_,_,bI (st:=eY) oz oA oB,PySem.W.mg_of X G oy⟩
   have DC:Dfn K mg "_law_spots" eZ:=⟨_,_,bI (st:=eZ) oD oE oF,PySem.W.mg_of X G oC⟩
   have yd:Dfn K mg "_law_is_place" cM:=⟨_,_,bI (st:=cM) km kn ko,PySem.W.mg_of X G kl⟩
   have Fm:Dfn K mg "_law_word" cC:=⟨_,_,bI (st:=cC) qQ qR qS,PySem.W.mg_of X G qO⟩
   have zG:Dfn K mg "spots_around" dA:=⟨_,_,bI (st:=dA) lK lL lM,PySem.W.mg_of X G lJ⟩
   have ye:¬ TbN cb K mg fE:=by
    rintro ⟨nm,hm,f,oc,od,fd,sl,e1,e2,e3⟩
    simp only [cb,List.mem_cons,List.not_mem_nil,or_false] at hm
    rcases hm with rfl | rfl | rfl | rfl | rfl | rfl | rfl | rfl | rfl | rfl | rfl | rfl | rfl | rfl | rfl | rfl | rfl
    all_goals first | exact yA (PySem.W.mg_of X G cZ) c6 (fV c7 c8) dD e1 e2 e3 | cases (nz _ (by simp)).symm.trans e1
   have zH:wu K mg "recipes_from" dB:=⟨_,_,bI (st:=dB) gi lN lO,PySem.W.mg_of X G gh,fE,.inr ⟨rfl,⟨"recipes_from",by simp [fD],_,_,_,_,_,PySem.W.mg_of X G gh,gi,fV gj gk⟩,ye⟩,fV gj gk⟩
   have Fp:Dfn K mg "is_number" gm:=⟨_,_,bI (st:=gm) qU qV qW,PySem.W.mg_of X G qT⟩
   have GP:Dfn K mg "is_whole" iC:=⟨_,_,bI (st:=iC) t9 ua ub,PySem.W.mg_of X G t8⟩
   have lU:Dfn K mg "refuse_no_number" bz:=⟨_,_,bI (st:=bz) iE iF iG,PySem.W.mg_of X G iD⟩
   have BN:Dfn K mg "is_tuple_of" eu:=⟨_,_,bI (st:=eu) mP mQ mR,PySem.W.mg_of X G mO⟩
   have DD:Dfn K mg "is_spot_of" e8:=⟨_,_,bI (st:=e8) oH oI oJ,PySem.W.mg_of X G oG⟩
   have Jt:Dfn K mg "is_spot" jr:=⟨_,_,bI (st:=jr) wg wj wm,PySem.W.mg_of X G we⟩
   have nH:Dfn K mg "refuse_no_spot" bO:=⟨_,_,bI (st:=bO) jt ju jv,PySem.W.mg_of X G js⟩
   have zI:Dfn K mg "all_at" jb:=⟨_,_,bI (st:=jb) zD zE zF,PySem.W.mg_of X G zC⟩
   have DF:Dfn K mg "nearest_of" e9:=⟨_,_,bI (st:=e9) oM oN oO,PySem.W.mg_of X G oK⟩
   have uu:Dfn K mg "found_at" ff:=⟨_,_,bI (st:=ff) ue uf ug,PySem.W.mg_of X G ud⟩
   have zJ:¬ TbN cb K mg gc:=by
    rintro ⟨nm,hm,f,oc,od,fd,sl,e1,e2,e3⟩
    simp only [cb,List.mem_cons,List.not_mem_nil,or_false] at hm
    rcases hm with rfl | rfl | rfl | rfl | rfl | rfl | rfl | rfl | rfl | rfl | rfl | rfl | rfl | rfl | rfl | rfl | rfl
    all_goals first | exact yA (PySem.W.mg_of X G cZ) c6 (fV c7 c8) dW e1 e2 e3 | cases (nz _ (by simp)).symm.trans e1
   have BO:wu K mg "others_from" eB:=⟨_,_,bI (st:=eB) g7 mS mT,PySem.W.mg_of X G gZ,gc,.inr ⟨rfl,⟨"others_from",by simp [fD],_,_,_,_,_,PySem.W.mg_of X G gZ,g7,fV g8 g9⟩,zJ⟩,fV g8 g9⟩
   have lV:Dfn K mg "refuse_no_recipe" bA:=⟨_,_,bI (st:=bA) iI iJ iK,PySem.W.mg_of X G iH⟩
   have zK:¬ TbN cb K mg gf:=by
    rintro ⟨nm,hm,f,oc,od,fd,sl,e1,e2,e3⟩
    simp only [cb,List.mem_cons,List.not_mem_nil,or_false] at hm
    rcases hm with rfl | rfl | rfl | rfl | rfl | rfl | rfl | rfl | rfl | rfl | rfl | rfl | rfl | rfl | rfl | rfl | rfl
    all_goals first | exact yA (PySem.W.mg_of X G cZ) c6 (fV c7 c8) dU e1 e2 e3 | cases (nz _ (by simp)).symm.trans e1
   have tF:wu K mg "straight_of" dm:=⟨_,_,bI (st:=dm) hU mV mW,PySem.W.mg_of X G hJ,gf,.inr ⟨rfl,⟨"straight_of",by simp [fD],_,_,_,_,_,PySem.W.mg_of X G hJ,hU,fV hV hX⟩,zK⟩,fV hV hX⟩
   have kW:Dfn K mg "refuse_no_tasting" bq:=⟨_,_,bI (st:=bq) gK gL gM,PySem.W.mg_of X G gJ⟩
   have wx:¬ TbN cb K mg eN:=by
    rintro ⟨nm,hm,f,oc,od,fd,sl,e1,e2,e3⟩
    simp only [cb,List.mem_cons,List.not_mem_nil,or_false] at hm
    rcases hm with rfl | rfl | rfl | rfl | rfl | rfl | rfl | rfl | rfl | rfl | rfl | rfl | rfl | rfl | rfl | rfl | rfl
    all_goals first | exact yA (PySem.W.mg_of X G cZ) c6 (fV c7 c8) c9 e1 e2 e3 | cases (nz _ (by simp)).symm.trans e1
   have qb:wu K mg "tasting_needs" b0:=⟨_,_,bI (st:=b0) fG kq kr,PySem.W.mg_of X G fF,eN,.inr ⟨rfl,⟨"tasting_needs",by simp [fD],_,_,_,_,_,PySem.W.mg_of X G fF,fG,fV fH fI⟩,wx⟩,fV fH fI⟩
   have DH:Pn K mg "_law_asked" fj:=⟨_,_,bI (st:=fj) c6 oP oQ,PySem.W.mg_of X G cZ,er,.inl ⟨rfl, "_law_asked",by simp [cb],_,_,_,_,_,PySem.W.mg_of X G cZ,c6,fV c7 c8⟩,fV c7 c8⟩
   have zL:Dfn K mg "_law_cell_at" dC:=⟨_,_,bI (st:=dC) lR lS lT,PySem.W.mg_of X G lQ⟩
   have Fq:Dfn K mg "_law_draw" gn:=⟨_,_,bI (st:=gn) qY qZ q5,PySem.W.mg_of X G qX⟩
   have GQ:Dfn K mg "_law_pen" iL:=⟨_,_,bI (st:=iL) ui uj uk,PySem.W.mg_of X G uh⟩
   have DJ:Dfn K mg "_law_needs" fm:=⟨_,_,bI (st:=fm) oV oW oX,PySem.W.mg_of X G oU⟩
   have DK:Dfn K mg "_law_words" fq:=⟨_,_,bI (st:=fq) oZ pd pf,PySem.W.mg_of X G oY⟩
   have GR:Dfn K mg "_law_raw" iM:=⟨_,_,bI (st:=iM) uo uq ur,PySem.W.mg_of X G um⟩
   have DL:Dfn K mg "_law_thing" fu:=⟨_,_,bI (st:=fu) pj pk pq,PySem.W.mg_of X G ph⟩
   have BP:Dfn K mg "_law_spoilt" eC:=⟨_,_,bI (st:=eC) mZ m7 m9,PySem.W.mg_of X G mY⟩
   have T6:Dfn K mg "law" rf:=⟨_,_,bI (st:=rf) Ie Ig Ih,PySem.W.mg_of X G Ic⟩
   refine ⟨PySem.W.fnOf "law" "law" (aM rf) (aG rf) (ah rf) .none KN KO KP KL GO KQ,fun s v=>.of_eq rfl,fun base _ _=>?_⟩
   have d7:Cal l.prog w K mg base 1 "_law_is_in" 2 dc:=BQ T DB
   have de:Cal l.prog w K mg base 1 "_law_spots" 1 cy:=BR T DC
   have kA:Cal l.prog w K mg base 2 "_law_is_place" 2 dE:=wy T yd d7 de
   have b7:=DM Fm
   have lW:Cal l.prog w K mg base 1 "spots_around" 1 gq:=yf T zG
   have bS:Cal l.prog w K mg base 3 "recipes_from" 3 bT:=yg T zH lW
   have rB:Cal l.prog w K mg base 1 "is_number" 1 jQ:=DN T Fp
   have aU:Cal l.prog w K mg base 2 "is_whole" 3 aZ:=Fu T GP rB
   have iP:Cal l.prog w K mg base 3 "refuse_no_number" 3 dF:=sP T lU aU
   have ng:Cal l.prog w K mg base 1 "is_tuple_of" 3 hZ:=zM T BN
   have pB:Cal l.prog w K mg base 3 "is_spot_of" 2 je:=BS T DD ng aU
   have ly:Cal l.prog w K mg base 4 "is_spot" 2 jw:=GU T Jt pB
   have dq:Cal l.prog w K mg base 5 "refuse_no_spot" 2 cf:=u7 T nH ly
   have nI:Cal l.prog w K mg base 6 "all_at" 3 jR:=Ju T zI dq iP bS
   have bo:Cal l.prog w K mg base 1 "nearest_of" 1 bU:=BU T DF
   have uv:Cal l.prog w K mg base 7 "found_at" 3 jx:=Fv T uu bo nI
   have nh:Cal l.prog w K mg base 5 "others_from" 4 ia:=zN T BO bS
   have iQ:Cal l.prog w K mg base 3 "refuse_no_recipe" 2 dG:=sQ T lV aU
   have nq:Cal l.prog w K mg base 7 "straight_of" 2 fL:=zO T tF iQ bo nh
   have gQ:Cal l.prog w K mg base 3 "refuse_no_tasting" 2 cU:=rC T kW aU
   have kC:Cal l.prog w K mg base 5 "tasting_needs" 2 dY:=wz T qb gQ bo bS
   have cD:pC K mg "NoNumber" cK:=⟨PySem.W.mg_of X G rg,_,PySem.F.excBase_ValueError,rh⟩
   have eX:pC K mg "NoRecipe" et:=⟨PySem.W.mg_of X G rq,_,PySem.F.excBase_ValueError,rz⟩
   have dw:pC K mg "NoSpot" eO:=⟨PySem.W.mg_of X G wo,_,PySem.F.excBase_ValueError,wt⟩
   have fy:pC K mg "NoTasting" d6:=⟨PySem.W.mg_of X G pv,_,PySem.F.excBase_ValueError,pA⟩
   have fA:Off K cK eO:=⟨_,_,_,_,rj,iN⟩
   have gr:Off K et cK:=⟨_,_,_,_,mv,gp⟩
   have iR:Off K et eO:=⟨_,_,_,_,mv,iO⟩
   have fP:Off K d6 cK:=⟨_,_,_,_,jc,fN⟩
   have fQ:Off K d6 et:=⟨_,_,_,_,jc,fO⟩
   have gS:Off K d6 eO:=⟨_,_,_,_,jc,gO⟩
   have eE:fR l.prog w K mg base 5 "refuse_no_spot" 2 eO bx:=mn dw nH ly
   have dz:fR l.prog w K mg base 6 "all_at" 3 eO cN:=u9 zI eE
   have iS:fR l.prog w K mg base 7 "found_at" 3 eO d8:=sR uu bo dz
   have cO:fR l.prog w K mg base 3 "refuse_no_number" 3 cK aX:=jS cD lU aU
   have cg:fR l.prog w K mg base 6 "all_at" 3 cK bV:=sS T zI dq cO
   have gu:fR l.prog w K mg base 7 "found_at" 3 cK cV:=qw uu bo cg
   have cP:fR l.prog w K mg base 3 "refuse_no_recipe" 2 et aY:=jT eX T lV aU
   have eP:fR l.prog w K mg base 7 "straight_of" 2 et bW:=nr tF cP
   have cj:fR l.prog w K mg base 3 "refuse_no_tasting" 2 d6 aS:=jm fy T kW aU
   have dH:fR l.prog w K mg base 5 "tasting_needs" 2 d6 bG:=k9 qb cj
   have la:Cal l.prog w K mg base 10 "_law_asked" 4 df:=BV cD eX dw fy fA gr iR fP fQ gS iS gu dz cg eP dH T DH kA d7 uv nI nq kC b7
   have lX:Cal l.prog w K mg base 1 "_law_cell_at" 2 eQ:=yh T zL
   have aB:Cal l.prog w K mg base 1 "_law_draw" 2 ay:=DP T Fq
   have uw:Cal l.prog w K mg base 1 "_law_pen" 1 jy:=Fw T GQ
   have lb:Cal l.prog w K mg base 2 "_law_needs" 2 gC:=BW T DJ aB
   have pD:Cal l.prog w K mg base 2 "_law_words" 1 jf:=BX T DK aB
   have ux:Cal l.prog w K mg base 3 "_law_raw" 1 jz:=Fx T GR aB de lb pD
   have cz:Cal l.prog w K mg base 7 "_law_thing" 2 (br 6):=tH T DL aB 6
   have ib:Cal l.prog w K mg base 13 "_law_spoilt" 2 (bJ 6):=rD T BP aB cz 6
   exact M3 T (bI (st:=rf) Ie Ig Ih) uw lX ux de aB ib cz la
theorem walk {l : PySem.W.OpenLaw} {q : Program} {loose : List Str} {XP : (Str -> Option Value) -> Heap -> Prop} {YP : World -> Heap -> Prop} {d : DefRec} {K : Params -> PySem.W.Frag} (hn : l.most = some 63) (hdf : d.params.defaults = []) (hdn : d.name = "law")
    (hY:∀ (w:World) (h:Heap),YP w h->(K w.params).In h)
    (A:∀ (w:World) (mg:Str->Option Value) (h:Heap),(K w.params).In h->h.Ns mainGlobals mg->(∀ nm ∈ fD ++ cb,(∃ r ∈ recsOf q,r.name=nm) \/ ∀ f:Addr,mg nm ≠ some (.ref f)) /\ (∀ b,Tb (K w.params) mg b->(K w.params).lookup b=none) /\ ∀ fa:Addr,mg "law" = some (.ref fa) ->
     ∃ fd:FuncData,(∀ (s:Shared) (v:Value),BindsTo s fd ⟨[v],[]⟩ [("_law_script",v)]) /\ ∀ base:Heap,(K w.params).In base->base.Ns mainGlobals mg->jd l.prog w (K w.params) mg base CX0 14 fa fd ["_law_script"] (spF (K w.params) 1 lx)) :
    PySem.W.WalkO q loose XP YP l.row.toRowW d [] (fun f vs=>PySem.call f vs) :=
 L2.KR (n:=63) (k:=14) (x := "_law_script") (CX:=CX0) (sp:=fun K=>spF K 1 lx) hn (by decide) hdf ⟨rfl,by decide,by decide⟩ hY (fun w mg h X G=>(A w mg h X G).1) (fun w mg h X G=>(A w mg h X G).2.1) (fun w mg fa h X G e=>(A w mg h X G).2.2 fa (hdn ▸ e)) (fun K H a ns hl hO hS=>Jv hS (DQ ns hl) (M4 hO)) fun _ _ _ _ z=>z
end L2.Q3.KI
open PySem PySem.W PyProof.Rows
set_option maxRecDepth 100000 in
set_option maxHeartbeats 0 in
theorem PySem.Challenge.cw_tastehouse_k06_first_refusals_holds : PySem.Challenge.rw_tastehouse_k06_first_refusals.Holds := by
 w_on;o_law;k_head;(case hw=>w_witness2)
 k_fill
 refine L2.Q3.KI.walk (l:=PySem.Challenge.rw_tastehouse_k06_first_refusals) rfl rfl rfl (fun w h Y=>by first | exact PySem.W.kIn_of Y | exact PySem.W.km_in_of Y) ?A
 case A =>
  intro w mg h KX G
  refine' L2.Q3.KI.all_mk KX G ?hq ?oy ?oz ?oA ?oB ?oC ?oD ?oE ?oF ?kl ?km ?kn ?ko ?qO ?qQ ?qR ?qS ?lJ ?lK ?lL ?lM ?gh ?gi ?lN ?lO ?gj ?gk ?lP ?qT ?qU ?qV ?qW ?t8 ?t9 ?ua ?ub ?iD ?iE ?iF ?iG ?mO ?mP ?mQ ?mR ?oG ?oH ?oI ?oJ ?we ?wg ?wj ?wm ?js ?jt ?ju ?jv ?zC ?zD ?zE ?zF ?oK ?oM ?oN ?oO ?ud ?ue ?uf ?ug ?gZ ?g7 ?mS ?mT ?g8 ?g9 ?mU ?iH ?iI ?iJ ?iK ?hJ ?hU ?mV ?mW ?hV ?hX ?mX ?gJ ?gK ?gL ?gM ?fF ?fG ?kq ?kr ?fH ?fI ?ku ?cZ ?c6 ?oP ?oQ ?c7 ?c8 ?oR ?lQ ?lR ?lS ?lT ?qX ?qY ?qZ ?q5 ?uh ?ui ?uj ?uk ?oU ?oV ?oW ?oX ?oY ?oZ ?pd ?pf ?um ?uo ?uq ?ur ?ph ?pj ?pk ?pq ?mY ?mZ ?m7 ?m9 ?Ic ?Ie ?Ig ?Ih ?z_all ?z_bool ?z_enumerate ?z_int ?z_isinstance ?z_len ?z_list ?z_min ?z_range ?z_set ?z_sorted ?z_str ?z_tuple ?z_is_unfit ?z_is_cooked_of_any ?z_are_heights ?z_all_straight ?z_is_word ?z_is_rising ?z_are_tables ?z_are_needs ?z_are_words ?z_are_recipes ?z_are_tastings ?z_is_told_list ?z_is_same ?z_pots_of_turn ?z_pot_of ?z_are_mishaps ?z_order_of ?z_is_order_of ?z_is_turn_of ?z_choices_of ?z_many_ahead ?z_house_read ?z_is_pick_of ?z_is_right_floor ?z_is_table ?z_list_text ?z_number_read ?z_numbers_read ?z_parting ?z_spaced ?z_spot_text ?z_step_by ?z_tasting_read ?z_with_blanks_ahead ?z__law_found ?z__law_turn_so ?z__law_list_so ?z__law_all_no ?z__law_no_words ?z__law_one_deed ?z__law_stopped_at ?z__law_right ?z__law_refused ?z__law_tells_so ?z__law_deed ?z__law_some ?z__law_part ?z__law_all_so ?z__law_wrong_words ?z__law_wrong_recipes ?v_MOST_NAME ?i_bool_NoneType ?i_bool_bool ?i_bool_int ?i_bool_str ?i_bool_list ?i_bool_tuple ?i_bool_dict ?i_int_NoneType ?i_int_bool ?i_int_int ?i_int_str ?i_int_list ?i_int_tuple ?i_int_dict ?i_str_NoneType ?i_str_bool ?i_str_int ?i_str_str ?i_str_list ?i_str_tuple ?i_str_dict ?i_tuple_NoneType ?i_tuple_bool ?i_tuple_int ?i_tuple_str ?i_tuple_list ?i_tuple_tuple ?i_tuple_dict ?dU ?c9 ?dD ?dW ?rg ?rh ?rj ?rq ?rz ?mv ?wo ?wt ?Cc ?pv ?pA ?jc ?iN ?gp ?iO ?fN ?fO ?gO
  (case rg | rj=>k_is)
  (case rh=>first | k_exc | k_is)
  (case rq | mv=>k_is)
  (case rz=>first | k_exc | k_is)
  (case wo | Cc=>k_is)
  (case wt=>first | k_exc | k_is)
  (case pv | jc=>k_is)
  (case pA=>first | k_exc | k_is)
  (case iN=>rfl)
  (case gp=>rfl)
  (case iO=>rfl)
  (case fN=>rfl)
  (case fO=>rfl)
  (case gO=>rfl)
  (case oy | oz | oA | oB | oC | oD | oE | oF | kl | km | kn | ko | qO | qQ | qR | qS | lJ | lK | lL | lM | gh | gi | lN | lO | gj | qT | qU | qV | qW | t8 | t9 | ua | ub | iD | iE | iF | iG | mO | mP | mQ=>k_is)
  (case mR | oG | oH | oI | oJ | we | wg | wj | wm | js | jt | ju | jv | zC | zD | zE | zF | oK | oM | oN | oO | ud | ue | uf | ug | gZ | g7 | mS | mT | g8 | iH | iI | iJ | iK | hJ | hU | mV | mW | hV | gJ=>k_is)
  (case gK | gL | gM | fF | fG | kq | kr | fH | cZ | c6 | oP | oQ | c7 | lQ | lR | lS | lT | qX | qY | qZ | q5 | uh | ui | uj | uk | oU | oV | oW | oX | oY | oZ | pd | pf | um | uo | uq | ur | ph | pj | pk=>k_is)
  (case pq | mY | mZ | m7 | m9 | Ic | Ie | Ig | Ih | z_all | z_bool | z_enumerate | z_int | z_isinstance | z_len | z_list | z_min | z_range | z_set | z_sorted | z_str | z_tuple | z_is_unfit | z_is_cooked_of_any | z_are_heights | z_all_straight | z_is_word | z_is_rising | z_are_tables | z_are_needs | z_are_words | z_are_recipes | z_are_tastings | z_is_told_list | z_is_same | z_pots_of_turn | z_pot_of | z_are_mishaps | z_order_of | z_is_order_of=>k_is)
  (case z_is_turn_of | z_choices_of | z_many_ahead | z_house_read | z_is_pick_of | z_is_right_floor | z_is_table | z_list_text | z_number_read | z_numbers_read | z_parting | z_spaced | z_spot_text | z_step_by | z_tasting_read | z_with_blanks_ahead | z__law_found | z__law_turn_so | z__law_list_so | z__law_all_no | z__law_no_words | z__law_one_deed | z__law_stopped_at | z__law_right | z__law_refused | z__law_tells_so | z__law_deed | z__law_some | z__law_part | z__law_all_so | z__law_wrong_words | z__law_wrong_recipes | v_MOST_NAME=>k_is)
  (case i_bool_NoneType | i_bool_bool | i_bool_int | i_bool_str | i_bool_list | i_bool_tuple | i_bool_dict | i_int_NoneType | i_int_bool | i_int_int | i_int_str | i_int_list | i_int_tuple | i_int_dict | i_str_NoneType | i_str_bool | i_str_int | i_str_str | i_str_list | i_str_tuple | i_str_dict | i_tuple_NoneType | i_tuple_bool | i_tuple_int | i_tuple_str | i_tuple_list | i_tuple_tuple | i_tuple_dict=>kit_is)
  (case hq | gk | lP | g9 | mU | hX | mX | fI | ku | c8 | oR | dU | c9 | dD | dW=>rfl)
end
