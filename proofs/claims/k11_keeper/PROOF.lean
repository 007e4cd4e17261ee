import PyProof.Rows.All
import Wide.All
import OpenK.AllK
import Wide.FinOn
import Lean
import PyProof.EqAt
import PyProof.EqKinds
import PyProof.TupleCall
import PySem.Challenge.RW_growbook_k11_keeper
set_option Elab.async false
set_option linter.all false
set_option maxRecDepth 100000
set_option maxHeartbeats 4000000
theorem om {p:Prop}(h:p:=by first | decide | omega):p:=h
namespace L2
open PySem PySem.Spec PyProof.Rows
variable {P:Program}{w:World}{K:W.Frag}{mg:Str->Option Value}{base:Heap}
abbrev Xaa:=@wpAny_bind
abbrev Xab:=@List.getElem?_eq_getElem
abbrev Xac:=@Heap.get?_push_of_some
abbrev Xad:=@List.length_map
abbrev Xae:=@Nat.le_refl
abbrev Xaf:=@of_decide_eq_true
abbrev Xag:=@decide_eq_false
abbrev Xah:=@decide_eq_true
abbrev Xai:=@Heap.lt_size
abbrev Xaj:=@of_decide_eq_false
abbrev Xak:=@wpAny_pure
abbrev Xal:=@List.mem_cons_of_mem
abbrev Xam:=@sizeLine_eq
abbrev Xan:=@Nat.le_trans
abbrev Xao:=@Nat.lt_of_lt_of_le
abbrev Xap:=@Bool.false_ne_true
abbrev Xaq:=@wpAny_mono
abbrev Xar:=@List.size_toArray
abbrev Xas:=@List.getElem?_map
abbrev Xat:=@List.getD_eq_getElem?_getD
abbrev Xau:=@Heap.get?_push_size
abbrev Xav:=@List.length_take
abbrev Xaw:=@Nat.ne_of_lt
abbrev Xax:=@List.length_cons
abbrev Xay:=@List.length_append
abbrev Xaz:=@List.mem_cons_self
abbrev Xa0:=@List.not_mem_nil
abbrev Xa1:=@PySem.F.plainAttrs_list
abbrev Xa2:=@List.mem_append_right
abbrev Xa3:=@PySem.F.type_list_append
abbrev Xa4:=@PySem.F.slot_list_append
abbrev Xa5:=@Heap.get?_update_other
abbrev Xa6:=@List.eq_nil_of_length_eq_zero
abbrev Xa7:=@List.mem_of_getElem?
abbrev Xa8:=@List.length_singleton
abbrev Xa9:=@Heap.get?_update_self
abbrev Xba:=@List.append_nil
abbrev Xbb:=@PySem.F.plainAttrs_str
abbrev Xbc:=@PyProof.Rows.boot_isinstance
abbrev Xbd:=@List.mem_cons
abbrev Xbe:=@List.length_drop
abbrev Xbf:=@List.map_cons
abbrev Xbg:=@PySem.mem_of_lookup
abbrev Xbh:=@List.getElem_mem
abbrev Xbi:=@wpAny_holding
abbrev Xbj:=@PySem.W.kia_one
abbrev Xbk:=@List.map_append
abbrev Xbl:=@Nat.lt_irrefl
abbrev Xbm:=@Nat.lt_of_le_of_lt
abbrev Xbn:=@wpAny_truthy_bool
abbrev Xbo:=@Nat.add_le_add_left
abbrev Xbp:=@wpAny_Call_Name_kw
abbrev Xbq:=@PySem.W.callWith_K
abbrev Xbr:=@W.hideAll_none
abbrev Xbs:=@List.mem_of_mem_drop
abbrev Xbt:=@List.map_map
abbrev Xbu:=@Array.length_toList
abbrev Xbv:=@List.getElem?_append_right
abbrev Xbw:=@wpAny_execs_cons
abbrev Xbx:=@PySem.W.mg_of
abbrev Xby:=@PySem.W.methodCall_KW
abbrev Xbz:=@List.length_filter_le
abbrev Xb0:=@Array.getElem?_eq_getElem
abbrev Xb1:=@PySem.W.looks_findIn
abbrev Xb2:=@Nat.pow_lt_pow_right
abbrev Xb3:=@Nat.pow_le_pow_right
abbrev Xb4:=@Heap.get?_none_of_le
abbrev Xb5:=@wpAny_call
abbrev Xb6:=@wpAny_execs_nil
abbrev Xb7:=@wpAny_loadPart_at
section
variable {R:List Value->Prop}
theorem l0e (h:R []):∀ us,us.length=0->R us:=fun us e=>by
 cases us with
 | nil=>exact h
 | cons=>exact nomatch e
theorem lce {n:Nat}(h:∀ a us,us.length=n->R (a :: us)):∀ us,us.length=n+1->R us:=fun us e=>by
 cases us with
 | nil=>exact nomatch e
 | cons a t=>exact h a t (Nat.succ.inj e)
theorem l1e (h:∀ a,R [a]):∀ us,us.length=1->R us:=lce fun a=>l0e (R:=fun t=>R (a :: t)) (h a)
theorem l2e (h:∀ a b,R [a,b]):∀ us,us.length=2->R us:=lce fun a=>l1e (R:=fun t=>R (a :: t)) (h a)
theorem l3e (h:∀ a b c,R [a,b,c]):∀ us,us.length=3->R us:=lce fun a=>l2e (R:=fun t=>R (a :: t)) (h a)
theorem l4e (h:∀ a b c d,R [a,b,c,d]):∀ us,us.length=4->R us:=lce fun a=>l3e (R:=fun t=>R (a :: t)) (h a)
theorem l6e (h:∀ a b c d e f,R [a,b,c,d,e,f]):∀ us,us.length=6->R us:=lce fun a=>lce fun b=>l4e (R:=fun t=>R (a :: b :: t)) (h a b)
theorem l8e (h:∀ a b c d e f g i,R [a,b,c,d,e,f,g,i]):∀ us,us.length=8->R us:=lce fun a=>lce fun b=>l6e (R:=fun t=>R (a :: b :: t)) (h a b)
theorem m1e (h:∀ a,R [a]):∀ us,us.length+1=2->R us:=fun u e=>l1e h u (Nat.succ.inj e)
theorem m2e (h:∀ a b,R [a,b]):∀ us,us.length+1=3->R us:=fun u e=>l2e h u (Nat.succ.inj e)
theorem m3e (h:∀ a b c,R [a,b,c]):∀ us,us.length+1=4->R us:=fun u e=>l3e h u (Nat.succ.inj e)
end
theorem via {a b:Prop}(f:a->b)(x:a):b:=f x
theorem sl0:0<=sizeLine:=by decide
theorem sl1:1<=sizeLine:=by decide
theorem sl2:2<=sizeLine:=by decide
theorem sl3:3<=sizeLine:=by decide
theorem sl4:4<=sizeLine:=by decide
abbrev Key:=Sum Int Str
noncomputable def Zjd:Key->Value->Bool
 | .inl k,v=>Value.isInt k v
 | .inr x,v=>Value.isStrOf x v
noncomputable def keyH (w:World):Key->Int
 | .inl k=>hashInt k
 | .inr x=>hashStr w x
theorem Zbo:∀ {k:Key}{v:Value},Zjd k v=true->(∃ i t,k=Sum.inl i/\v=Value.int i t)\/(∃ x t,k=Sum.inr x/\v=Value.str x t)
 | .inl i,v,h=>by
  obtain⟨t,e⟩:=Value.isInt_shape (k:=i) (v:=v) h;exact .inl ⟨i,t,rfl,e⟩
 | .inr x,v,h=>by
  obtain⟨t,e⟩:=Value.isStrOf_shape (x:=x) (v:=v) h;exact .inr ⟨x,t,rfl,e⟩
theorem Zm8 (i:Int)(t:Tok):Zjd (.inl i) (.int i t)=true:=by simp[Zjd,Value.isInt]
theorem Znf (x:Str)(t:Tok):Zjd (.inr x) (.str x t)=true:=by simp[Zjd,Value.isStrOf]
theorem Zym (a b:Int):decide ((Sum.inl a:Key)=Sum.inl b)=(a == b):=by
 by_cases e:a=b
 . subst e;simp
 . have h:¬ (Sum.inl a:Key)=Sum.inl b:=fun q=>e (Sum.inl.inj q);rw[Xag h];exact(beq_eq_false_iff_ne.mpr e).symm
theorem Zxl (a b:Str):decide ((Sum.inr a:Key)=Sum.inr b)=decide (a=b):=by
 by_cases e:a=b
 . subst e;simp
 . have h:¬ (Sum.inr a:Key)=Sum.inr b:=fun q=>e (Sum.inr.inj q);rw[Xag h,Xag e]
theorem Zws (a:Int)(b:Str):decide ((Sum.inl a:Key)=Sum.inr b)=false:=Xag (fun q=>nomatch q)
theorem Zyt (a:Str)(b:Int):decide ((Sum.inr a:Key)=Sum.inl b)=false:=Xag (fun q=>nomatch q)
noncomputable def Zbm (prog:Program) (w:World):PySem.KeyKind prog w Key where
 is:=Zjd
 hash:=keyH w
 inj:=fun v a b ha hb=>by
  rcases Zbo ha with⟨i,t,rfl,rfl⟩ | ⟨x,t,rfl,rfl⟩
  . rcases Zbo hb with⟨j,u,rfl,e⟩ | ⟨y,u,rfl,e⟩
    . injection e with e1 _;rw[e1]
    . exact nomatch e
  . rcases Zbo hb with⟨j,u,rfl,e⟩ | ⟨y,u,rfl,e⟩
    . exact nomatch e
    . injection e with e1 _;rw[e1]
 byValue:=fun k v h=>by
  rcases Zbo h with⟨i,t,rfl,rfl⟩ | ⟨x,t,rfl,rfl⟩ <;> rfl
 pyHash:=fun hv h=>by
  rcases Zbo hv with⟨i,t,rfl,rfl⟩ | ⟨x,t,rfl,rfl⟩
  . exact wpAny_pyHash_int h
  . exact wpAny_pyHash_str h
 eqBool:=fun hu hv h=>by
  rcases Zbo hu with⟨i,t,rfl,rfl⟩ | ⟨x,t,rfl,rfl⟩
  . rcases Zbo hv with⟨j,u,rfl,rfl⟩ | ⟨y,u,rfl,rfl⟩
    . rw[Zym] at h;exact wpAny_eqBool_int h
    . rw[Zws] at h;exact SeqAt.EqAt.int_str i t y u _ _ _ _ h
  . rcases Zbo hv with⟨j,u,rfl,rfl⟩ | ⟨y,u,rfl,rfl⟩
    . rw[Zyt] at h;exact SeqAt.EqAt.str_int x t j u _ _ _ _ h
    . rw[Zxl] at h;exact wpAny_eqBool_str h
 «strs»:=fun k x t v h=>by
  rcases Zbo h with⟨i,u,rfl,e⟩ | ⟨y,u,rfl,e⟩
  . exact nomatch e
  . injection e with e1 _
    subst e1;cases v <;> rfl
theorem Zmp (prog:Program)(w:World)(k:Key)(v:Value):(Zbm prog w).is k v=Zjd k v:=rfl
theorem Zji (prog:Program)(w:World)(i:Int)(t:Tok):(Zbm prog w).is (.inl i) (.int i t)=true:=Zm8 i t
theorem Zjh (prog:Program)(w:World)(x:Str)(t:Tok):(Zbm prog w).is (.inr x) (.str x t)=true:=Znf x t
inductive V where
 | non | bl (b:Bool) | int (i:Int) | str (x:Str) | byt (b:Array UInt8) | flt (b:UInt64) | ref (a:Addr) | ty (n:String)
 deriving DecidableEq
def RelV:V->Value->Prop
 | .non,u=>u=Value.none
 | .bl b,u=>u=Value.bool b
 | .int i,u=>∃ t,u=Value.int i t
 | .str x,u=>∃ t,u=Value.str x t
 | .byt b,u=>∃ t,u=Value.bytes b t
 | .flt b,u=>∃ t,u=Value.float b t
 | .ref a,u=>u=Value.ref a
 | .ty n,u=>u=Value.type n
abbrev Vals:List V->List Value->Prop:=Paired RelV
theorem Vals.length {xs:List V}{us:List Value}(r:Vals xs us):xs.length=us.length:=Paired.length r
theorem Vals.get:∀ {xs:List V}{us:List Value}{i:Nat}{x:V},Vals xs us->xs[i]? = some x->∃ u,us[i]? = some u/\RelV x u
 | _,_,_,_,.nil,e=>by simp at e
 | _,_,0,_,.cons r _,e=>by simp at e;subst e;exact⟨_,rfl,r⟩
 | _,_,i+1,x,.cons _ t,e=>by
  obtain⟨u,h1,h2⟩:=Vals.get (i:=i) (x:=x) t (by simpa using e);exact⟨u,by simpa using h1,h2⟩
theorem Vals.set {x:V}{u:Value}(r:RelV x u):∀ {xs:List V}{us:List Value}(i:Nat),Vals xs us->Vals (xs.set i x) (us.set i u)
 | _,_,_,.nil=>.nil
 | _,_,0,.cons _ t=>.cons r t
 | _,_,i+1,.cons q t=>.cons q (Vals.set r i t)
theorem Vals.append:∀ {xs ys:List V}{us ws:List Value},Vals xs us->Vals ys ws->Vals (xs++ys) (us++ws)
 | _,_,_,_,.nil,s=>s
 | _,_,_,_,.cons r t,s=>.cons r (Vals.append t s)
theorem Vals.take:∀ {xs:List V}{us:List Value}(n:Nat),Vals xs us->Vals (xs.take n) (us.take n)
 | _,_,0,_=>.nil
 | _,_,_+1,.nil=>.nil
 | _,_,n+1,.cons r t=>.cons r (Vals.take n t)
theorem Vals.drop:∀ {xs:List V}{us:List Value}(n:Nat),Vals xs us->Vals (xs.drop n) (us.drop n)
 | _,_,0,r=>r
 | _,_,_+1,.nil=>.nil
 | _,_,n+1,.cons _ t=>Vals.drop n t
def RelO:Option V->Option Value->Prop
 | some v,some u=>RelV v u
 | none,none=>True
 | _,_=>False
def KV {κ:Type}:List (κ×V)->List (κ×Value)->Prop:=Paired fun(p:κ×V)(q:κ×Value)=>p.1=q.1/\RelV p.2 q.2
noncomputable def kV:Key->V
 | .inl i=>.int i
 | .inr x=>.str x
inductive HO where
 | lst (xs:List V)
 | tup (xs:List V)
 | dK (kvs:List (Key×V)) | dT (kvs:List (List Key×V))
 | set (S:Int->Bool) (n:Nat)
 | ins (C dx:Addr) (fs:List (Str×V))
 | own (x:Addr)
 | xd (fs:List (Str×V))
 | met (f x:Addr)
 | rng (lo hi:Int)
 | frz (o:Obj) (u:HO)
 | tbl (ps:Array Value)
 | ext (φ:Heap->Prop)
abbrev Hp:=Addr->Option HO
noncomputable def upd (H:Hp) (a:Addr) (o:HO):Hp:=fun b=>if b=a then some o else H b
theorem Zaa {H:Hp}{a:Addr}{o:HO}:upd H a o a=some o:=by unfold upd;rw[if_pos rfl]
theorem Zaf {H:Hp}{a b:Addr}{o:HO}(h:b≠a):upd H a o b=H b:=by unfold upd;rw[if_neg h]
theorem Zu6 {H:Hp}{a:Addr}{o u:HO}:upd (upd H a o) a u=upd H a u:=by
 funext b;unfold upd;split <;> rfl
theorem ne_of {H:Hp}{a b:Addr}{o u:HO}(h:H a=some o)(h':H b=some u)(d:o≠u):a≠b:=by
 intro e;subst e;rw[h] at h';exact d (Option.some.inj h')
theorem Zac {H:Hp}{a b:Addr}{o:HO}(h:H a=some o)(h':H b=none):a≠b:=by
 intro e;subst e;rw[h] at h';cases h'
section
variable (P:Program)(w:World)
def ObjOk (H:Hp)(h:Heap)(a:Addr):HO->Prop
 | .lst xs=>xs.length<=sizeLine/\∃ (its:List Value) (n:Nat),Vals xs its/\h.get? a=some { cls:=.type "list",data:=.seq its.toArray n }
 | .tup xs=>xs.length<=sizeLine/\∃ its:List Value,Vals xs its/\IsTup h a its.toArray
 | .dK kvs=>kvs.length<=sizeLine/\(a == sysModules)=false/\∃ vs,KV kvs vs/\h.DictOf (Zbm P w) a vs
 | .dT kvs=>kvs.length<=sizeLine/\(a == sysModules)=false/\∃ xs:List (List Key×Addr×Value),
  Paired (fun(p:List Key×V) (q:List Key×Addr×Value)=>p.1=q.1/\H q.2.1=some (.tup (p.1.map kV))/\RelV p.2 q.2.2) kvs xs/\
  ∃ o es ep,h.get? a=some o/\o.ExactDict/\o.data = .dict es ep/\es.toList=xs.map (entryOfKey (tupleKind (Zbm P w)))/\(xs.map (·.1)).Nodup
 | .set S n=>h.SetOf (intKind P w) a S n
 | .ins C dx fs=>H dx=some (.own a)/\fs.length<=1000/\dx≠a/\h.get? a=some (PySem.W.instObj C dx)/\
  ∃ mA,h.Ns1 dx mA/\(∀ f,RelO (fs.lookup f) (mA f))/\PySem.Within mA (fs.map (·.1))
 | .own _=>∃ o,h.get? a=some o
 | .xd fs=>∃ mA,h.Ns1 a mA/\∀ f,RelO (fs.lookup f) (mA f)
 | .rng lo hi=>∃ t u v,h.get? a=some { cls:=.type "range",data:=.fields #[.int lo t,.int hi u,.int 1 v] }
 | .frz o u=>h.get? a=some o/\ObjOk H h a u
 | .tbl ps=>h.get? a=some { cls:=.none,data:=.fields ps }
 | .met f x=>h.get? a=some (PySem.W.methodObj (.ref f) (.ref x))
 | .ext φ=>φ h/\(∃ o,h.get? a=some o)/\∀ h1 h2:Heap,φ h1->(∀ o,h1.get? a=some o->h2.get? a=some o)->φ h2
def HOk (H:Hp)(h:Heap):Prop:=∀ a o,H a=some o->ObjOk P w H h a o
end
section
variable {P:Program}{w:World}{H H':Hp}{h h':Heap}{a:Addr}{o:HO}
theorem ObjOk.lt (x:ObjOk P w H h a o):a<h.objs.size:=by
 cases o with
 | lst xs=>obtain⟨_,_,_,_,e⟩:=x;exact Xai e
 | tup xs=>obtain⟨_,_,_,p⟩:=x;exact p.lt
 | dK kvs=>obtain⟨_,_,_,_,o,_,_,e,_⟩:=x;exact Xai e
 | dT kvs=>obtain⟨_,_,_,_,o,_,_,e,_⟩:=x;exact Xai e
 | set S n=>obtain⟨o,_,_,_,e,_⟩:=x;exact Xai e
 | ins C dx fs=>obtain⟨_,_,_,e,_⟩:=x;exact Xai e
 | own y=>obtain⟨_,e⟩:=x;exact Xai e
 | xd fs=>obtain⟨_,⟨_,_,_,e,_⟩,_⟩:=x;exact Xai e
 | rng lo hi=>obtain⟨_,_,_,e⟩:=x;exact Xai e
 | frz ob u=>obtain⟨e,_⟩:=x;exact Xai e
 | tbl ps=>exact Xai (show h.get? a=some _ from x)
 | met f y=>exact Xai (show h.get? a=some _ from x)
 | ext φ=>obtain⟨_,⟨_,e⟩,_⟩:=x;exact Xai e
theorem Paired.mapP {α β:Type}{F G:α->β->Prop}:∀ {l₁:List α}{l₂:List β},Paired F l₁ l₂->(∀ a b,F a b->G a b)->Paired G l₁ l₂
 | _,_,.nil,_=>.nil
 | _,_,.cons r t,f=>.cons (f _ _ r) (Paired.mapP t f)
theorem ObjOk.stay (x:ObjOk P w H h a o)(k:∀ b u,(b=a\/H b=some (.own a))->h.get? b=some u->h'.get? b=some u)
 (ho:∀ b,H b=some (.own a)->H' b=some (.own a))(ht:∀ b xs,H b=some (.tup xs)->H' b=some (.tup xs)):ObjOk P w H' h' a o:=by
 induction o with
 | lst xs=>obtain⟨z,its,n,r,e⟩:=x;exact⟨z,its,n,r,k _ _ (.inl rfl) e⟩
 | tup xs=>obtain⟨z,its,r,ob,e,c⟩:=x;exact⟨z,its,r,ob,k _ _ (.inl rfl) e,c⟩
 | dK kvs=>obtain⟨z,y,vs,r,ob,es,ep,e,c⟩:=x;exact⟨z,y,vs,r,ob,es,ep,k _ _ (.inl rfl) e,c⟩
 | dT kvs=>
  obtain⟨z,y,xs,r,ob,es,ep,e,c⟩:=x;exact⟨z,y,xs,Paired.mapP r fun p q z=>⟨z.1,ht _ _ z.2.1,z.2.2⟩,ob,es,ep,k _ _ (.inl rfl) e,c⟩
 | set S n=>obtain⟨ob,es,ep,t,e,c⟩:=x;exact⟨ob,es,ep,t,k _ _ (.inl rfl) e,c⟩
 | ins C dx fs=>
  obtain⟨d,z,ne,e,mA,⟨od,es,ep,e2,c⟩,r⟩:=x;exact⟨ho _ d,z,ne,k _ _ (.inl rfl) e,mA,⟨od,es,ep,k _ _ (.inr d) e2,c⟩,r⟩
 | own y=>obtain⟨ob,e⟩:=x;exact⟨ob,k _ _ (.inl rfl) e⟩
 | xd fs=>obtain⟨mA,⟨od,es,ep,e,c⟩,r⟩:=x;exact⟨mA,⟨od,es,ep,k _ _ (.inl rfl) e,c⟩,r⟩
 | rng lo hi=>obtain⟨t,u,v,e⟩:=x;exact⟨t,u,v,k _ _ (.inl rfl) e⟩
 | frz ob u ih=>obtain⟨e,q⟩:=x;exact⟨k _ _ (.inl rfl) e,ih q⟩
 | tbl ps=>
  have e:h.get? a=some { cls:=.none,data:=.fields ps }:=x;show h'.get? a=some { cls:=.none,data:=.fields ps };exact k a _ (.inl rfl) e
 | met f y=>
  have e:h.get? a=some (PySem.W.methodObj (.ref f) (.ref y)):=x;show h'.get? a=some (PySem.W.methodObj (.ref f) (.ref y));exact k a _ (.inl rfl) e
 | ext φ=>obtain⟨p,⟨o,e⟩,st⟩:=x;exact⟨st _ _ p fun o q=>k _ _ (.inl rfl) q,⟨o,k _ _ (.inl rfl) e⟩,st⟩
theorem HOk.lt (x:HOk P w H h)(e:H a=some o):a<h.objs.size:=(x a o e).lt
theorem HOk.fresh (x:HOk P w H h)(e:h.objs.size<=a):H a=none:=by
 cases q:H a with
 | none=>rfl
 | some u=>exact absurd (Xao (x.lt q) e) (Xbl _)
theorem HOk.kept (x:HOk P w H h)(k:∀ b u,h.get? b=some u->h'.get? b=some u):HOk P w H h':=fun a o e=>
 (x a o e).stay (fun b u _ q=>k b u q) (fun _ q=>q) fun _ _ q=>q
theorem HOk.laid (x:HOk P w H h)(k:∀ b u,h.get? b=some u->h'.get? b=some u)(hp:h.objs.size<=a)(new:ObjOk P w (upd H a o) h' a o):HOk P w (upd H a o) h':=fun b u e=>by
 have hn:=x.fresh hp;by_cases hb:b=a
 . subst hb;rw[Zaa] at e;cases e;exact new
 . rw[Zaf hb] at e;exact(x b u e).stay (fun c v _ q=>k c v q) (fun c q=>by rw[Zaf (Zac q hn)];exact q) fun c xs q=>by rw[Zaf (Zac q hn)];exact q
end
def Rd (H:Hp)(a:Addr)(u:HO):Prop:=H a=some u\/∃ o,H a=some (.frz o u)
theorem Rd.ok {P:Program}{w:World}{H:Hp}{h:Heap}{a:Addr}{u:HO}(r:Rd H a u)(x:HOk P w H h):ObjOk P w H h a u:=by
 rcases r with r | ⟨o,r⟩
 . exact x a u r
 . obtain⟨_,q⟩:=x a _ r;exact q
def Mut:Option HO->Prop
 | some (.lst _)=>True
 | some (.dK _)=>True
 | some (.dT _)=>True
 | some (.set _ _)=>True
 | some (.ins _ _ _)=>True
 | some (.ext _)=>True
 | _=>False
section
variable {P:Program}{w:World}{H:Hp}{h h':Heap}{x e:Addr}{o':HO}
theorem HOk.write (ok:HOk P w H h)(mu:Mut (H x))(he:e=x\/H e=some (.own x))(k:∀ b u,b≠e->h.get? b=some u->h'.get? b=some u)(heo:∃ u,h'.get? e=some u)
 (new:ObjOk P w (upd H x o') h' x o'):HOk P w (upd H x o') h':=fun b u q=>by
 have nown:∀ c y,H c=some (.own y)->c≠x:=fun c y r z=>by subst z;rw[r] at mu;exact mu
 have ntup:∀ c xs,H c=some (.tup xs)->c≠x:=fun c xs r z=>by subst z;rw[r] at mu;exact mu
 by_cases hb:b=x
 . subst hb;rw[Zaa] at q;cases q;exact new
 . rw[Zaf hb] at q;by_cases hbe:b=e
   . have q':H b=some (.own x):=by
      rcases he with z | z
      . exact absurd (hbe.trans z) hb
      . rw[hbe];exact z
     rw[q] at q';cases q';obtain⟨v,hv⟩:=heo;exact⟨v,by rw[hbe];exact hv⟩
   . refine(ok b u q).stay (fun c v hc r=>k c v ?_ r) (fun c r=>by rw[Zaf (nown c b r)];exact r) fun c xs r=>by rw[Zaf (ntup c xs r)];exact r
     rcases hc with rfl | hc
     . exact hbe
     . rintro rfl;rcases he with z | z
       . exact nown c b hc z
       . rw[hc] at z;cases z;exact hb rfl
end
structure Un (fs ex:List Addr)(H H':Hp)(h h':Heap):Prop where
 keep:∀ b o,h.get? b=some o->H b=none->b∉fs->b∉ex->h'.get? b=some o
 slot:∀ b o,h.get? b=some o->H b=none->b∈fs->b∉ex->∃ sl,h'.get? b=some { o with slots:=sl }
 free:∀ b o,h.get? b=some o->H b=none->b∉ex->H' b=none
 there:∀ b o,h.get? b=some o->b∉ex->∃ o',h'.get? b=some o'
 tups:∀ b xs,H b=some (.tup xs)->H' b=some (.tup xs)
 frzs:∀ b o u,H b=some (.frz o u)->H' b=some (.frz o u)
 tbls:∀ b ps,H b=some (.tbl ps)->∃ more,H' b=some (.tbl (ps++more))
section
variable {fs fs' ex ex':List Addr}{H H1 H2:Hp}{h h1 h2 h':Heap}{a x e:Addr}{o:HO}
theorem Un.any (u:Un fs ex H H1 h h1){b:Addr}{ob:Obj}(q:h.get? b=some ob)(n:H b=none)(hx:b∉ex):∃ sl,h1.get? b=some { ob with slots:=sl }:=by
 by_cases hb:b∈fs
 . exact u.slot b ob q n hb hx
 . exact⟨ob.slots,u.keep b ob q n hb hx⟩
theorem Un.kept (k:∀ b u,h.get? b=some u->h'.get? b=some u):Un fs ex H H h h':=
 ⟨fun b ob q _ _ _=>k b ob q,fun b ob q _ _ _=>⟨ob.slots,k b ob q⟩,fun _ _ _ n _=>n,fun b ob q _=>⟨ob,k b ob q⟩,fun _ _ q=>q,fun _ _ _ q=>q,fun _ ps q=>⟨#[],by rw[q];simp⟩⟩
theorem Un.refl:Un fs ex H H h h:=Un.kept fun _ _ q=>q
theorem Un.laid (k:∀ b u,h.get? b=some u->h'.get? b=some u)(hp:h.objs.size<=a)(hn:H a=none):Un fs ex H (upd H a o) h h' where
 keep:=fun b u q _ _ _=>k b u q
 slot:=fun b u q _ _ _=>⟨u.slots,k b u q⟩
 free:=fun b u q n _=>by rw[Zaf (Xaw (Xao (Xai q) hp))];exact n
 there:=fun b u q _=>⟨u,k b u q⟩
 tups:=fun b xs q=>by rw[Zaf (Zac q hn)];exact q
 frzs:=fun b u xs q=>by rw[Zaf (Zac q hn)];exact q
 tbls:=fun b ps q=>⟨#[],by rw[Zaf (Zac q hn),q];simp⟩
theorem Un.write (mu:Mut (H x))(he:e=x\/H e=some (.own x))(k:∀ b u,b≠e->h.get? b=some u->h'.get? b=some u)(heo:∃ u,h'.get? e=some u):Un fs ex H (upd H x o) h h':=by
 have hx:∀ b,H b=none->b≠x:=fun b n z=>by subst z;rw[n] at mu;exact mu
 have hb:∀ b,H b=none->b≠e:=fun b n z=>by
  subst z;rcases he with r | r
  . exact hx b n r
  . rw[n] at r;cases r
 have hm:∀ b u,H b=some u->¬ Mut (some u)->b≠x:=fun b u q nm z=>by subst z;rw[q] at mu;exact nm mu
 refine⟨fun b u q n _ _=>k b u (hb b n) q,fun b u q n _ _=>⟨u.slots,k b u (hb b n) q⟩,fun b u q n _=>by rw[Zaf (hx b n)];exact n,fun b u q _=>?_,
  fun b xs q=>by rw[Zaf (hm b _ q fun z=>z)];exact q,fun b u xs q=>by rw[Zaf (hm b _ q fun z=>z)];exact q,fun b ps q=>⟨#[],by rw[Zaf (hm b _ q fun z=>z),q];simp⟩⟩
 by_cases hbe:b=e
 . subst hbe;exact heo
 . exact⟨u,k b u hbe q⟩
end
noncomputable def trk (h:Heap) (H:Hp):List Addr:=(List.range h.objs.size).filter fun a=>(H a).isSome
noncomputable def Zo2 (h:Heap) (H:Hp):Heap:=W.hideAll h (trk h H)
theorem Zok (h:Heap)(H:Hp):(Zo2 h H).objs.size=h.objs.size:=W.hideAll_size _ _
theorem Zqc {h:Heap}{H:Hp}{b:Addr}{o:Obj}(e:h.get? b=some o)(n:H b=none):(Zo2 h H).get? b=some o:=
 W.hideAll_get _ e fun hm=>by
  have q:(H b).isSome=true:=(List.mem_filter.mp hm).2;rw[n] at q;simp at q
theorem Zu2 {h:Heap}{H:Hp}{b:Addr}{o:Obj}(e:(Zo2 h H).get? b=some o):h.get? b=some o/\H b=none:=by
 have e':h.get? b=some o:=PySem.W.of_hideAll (trk h H) e;refine⟨e',?_⟩;cases q:H b with
 | none=>rfl
 | some x=>
  have hm:b∈trk h H:=List.mem_filter.mpr ⟨List.mem_range.mpr (Xai e'),by simp[q]⟩;have z:(Zo2 h H).get? b=none:=Xbr (trk h H) hm;rw[z] at e;cases e
noncomputable def Zt9 (g h:Heap) (L:Addr):List (Addr×Obj):=(List.range h.objs.size).filterMap fun a=>if a=L\/(g.get? a).isSome=true then none else(h.get? a).map fun o=>(a,o)
noncomputable def rest (g h:Heap) (L d:Addr):List (Addr×Obj):=(Zt9 g h L).filter fun p=>decide (p.1≠d)
structure Mod (K:W.Frag)(mg:Str->Option Value)(base:Heap):Prop where
 kin:K.In base
 glob:base.Ns mainGlobals mg
 blt:∃ mb,base.Ns builtinsNs mb/\∀ x:Str,x≠"__name__"->mb x=bootBuiltins x
 nolimit:base.NoLimit
structure Cx where
 prog:Program
 w:World
 K:W.Frag
 mg:Str->Option Value
 base:Heap
 A:Around
 N:List Str
 s₀:Shared
 H₀:Hp
 env:Env
 outer:List Env
 stack:List Env
 ex:List Addr
 fn:Str->Bool
 calm:Bool
 pn:List (Addr×Obj)
 xe:Value->Shared->Prop
noncomputable def frs (l:List Env):List Addr:=l.filterMap (·.frame)
noncomputable abbrev Cx.fs (X:Cx):List Addr:=frs X.outer
def Vis (sc:Scope)(x:Str):Prop:=sc.names.lookup x=some .local\/sc.names.lookup x=some .cell\/sc.names.lookup x=some .free
def Loc (sc:Scope)(x:Str):Prop:=sc.names.lookup x=some .local\/sc.names.lookup x=some .cell
def Look (env:Env)(h:Heap)(m:Str->Option Value)(x:Str)(u:Value):Prop:=
 (env.kindOf x=some .local/\m x=some u)\/((env.kindOf x=some .cell\/env.kindOf x=some .free)/\∃ c,env.cells.lookup x=some c/\h.IsCell c (some u))
structure Cx.Ok (X:Cx):Prop where
 mod:Mod X.K X.mg X.base
 kind:X.env.scope.kind = .function
 glob:X.env.globals=mainGlobals
 blt:X.env.builtins=builtinsNs
 above:X.s₀.heap.objs.size<=X.env.locals
 inj:∀ x y c,X.env.cells.lookup x=some c->X.env.cells.lookup y=some c->x=y
 has:∀ x,(X.env.kindOf x=some .cell\/X.env.kindOf x=some .free)->∃ c,X.env.cells.lookup x=some c
 cab:∀ x c,X.fn x=true->X.env.cells.lookup x=some c->X.s₀.heap.objs.size<=c
 hd:X.calm=true->X.A.handled=none
 frames:X.A.frames=some X.stack
 stk:X.stack=X.outer\/(X.stack=X.env :: X.outer/\X.env.frame=some X.env.locals)
 exf:∀ b∈X.ex,b≠X.env.locals/\∀ x c,X.env.cells.lookup x=some c->c≠b
 bs:∀ b o,X.base.get? b=some o->X.s₀.heap.get? b=some o/\X.H₀ b=none
 bsz:X.base.objs.size<=X.s₀.heap.objs.size
 noex:∀ b o,X.base.get? b=some o->b∉X.ex
 exfs:∀ b∈X.ex,b∉X.fs
 funs:X.s₀.heap.FunFrames X.base X.outer
 frf:∀ b∈X.fs,X.H₀ b=none
structure Inv (X:Cx)(aa:List (Addr×Obj))(σ:List (Option V))(H:Hp)(s:Shared):Prop where
 ok:X.Ok
 os:s.os=X.s₀.os
 bare:AllBare s.gens
 base:Un X.fs X.ex X.H₀ H X.s₀.heap s.heap
 loc:∃ m,s.heap.Ns X.env.locals m/\∀ (i:Nat) (x:Str) (v:V),X.N[i]? = some x->σ[i]? = some (some v)->Vis X.env.scope x->∃ u,RelV v u/\Look X.env s.heap m x u
 cell:∀ x c,X.env.cells.lookup x=some c->∃ v,s.heap.IsCell c v
 free:H X.env.locals=none
 freeC:∀ x c,X.env.cells.lookup x=some c->H c=none\/(X.fn x=false/\∃ o,H c=some (.frz o (.own 0)))
 pin:∀ p∈X.pn++aa,s.heap.get? p.1=some p.2/\H p.1=none/\p.1≠X.env.locals/\p.1∉X.fs/\∀ v,p.2.data≠.cell v
 hok:HOk X.prog X.w H s.heap
 len:σ.length=X.N.length
section
variable {X:Cx}{aa:List (Addr×Obj)}{σ:List (Option V)}{H H':Hp}{s:Shared}{h':Heap}
theorem Cx.Ok.nofr (ok:X.Ok){b:Addr}{o:Obj}(e:X.base.get? b=some o):b∉X.fs:=fun hb=>by
 have:=(ok.funs.mem hb).1;rw[e] at this;cases this
theorem Inv.bs (I:Inv X aa σ H s):∀ b o,X.base.get? b=some o->s.heap.get? b=some o/\H b=none:=fun b o e=>
 ⟨I.base.keep b o (I.ok.bs b o e).1 (I.ok.bs b o e).2 (I.ok.nofr e) (I.ok.noex b o e),I.base.free b o (I.ok.bs b o e).1 (I.ok.bs b o e).2 (I.ok.noex b o e)⟩
theorem Inv.bk (I:Inv X aa σ H s):∀ b o,X.base.get? b=some o->s.heap.get? b=some o:=fun b o e=>(I.bs b o e).1
theorem Inv.mod (I:Inv X aa σ H s):Mod X.K X.mg X.base:=I.ok.mod
theorem Inv.kIn (I:Inv X aa σ H s):X.K.In s.heap:=I.ok.mod.kin.keeps I.bk
theorem Inv.lt (I:Inv X aa σ H s):X.env.locals<s.heap.objs.size:=let ⟨_,hn,_⟩:=I.loc;hn.lt
theorem Inv.sz (I:Inv X aa σ H s):X.s₀.heap.objs.size<=s.heap.objs.size:=Xan I.ok.above (Nat.le_of_lt I.lt)
theorem Inv.nofs (I:Inv X aa σ H s){a:Addr}(h:s.heap.objs.size<=a):a∉X.fs:=fun hb=>by
 obtain⟨_,o,ho,_⟩:=I.ok.funs.mem hb;exact absurd (Xao (Xai ho) (Xan I.sz h)) (Xbl _)
theorem Inv.cne (I:Inv X aa σ H s):∀ x c,X.env.cells.lookup x=some c->c≠X.env.locals:=fun x c e z=>by
 obtain⟨v,o,ho,hd⟩:=I.cell x c e;obtain⟨m,⟨o',es,ep,ho',hd',_⟩,_⟩:=I.loc;rw[z,ho'] at ho;cases ho;rw[hd'] at hd;cases hd
theorem Inv.funs (I:Inv X aa σ H s):s.heap.FunFrames X.base X.outer:=by
 have all:∀ (l:List Env),(∀ b∈frs l,b∈X.fs)->X.s₀.heap.FunFrames X.base l->s.heap.FunFrames X.base l:=by
  intro l
  induction l with
  | nil=>intro _ _;trivial
  | cons env r ih=>
   intro hs hl;obtain⟨hk,⟨L,o,hf,hn,ho,hd⟩,hr⟩:=hl;have hL:L∈X.fs:=hs L (by unfold frs;rw[List.filterMap_cons,hf];exact Xaz);obtain⟨sl,e⟩:=I.base.slot L o ho (I.ok.frf L hL) hL fun z=>I.ok.exfs L z hL;exact⟨hk,⟨L,_,hf,hn,e,hd⟩,ih (fun b hb=>hs b (by unfold frs;rw[List.filterMap_cons,hf];exact Xal _ hb)) hr⟩
 exact all X.outer (fun _ hb=>hb) I.ok.funs
theorem Inv.stack (I:Inv X aa σ H s):s.heap.FunFrames X.base X.stack:=by
 rcases I.ok.stk with e | ⟨e,hf⟩
 . rw[e];exact I.funs
 . rw[e];obtain⟨m,hn,_⟩:=I.loc;refine .cons (by rw[I.ok.kind];decide) hf hn ?_ I.funs;exact Xb4 (Xan I.ok.bsz I.ok.above)
theorem Inv.stkSub (I:Inv X aa σ H s):∀ b∈frs X.stack,b∈X.env.locals :: X.fs:=fun b hb=>by
 rcases I.ok.stk with e | ⟨e,hf⟩
 . rw[e] at hb;exact Xal _ hb
 . rw[e] at hb;unfold frs at hb;rw[List.filterMap_cons,hf] at hb;exact hb
theorem Inv.stkFree (I:Inv X aa σ H s):∀ b∈frs X.stack,H b=none:=fun b hb=>by
 rcases List.mem_cons.mp (I.stkSub b hb) with e | hb
 . rw[e];exact I.free
 . obtain⟨_,o,ho,_⟩:=I.ok.funs.mem hb;exact I.base.free b o ho (I.ok.frf b hb) fun z=>I.ok.exfs b z hb
theorem Inv.step {g':Array GenState}{t':Nat}{d':Drawn}{ch:List Addr}(I:Inv X aa σ H s)
 (hch:∀ b∈ch,(b∈X.ex\/X.s₀.heap.objs.size<=b)/\b≠X.env.locals/\(∀ x c,X.env.cells.lookup x=some c->c≠b)/\∀ p∈X.pn++aa,p.1≠b)
 (keep:∀ b o,b≠X.env.locals->b∉X.fs->b∉ch->s.heap.get? b=some o->H b=none->h'.get? b=some o)
 (slot:∀ b o,b≠X.env.locals->b∈X.fs->b∉ch->s.heap.get? b=some o->H b=none->∃ sl,h'.get? b=some { o with slots:=sl })(free:∀ b o,b∉ch->s.heap.get? b=some o->H b=none->H' b=none)
 (there:∀ b o,b∉ch->s.heap.get? b=some o->∃ o',h'.get? b=some o')
 (tups:∀ b xs,H b=some (.tup xs)->H' b=some (.tup xs))(frzs:∀ b o u,H b=some (.frz o u)->H' b=some (.frz o u))(tbls:∀ b ps,H b=some (.tbl ps)->∃ more,H' b=some (.tbl (ps++more)))
 (ns:∀ m,s.heap.Ns X.env.locals m->h'.Ns X.env.locals m)(hok:HOk X.prog X.w H' h')(hg:AllBare g') :
 Inv X aa σ H' { s with heap:=h',gens:=g',drawn:=d',toks:=t' }:=by
 have neL:∀ b o,X.s₀.heap.get? b=some o->b≠X.env.locals:=fun b o e=>Xaw (Xao (Xai e) I.ok.above);have neC:∀ b o,X.s₀.heap.get? b=some o->b∉X.ex->b∉ch:=fun b o e hx hb=>by
  rcases(hch b hb).1 with z | z
  . exact hx z
  . exact absurd (Xao (Xai e) z) (Xbl _)
 have cellK:∀ x c,X.env.cells.lookup x=some c->∀ v,s.heap.IsCell c v->h'.IsCell c v:=fun x c e v ⟨o,ho,hd⟩=>by
  have nch:c∉ch:=fun z=>(hch c z).2.2.1 x c e rfl;rcases I.freeC x c e with fc | ⟨_,of,hf⟩
  . by_cases hc:c∈X.fs
    . obtain⟨sl,q⟩:=slot c o (I.cne x c e) hc nch ho fc;exact⟨_,q,hd⟩
    . exact⟨o,keep c o (I.cne x c e) hc nch ho fc,hd⟩
  . obtain⟨e1,_⟩:=I.hok c _ hf;obtain⟨e2,_⟩:=hok c _ (frzs c _ _ hf);rw[ho] at e1;cases e1;exact⟨o,e2,hd⟩
 refine⟨I.ok,I.os,hg,⟨fun b o e n hb hx=>?_,fun b o e n hb hx=>?_,fun b o e n hx=>?_,fun b o e hx=>?_,fun b xs e=>tups b xs (I.base.tups b xs e),fun b o xs e=>frzs b o xs (I.base.frzs b o xs e),fun b ps e=>?_⟩,?_,fun x c e=>?_,?_,fun x c e=>?_,fun p hp=>?_,hok,I.len⟩
 . exact keep b o (neL b o e) hb (neC b o e hx) (I.base.keep b o e n hb hx) (I.base.free b o e n hx)
 . obtain⟨sl,e1⟩:=I.base.slot b o e n hb hx;obtain⟨sl',e2⟩:=slot b _ (neL b o e) hb (neC b o e hx) e1 (I.base.free b o e n hx);exact⟨sl',e2⟩
 . obtain⟨o',e1⟩:=I.base.there b o e hx;exact free b o' (neC b o e hx) e1 (I.base.free b o e n hx)
 . obtain⟨o',e1⟩:=I.base.there b o e hx;exact there b o' (neC b o e hx) e1
 . obtain⟨m1,e1⟩:=I.base.tbls b ps e;obtain⟨m2,e2⟩:=tbls b _ e1;exact⟨m1++m2,by rw[e2,Array.append_assoc]⟩
 . obtain⟨m,hn,hl⟩:=I.loc;refine⟨m,ns m hn,fun i x v e1 e2 e3=>?_⟩;obtain⟨u,r,l⟩:=hl i x v e1 e2 e3;refine⟨u,r,?_⟩;rcases l with l | ⟨k,c,e,z⟩
   . exact .inl l
   . exact .inr ⟨k,c,e,cellK x c e _ z⟩
 . obtain⟨v,z⟩:=I.cell x c e;exact⟨v,cellK x c e v z⟩
 . obtain⟨m,⟨o,_,_,ho,_⟩,_⟩:=I.loc;exact free _ o (fun z=>(hch _ z).2.1 rfl) ho I.free
 . obtain⟨v,o,ho,hd⟩:=I.cell x c e;rcases I.freeC x c e with fc | ⟨fn0,of,hf⟩
   . exact .inl (free c o (fun z=>(hch c z).2.2.1 x c e rfl) ho fc)
   . exact .inr ⟨fn0,of,frzs c _ _ hf⟩
 . obtain⟨e,n,ne,nf,d⟩:=I.pin p hp;have nch:p.1∉ch:=fun z=>(hch p.1 z).2.2.2 p hp rfl;exact⟨keep p.1 p.2 ne nf nch e n,free p.1 p.2 nch e n,ne,nf,d⟩
theorem Inv.un {t':Nat}(I:Inv X aa σ H s)(u:Un X.fs [] H H' s.heap h')(hok:HOk X.prog X.w H' h'):Inv X aa σ H' { s with heap:=h',toks:=t' }:=by
 obtain⟨m,⟨o,es,ep,ho,r⟩,_⟩:=id I.loc;obtain⟨sl,hL⟩:=u.any ho I.free (by simp);exact I.step (g':=s.gens) (d':=s.drawn) (ch:=[]) (fun _ z=>nomatch z) (fun b o _ hb _ e n=>u.keep b o e n hb (by simp)) (fun b o _ hb _ e n=>u.slot b o e n hb (by simp)) (fun b o _ e n=>u.free b o e n (by simp)) (fun b o _ e=>u.there b o e (by simp)) u.tups u.frzs u.tbls (fun m' hm=>by
  obtain⟨o',es',ep',ho',r'⟩:=hm;rw[ho] at ho';cases ho';exact⟨_,es',ep',hL,r'⟩) hok I.bare
theorem Inv.call {g':Array GenState}{t':Nat}{d':Drawn}{ch:List Addr}(I:Inv X aa σ H s)(u:Un (frs X.stack) ch H H' s.heap h')(hok:HOk X.prog X.w H' h')(hg:AllBare g')
 (hch:∀ b∈ch,(b∈X.ex\/X.s₀.heap.objs.size<=b)/\b≠X.env.locals/\(∀ x c,X.env.cells.lookup x=some c->c≠b)/\∀ p∈X.pn++aa,p.1≠b) :
 Inv X aa σ H' { s with heap:=h',gens:=g',drawn:=d',toks:=t' }:=by
 obtain⟨m,⟨o,es,ep,ho,r⟩,_⟩:=id I.loc;obtain⟨sl,hL⟩:=u.any ho I.free fun z=>(hch _ z).2.1 rfl;exact I.step (ch:=ch) hch (fun b o hL hb hc e n=>u.keep b o e n (fun z=>(List.mem_cons.mp (I.stkSub b z)).elim hL hb) hc) (fun b o _ _ hc e n=>u.any e n hc) (fun b o hc e n=>u.free b o e n hc) (fun b o hc e=>u.there b o e hc) u.tups u.frzs u.tbls (fun m' hm=>by
  obtain⟨o',es',ep',ho',r'⟩:=hm;rw[ho] at ho';cases ho';exact⟨_,es',ep',hL,r'⟩) hok hg
theorem Inv.turned {t':Nat}{it:Addr}(I:Inv X aa σ H s)(k:∀ b o,b≠it->s.heap.get? b=some o->h'.get? b=some o)(hn:H it=none)(hL:it≠X.env.locals)
 (h1:it∈X.ex\/X.s₀.heap.objs.size<=it)(h2:∀ x c,X.env.cells.lookup x=some c->c≠it)(h3:∀ p∈X.pn++aa,p.1≠it):Inv X aa σ H { s with heap:=h',toks:=t' }:=by
 have nit:∀ b u,H b=some u->b≠it:=fun b u e z=>by rw[z,hn] at e;cases e
 refine I.step (g':=s.gens) (d':=s.drawn) (ch:=[it]) (fun b hb=>?_) (fun b o _ _ hc e _=>k b o (fun z=>hc (by simp[z])) e) (fun b o _ _ hc e _=>⟨o.slots,k b o (fun z=>hc (by simp[z])) e⟩) (fun _ _ _ _ n=>n)
  (fun b o hc e=>⟨o,k b o (fun z=>hc (by simp[z])) e⟩) (fun _ _ e=>e) (fun _ _ _ e=>e) (fun b ps e=>⟨#[],by rw[e];simp⟩) (fun m hm=>?_) (fun b u e=>?_) I.bare
 . have e:b=it:=by simpa using hb
   subst e;exact⟨h1,hL,h2,h3⟩
 . obtain⟨o,es,ep,ho,r⟩:=hm;exact⟨o,es,ep,k _ o (Ne.symm hL) ho,r⟩
 . refine(I.hok b u e).stay (fun c v hc q=>k c v ?_ q) (fun _ q=>q) fun _ _ q=>q;rcases hc with z | z
   . rw[z];exact nit b u e
   . exact nit c _ z
theorem Inv.tok (I:Inv X aa σ H s)(t:Nat):Inv X aa σ H { s with toks:=t }:=I.un (h':=s.heap) (t':=t) Un.refl I.hok
theorem Inv.kept {t':Nat}(I:Inv X aa σ H s)(k:∀ b u,s.heap.get? b=some u->h'.get? b=some u):Inv X aa σ H { s with heap:=h',toks:=t' }:=I.un (Un.kept k) (I.hok.kept k)
theorem Inv.laid {a:Addr}{o:HO}{t':Nat}(I:Inv X aa σ H s)(k:∀ b u,s.heap.get? b=some u->h'.get? b=some u)(hp:s.heap.objs.size<=a)(new:ObjOk X.prog X.w (upd H a o) h' a o) :
 Inv X aa σ (upd H a o) { s with heap:=h',toks:=t' }:=I.un (Un.laid k hp (I.hok.fresh hp)) (I.hok.laid k hp new)
theorem Inv.write {x e:Addr}{o:HO}{t':Nat}(I:Inv X aa σ H s)(mu:Mut (H x))(he:e=x\/H e=some (.own x))(k:∀ b u,b≠e->s.heap.get? b=some u->h'.get? b=some u)(heo:∃ u,h'.get? e=some u)
 (new:ObjOk X.prog X.w (upd H x o) h' x o):Inv X aa σ (upd H x o) { s with heap:=h',toks:=t' }:=I.un (Un.write mu he k heo) (I.hok.write mu he k heo new)
theorem Inv.pins_of {pins':List (Addr×Obj)}(I:Inv X aa σ H s)(h:∀ p∈pins',s.heap.get? p.1=some p.2/\H p.1=none/\p.1≠X.env.locals/\p.1∉X.fs/\∀ v,p.2.data≠.cell v):Inv X pins' σ H s:=
 ⟨I.ok,I.os,I.bare,I.base,I.loc,I.cell,I.free,I.freeC,fun p hp=>(List.mem_append.mp hp).elim (fun z=>I.pin p (List.mem_append_left _ z)) (h p),I.hok,I.len⟩
theorem Zhe {N:List Str}(hN:N.Nodup){i j:Nat}{x:Str}(a:N[i]? = some x)(b:N[j]? = some x):i=j:=by
 obtain⟨h1,e1⟩:=List.getElem?_eq_some_iff.mp a;obtain⟨h2,e2⟩:=List.getElem?_eq_some_iff.mp b;exact(List.getElem_inj hN).mp (e1.trans e2.symm)
theorem Zh4 {M:Model}{A:Around}{E:Value->Shared->Prop}{i:Nat}{x:Str}{v:V}{u:Value}{Q:Unit->Shared->Prop}(I:Inv X aa σ H s)(hN:X.N.Nodup)(hi:X.N[i]? = some x)(hx:Loc X.env.scope x)(r:RelV v u)
 (h:∀ s',Inv X aa (σ.set i (some v)) H s'->(∃ a,Heap.SameBut a s.heap s'.heap/\(a=X.env.locals\/X.env.cells.lookup x=some a))->Q () s')(hf:X.fn x=true\/X.env.scope.names.lookup x=some .local:=by first | exact .inl rfl | exact .inr rfl | assumption):wpAny M A (storeName X.env x u) Q E s:=by
 obtain⟨m,hn,hl⟩:=id I.loc;have hcls:(X.env.scope.kind == .class || (X.env.scope.kind == .module && X.env.locals != X.env.globals))=false:=by rw[I.ok.kind];rfl
 have hiσ:i<σ.length:=by rw[I.len];exact(List.getElem?_eq_some_iff.mp hi).1
 have cne:=I.cne;have tracked:∀ {a:Addr}{h':Heap},(∃ o,s.heap.get? a=some o/\H a=none)->Heap.SameBut a s.heap h'->HOk X.prog X.w H h':=fun {a h'} ha hs b ob e=>by
  obtain⟨_,_,hfree⟩:=ha;refine(I.hok b ob e).stay (fun c w' hc q=>(hs.2 c ?_).trans q) (fun _ q=>q) fun _ _ q=>q;rintro rfl;rcases hc with rfl | hc
  . rw[hfree] at e;cases e
  . rw[hfree] at hc;cases hc
 rcases hx with hk | hk
 . refine wpAny_storeName_local hk hn (fun h' hn' hs=>?_) hcls;obtain⟨oL,_,_,hoL,_⟩:=id hn;refine h _ ⟨I.ok,I.os,I.bare,⟨fun b o e n hb hx=>?_,fun b o e n hb hx=>?_,I.base.free,fun b o e hx=>?_,I.base.tups,I.base.frzs,I.base.tbls⟩,⟨_,hn',fun j y v' e1 e2 e3=>?_⟩,fun y c e=>?_,I.free,I.freeC,fun p hp=>?_,tracked ⟨oL,hoL,I.free⟩ hs,by simpa using I.len⟩ ⟨_,hs,.inl rfl⟩
   . exact(hs.2 b (Xaw (Xao (Xai e) I.ok.above))).trans (I.base.keep b o e n hb hx)
   . obtain⟨sl,e1⟩:=I.base.slot b o e n hb hx;exact⟨sl,(hs.2 b (Xaw (Xao (Xai e) I.ok.above))).trans e1⟩
   . obtain⟨o',e1⟩:=I.base.there b o e hx;exact⟨o',(hs.2 b (Xaw (Xao (Xai e) I.ok.above))).trans e1⟩
   . by_cases hj:j=i
     . subst hj;rw[hi] at e1;cases e1;rw[List.getElem?_set_self hiσ] at e2;cases e2
       exact⟨u,r,.inl ⟨hk,by simp⟩⟩
     . rw[List.getElem?_set_ne (Ne.symm hj)] at e2;obtain⟨u',r',q⟩:=hl j y v' e1 e2 e3;refine⟨u',r',?_⟩;rcases q with⟨k,e⟩ | ⟨k,c,e,z⟩
       . refine .inl ⟨k,?_⟩;have:y≠x:=fun e=>hj (Zhe hN e1 (e ▸ hi));simp[this,e]
       . exact .inr ⟨k,c,e,z.sameBut hs (cne y c e)⟩
   . obtain⟨w',z⟩:=I.cell y c e;exact⟨w',z.sameBut hs (cne y c e)⟩
   . obtain⟨e,n,ne,nf,d⟩:=I.pin p hp;exact⟨(hs.2 p.1 ne).trans e,n,ne,nf,d⟩
 . have hfn:X.fn x=true:=by
    rcases hf with z | z
    . exact z
    . rw[z] at hk;cases hk
   obtain⟨c,hc⟩:=I.ok.has x (.inl hk);obtain⟨w',z⟩:=I.cell x c hc;refine wpAny_storeName_cell I.ok.kind hk hc z (fun h' hc' hs=>?_);obtain⟨oc,hoc,hocd⟩:=id z;refine h { s with heap:=h' } ⟨I.ok,I.os,I.bare,⟨fun b o e n hb hx=>?_,fun b o e n hb hx=>?_,I.base.free,fun b o e hx=>?_,I.base.tups,I.base.frzs,I.base.tbls⟩,⟨m,hn.sameBut hs (Ne.symm (cne x c hc)),fun j y v' e1 e2 e3=>?_⟩,fun y c' e=>?_,I.free,I.freeC,fun p hp=>?_,tracked ⟨oc,hoc,(I.freeC x c hc).resolve_right fun z=>by rw[hfn] at z;cases z.1⟩ hs,by simpa using I.len⟩ ⟨c,hs,.inr hc⟩
   . exact(hs.2 b (Xaw (Xao (Xai e) (I.ok.cab x c hfn hc)))).trans (I.base.keep b o e n hb hx)
   . obtain⟨sl,e1⟩:=I.base.slot b o e n hb hx;exact⟨sl,(hs.2 b (Xaw (Xao (Xai e) (I.ok.cab x c hfn hc)))).trans e1⟩
   . obtain⟨o',e1⟩:=I.base.there b o e hx;exact⟨o',(hs.2 b (Xaw (Xao (Xai e) (I.ok.cab x c hfn hc)))).trans e1⟩
   . by_cases hj:j=i
     . subst hj;rw[hi] at e1;cases e1;rw[List.getElem?_set_self hiσ] at e2;cases e2
       exact⟨u,r,.inr ⟨.inl hk,c,hc,hc'⟩⟩
     . rw[List.getElem?_set_ne (Ne.symm hj)] at e2;obtain⟨u',r',q⟩:=hl j y v' e1 e2 e3;refine⟨u',r',?_⟩;rcases q with q | ⟨k,c',e,z'⟩
       . exact .inl q
       . refine .inr ⟨k,c',e,z'.sameBut hs ?_⟩;rintro rfl;exact hj (Zhe hN e1 (I.ok.inj _ _ _ e hc ▸ hi))
   . by_cases hcc:c'=c
     . subst hcc;exact⟨_,hc'⟩
     . obtain⟨w2,z2⟩:=I.cell y c' e;exact⟨w2,z2.sameBut hs hcc⟩
   . obtain⟨e,n,ne,nf,d⟩:=I.pin p hp;refine⟨(hs.2 p.1 ?_).trans e,n,ne,nf,d⟩;intro q;rw[q,hoc] at e;have q':oc=p.2:=Option.some.inj e;exact d w' (by rw[<- q'];exact hocd)
theorem Zcy {M:Model}{A:Around}{E:Value->Shared->Prop}{i:Nat}{x:Str}{v:V}{u:Value}{Q:Unit->Shared->Prop}(I:Inv X aa σ H s)(hN:X.N.Nodup)(hi:X.N[i]? = some x)(hx:Loc X.env.scope x)(r:RelV v u)
 (h:∀ s',Inv X aa (σ.set i (some v)) H s'->Q () s')(hf:X.fn x=true\/X.env.scope.names.lookup x=some .local:=by first | exact .inl rfl | exact .inr rfl | assumption):wpAny M A (storeName X.env x u) Q E s:=
 Zh4 I hN hi hx r (fun s' I' _=>h s' I') hf
theorem Inv.call' {s':Shared}{ch:List Addr}(I:Inv X aa σ H s)(ho:s'.os=s.os)(u:Un (frs X.stack) ch H H' s.heap s'.heap)(hok:HOk X.prog X.w H' s'.heap)(hg:AllBare s'.gens)
 (hch:∀ b∈ch,(b∈X.ex\/X.s₀.heap.objs.size<=b)/\b≠X.env.locals/\(∀ x c,X.env.cells.lookup x=some c->c≠b)/\∀ p∈X.pn++aa,p.1≠b):Inv X aa σ H' s':=by
 obtain⟨h',g',d',t',o'⟩:=s';have e:o'=s.os:=ho;subst e;exact I.call (g':=g') (t':=t') (d':=d') u hok hg hch
end
abbrev XK:=Value->Option Addr->Hp->Prop
abbrev St:=List (Option V)
abbrev VK:=V->Hp->Prop
abbrev TE:=St->Hp->VK->Prop
abbrev TT:=St->Hp->(Bool->Hp->Prop)->Prop
abbrev TA:=St->Hp->(List V->Hp->Prop)->Prop
structure Zex where
 nx:St->Hp->Prop
 rt:VK
 bk:St->Hp->Prop:=fun _ _=>False
 ct:St->Hp->Prop:=fun _ _=>False
abbrev TS:=Zex->St->Hp->Prop
def EP (X:Cx)(aa:List (Addr×Obj))(σ:St)(Q:VK)(u:Value)(s':Shared):Prop:=∃ v H',Inv X aa σ H' s'/\RelV v u/\Q v H'
def TP (X:Cx)(aa:List (Addr×Obj))(σ:St)(Q:Bool->Hp->Prop)(b:Bool)(s':Shared):Prop:=∃ H',Inv X aa σ H' s'/\Q b H'
def AP (X:Cx)(aa:List (Addr×Obj))(σ:St)(Q:List V->Hp->Prop)(us:List Value)(s':Shared):Prop:=∃ vs H',Inv X aa σ H' s'/\Vals vs us/\Q vs H'
def SP (X:Cx)(aa:List (Addr×Obj))(D:Zex)(f:Flow)(s':Shared):Prop:=
 match f with
 | .next=>∃ σ' H',Inv X aa σ' H' s'/\D.nx σ' H'
 | .brk=>∃ σ' H',Inv X aa σ' H' s'/\D.bk σ' H'
 | .cont=>∃ σ' H',Inv X aa σ' H' s'/\D.ct σ' H'
 | .ret u=>∃ v σ' H',Inv X aa σ' H' s'/\RelV v u/\D.rt v H'
def PE (X:Cx)(e:Expr)(t:TE):Prop:=
 ∀ (aa:List (Addr×Obj)) (s:Shared) (σ:St) (H:Hp) (Q:VK),Inv X aa σ H s->t σ H Q->wpAny (model X.prog X.w) X.A (eval e X.env) (EP X aa σ Q) X.xe s
def PT (X:Cx)(e:Expr)(t:TT):Prop:=
 ∀ (aa:List (Addr×Obj)) (s:Shared) (σ:St) (H:Hp) (Q:Bool->Hp->Prop),Inv X aa σ H s->t σ H Q->wpAny (model X.prog X.w) X.A (isTrue e X.env (eval e X.env)) (TP X aa σ Q) X.xe s
def PW (X:Cx)(e:Expr)(t:TT):Prop:=
 ∀ (whole:Sem Value) (aa:List (Addr×Obj)) (s:Shared) (σ:St) (H:Hp) (Q:Bool->Hp->Prop),Inv X aa σ H s->t σ H Q->wpAny (model X.prog X.w) X.A (isTrue e X.env whole) (TP X aa σ Q) X.xe s
theorem PW.pt {X:Cx}{e:Expr}{t:TT}(h:PW X e t):PT X e t:=h _
def PA (X:Cx)(es:List Expr)(t:TA):Prop:=
 ∀ (pos:Pos) (aa:List (Addr×Obj)) (s:Shared) (σ:St) (H:Hp) (Q:List V->Hp->Prop),Inv X aa σ H s->t σ H Q->wpAny (model X.prog X.w) X.A (spliced (backTo pos (starEach es X.env))) (AP X aa σ Q) X.xe s
def PS (X:Cx)(st:Stmt)(t:TS):Prop:=
 ∀ (aa:List (Addr×Obj)) (s:Shared) (σ:St) (H:Hp) (D:Zex),Inv X aa σ H s->t D σ H->wpAny (model X.prog X.w) X.A (exec st X.env) (SP X aa D) X.xe s
def PSs (X:Cx)(st:List Stmt)(t:TS):Prop:=
 ∀ (aa:List (Addr×Obj)) (s:Shared) (σ:St) (H:Hp) (D:Zex),Inv X aa σ H s->t D σ H->wpAny (model X.prog X.w) X.A (execs st X.env) (SP X aa D) X.xe s
theorem thn {α:Type}{t:Sem α}{Q Q':α->Shared->Prop}{M:Model}{A:Around}{E:Value->Shared->Prop}{s:Shared}(h:wpAny M A t Q E s)(hQ:∀ a s,Q a s->Q' a s):wpAny M A t Q' E s:=Xaq h hQ fun _ _ x=>x
theorem ex5 {α β:Type}{p q r:α->β->Prop}{c:Prop}(k:∀ a b,p a b->q a b->r a b->c):(∃ a b,p a b/\q a b/\r a b)->c:=fun h=>by
 obtain⟨a,b,x,y,z⟩:=h;exact k a b x y z
section
variable {X:Cx}
def Zyn (i:Nat):TE:=fun σ H Q=>∃ v,σ[i]? = some (some v)/\Q v H
def tC (v:V):TE:=fun _ H Q=>Q v H
theorem Zs0 {i:Nat}{x:Str}{pos:Pos}(hN:X.N[i]? = some x)(hv:Vis X.env.scope x)(hd:(x == ("__debug__" : Str))=false:=by decide)(hcd:(x == ("__classdict__" : Str))=false:=by decide):PE X (.Name x pos) (Zyn i):=by
 intro aa s σ H Q I h;obtain⟨v,e,h⟩:=h;obtain⟨m,hn,hl⟩:=I.loc;obtain⟨u,r,l⟩:=hl i x v hN e hv;have fin:EP X aa σ Q u s:=⟨v,H,I,r,h⟩
 rcases l with⟨hk,hm⟩ | ⟨hk,c,hc,hcell⟩
 . exact wpAny_Name (wpAny_loadName_local I.ok.kind hk hn hm fin) hd
 . rcases hk with hk | hk
   . exact wpAny_Name (wpAny_loadName_cell I.ok.kind hk hc hcell fin) hd
   . exact wpAny_Name (wpAny_loadName_free I.ok.kind hk hc hcell fin hcd) hd
theorem Zae {i j pos}:PE X (.Constant (.int i) j pos) (tC (.int i)):=fun _ _ _ H _ I h=>wpAny_Constant_int ⟨.int i,H,I.tok _,⟨_,rfl⟩,h⟩
theorem Zi7 {b j pos}:PE X (.Constant (.bool b) j pos) (tC (.bl b)):=fun _ _ _ H _ I h=>Constant_bool ⟨.bl b,H,I,rfl,h⟩
theorem Zdl {j pos}:PE X (.Constant .none j pos) (tC .non):=fun _ _ _ H _ I h=>Constant_none ⟨.non,H,I,rfl,h⟩
theorem Zav {x j pos}:PE X (.Constant (.str x) j pos) (tC (.str x)):=fun _ _ _ H _ I h=>Calls.Constant_str ⟨.str x,H,I.tok _,⟨_,rfl⟩,h⟩
def Gl (X:Cx)(x:Str):Prop:=X.env.kindOf x=some .globalImplicit
theorem Zcp {E:Value->Shared->Prop}{aa:List (Addr×Obj)}{s:Shared}{σ:St}{H:Hp}{x:Str}{u:Value}{pos:Pos}{Q:Value->Shared->Prop}(I:Inv X aa σ H s)(hg:Gl X x)(hm:X.mg x=some u)(h:Q u s)
 (hd:(x == ("__debug__" : Str))=false:=by decide):wpAny (model X.prog X.w) X.A (eval (.Name x pos) X.env) Q E s:=
 Calls.Name_function_global I.ok.kind hg (Calls.loadGlobal_global (by rw[I.ok.glob];exact I.mod.glob.keeps I.bk) hm h) hd
theorem Zii {E:Value->Shared->Prop}{aa:List (Addr×Obj)}{s:Shared}{σ:St}{H:Hp}{x:Str}{u:Value}{pos:Pos}{Q:Value->Shared->Prop}(I:Inv X aa σ H s)(hg:Gl X x)(hm:X.mg x=none)(hv:bootBuiltins x=some u)(h:Q u s)
 (hn:x≠"__name__":=by decide)(hd:(x == ("__debug__" : Str))=false:=by decide):wpAny (model X.prog X.w) X.A (eval (.Name x pos) X.env) Q E s:=by
 obtain⟨mb,h1,h2⟩:=I.mod.blt;exact Calls.Name_function_global I.ok.kind hg (Calls.loadGlobal_builtin (by rw[I.ok.glob];exact I.mod.glob.keeps I.bk) hm (by rw[I.ok.blt];exact h1.keeps I.bk) ((h2 x hn).trans hv) h) hd
theorem Zep {x:Str}{v:V}{u:Value}{pos:Pos}(hg:Gl X x)(hm:X.mg x=some u)(r:RelV v u)(hd:(x == ("__debug__" : Str))=false:=by decide):PE X (.Name x pos) (tC v):=
 fun _ _ _ H _ I h=>Zcp I hg hm ⟨v,H,I,r,h⟩ hd
theorem Zt3 {x:Str}{v:V}{u:Value}{pos:Pos}(hg:Gl X x)(hm:X.mg x=none)(hv:bootBuiltins x=some u)(r:RelV v u)(hn:x≠"__name__":=by decide)(hd:(x == ("__debug__" : Str))=false:=by decide):PE X (.Name x pos) (tC v):=
 fun _ _ _ H _ I h=>Zii I hg hm hv ⟨v,H,I,r,h⟩ hn hd
variable {a b:Expr}{ta tb:TE}{pos:Pos}
def PC (X:Cx)(op:CmpOp)(a b:Expr)(t:TE):Prop:=
 ∀ (aa:List (Addr×Obj)) (s:Shared) (σ:St) (H:Hp) (Q:VK),Inv X aa σ H s->t σ H Q->
  wpAny (model X.prog X.w) X.A (eval a X.env) (fun v s₁=>wpAny (model X.prog X.w) X.A (eval b X.env) (fun u s₂=>wpAny (model X.prog X.w) X.A (compareOp op v u) (EP X aa σ Q) X.xe s₂) X.xe s₁) X.xe s
def tB (t:TE):TT:=fun σ H Q=>t σ H fun x H1=>∃ c,x = .bl c/\Q c H1
theorem Znx {op:CmpOp}{t:TE}(h:PC X op a b t)(h1:behindInMarks op b=false:=by first | exact nobehind _ (by decide) (by decide) | rfl):PT X (.Compare a [op] [b] pos) (tB t):=by
 intro aa s σ H Q I hw;refine wpAny_isTrue_Compare1 (thn (h aa s σ H _ I hw) fun v s1 h1=>thn h1 fun u s2 h2=>thn h2 fun c s3=>ex5 fun x H1 I1 r1 q1=>?_) h1;obtain⟨d,rfl,q⟩:=q1;cases r1
 exact Xbn ⟨H1,I1,q⟩
theorem Zcg {e:Expr}{t:TE}(h:PE X e t)(he:∀ whole,isTrue e X.env whole=(do let v <- whole;standAt e.pos;holding [v] (truthy v)):=by intro _;rfl):PT X e (tB t):=by
 intro aa s σ H Q I hw;refine isTrue_plain (thn (h aa s σ H _ I hw) fun v s1=>ex5 fun x H1 I1 r1 q1=>?_) (he _);obtain⟨d,rfl,q⟩:=q1;cases r1
 exact Xbn ⟨H1,I1,q⟩
variable {tA tB':TT}{rest:List Expr}
def tAnd (t u:TT):TT:=fun σ H Q=>t σ H fun c H1=>if c=true then u σ H1 Q else Q false H1
def tOr (t u:TT):TT:=fun σ H Q=>t σ H fun c H1=>if c=true then Q true H1 else u σ H1 Q
def tNot (t:TT):TT:=fun σ H Q=>t σ H fun c H1=>Q (!c) H1
theorem Zfy (ha:PT X a tA):PW X (.BoolOp .And [a] pos) tA:=by
 intro wh aa s σ H Q I h;refine isTrue_and (thn (ha aa s σ H Q I h) fun c s1 e=>?_);cases c with
 | true=>exact isTrue_and_nil e
 | false=>exact e
theorem Zdq (ha:PT X a tA):PW X (.BoolOp .Or [a] pos) tA:=by
 intro wh aa s σ H Q I h;refine isTrue_or (thn (ha aa s σ H Q I h) fun c s1 e=>?_);cases c with
 | false=>exact isTrue_or_nil e
 | true=>exact e
theorem Zin (ha:PT X a tA)(hb:PW X (.BoolOp .And (b :: rest) pos) tB'):PW X (.BoolOp .And (a :: b :: rest) pos) (tAnd tA tB'):=by
 intro wh aa s σ H Q I h;refine isTrue_and (thn (ha aa s σ H _ I h) fun c s1 hz=>?_);obtain⟨H1,I1,q1⟩:=hz;cases c with
 | true=>exact hb wh aa s1 σ H1 Q I1 q1
 | false=>exact⟨H1,I1,q1⟩
theorem Zeq (ha:PT X a tA)(hb:PW X (.BoolOp .Or (b :: rest) pos) tB'):PW X (.BoolOp .Or (a :: b :: rest) pos) (tOr tA tB'):=by
 intro wh aa s σ H Q I h;refine isTrue_or (thn (ha aa s σ H _ I h) fun c s1 hz=>?_);obtain⟨H1,I1,q1⟩:=hz;cases c with
 | true=>exact⟨H1,I1,q1⟩
 | false=>exact hb wh aa s1 σ H1 Q I1 q1
theorem Zcu (ha:PT X a tA):PT X (.UnaryOp .Not a pos) (tNot tA):=by
 intro aa s σ H Q I h;exact isTrue_not (ha aa s σ H (fun c H1=>Q (!c) H1) I h)
def tAndV (ta tb:TE):TE:=fun σ H Q=>ta σ H fun x H1=>∃ c,x = .bl c/\if c=true then tb σ H1 Q else Q (.bl false) H1
def tNotV (ta:TE):TE:=fun σ H Q=>ta σ H fun x H1=>∃ c,x = .bl c/\Q (.bl (!c)) H1
theorem Zk9 {op} {t:TE}(h:PE X a t):PE X (.BoolOp op [a] pos) t:=fun aa s σ H Q I hw=>BoolOp_one (h aa s σ H Q I hw)
theorem Zkr (ha:PE X a ta)(hb:PE X (.BoolOp .And (b :: rest) pos) tb):PE X (.BoolOp .And (a :: b :: rest) pos) (tAndV ta tb):=by
 intro aa s σ H Q I h;refine BoolOp_and (thn (ha aa s σ H _ I h) fun v s1=>ex5 fun x H1 I1 r1 q1=>?_);obtain⟨c,rfl,q1⟩:=q1;cases r1
 refine Xbn ?_;cases c with
 | true=>exact hb aa s1 σ H1 Q I1 q1
 | false=>exact⟨.bl false,H1,I1,rfl,q1⟩
theorem Zw5 (ha:PE X a ta):PE X (.UnaryOp .Not a pos) (tNotV ta):=by
 intro aa s σ H Q I h;refine UnaryOp_ (thn (ha aa s σ H _ I h) fun v s1=>ex5 fun x H1 I1 r1 q1=>?_);obtain⟨c,rfl,q1⟩:=q1;cases r1
 exact not_of (Xbn ⟨.bl (!c),H1,I1,rfl,q1⟩)
def tIf (t:TT)(ta tb:TE):TE:=fun σ H Q=>t σ H fun c H1=>if c=true then ta σ H1 Q else tb σ H1 Q
theorem Zen {c:Expr}(hc:PT X c tA)(ha:PE X a ta)(hb:PE X b tb):PE X (.IfExp c a b pos) (tIf tA ta tb):=by
 intro aa s σ H Q I h;refine wpAny_IfExp (thn (hc aa s σ H _ I h) fun d s1 hz=>?_);obtain⟨H1,I1,q1⟩:=hz;cases d with
 | true=>exact ha aa s1 σ H1 Q I1 q1
 | false=>exact hb aa s1 σ H1 Q I1 q1
end
def SqL (K:W.Frag)(H:Hp)(a:Addr)(xs:List V):Prop:=
 Rd H a (.lst xs)\/
  ∃ (o:Obj) (its:Array Value) (n:Nat),K.lookup a=some o/\o.cls = .type "list"/\o.dict=none/\o.data = .seq its n/\its.size<=sizeLine/\Vals xs its.toList
def SqT (K:W.Frag)(H:Hp)(a:Addr)(xs:List V):Prop:=
 Rd H a (.tup xs)\/
  ∃ (o:Obj) (its:Array Value) (n:Nat),K.lookup a=some o/\o.cls = .type "tuple"/\o.data = .seq its n/\its.size<=sizeLine/\Vals xs its.toList
noncomputable def absV:Value->Option V
 | .none=>some .non
 | .bool b=>some (.bl b)
 | .int i _=>some (.int i)
 | .str x _=>some (.str x)
 | .bytes b _=>some (.byt b)
 | .float b _=>some (.flt b)
 | .ref a=>some (.ref a)
 | .type n=>some (.ty n)
 | _=>none
theorem RelV.abs {x:V}{u:Value}(r:RelV x u):absV u=some x:=by
 cases x with
 | non=>cases r;rfl
 | bl _=>cases r;rfl
 | int _=>obtain⟨t,rfl⟩:=r;rfl
 | str _=>obtain⟨t,rfl⟩:=r;rfl
 | byt _=>obtain⟨t,rfl⟩:=r;rfl
 | flt _=>obtain⟨t,rfl⟩:=r;rfl
 | ref _=>cases r;rfl
 | ty _=>cases r;rfl
theorem RelV.inj {x y:V}{u:Value}(r:RelV x u)(q:RelV y u):x=y:=Option.some.inj (r.abs.symm.trans q.abs)
theorem Vals.inj:∀ {xs ys:List V}{us:List Value},Vals xs us->Vals ys us->xs=ys
 | _,_,_,.nil,.nil=>rfl
 | _,_,_,.cons r t,.cons r' t'=>by rw[r.inj r',Vals.inj t t']
section
variable {X:Cx}{aa:List (Addr×Obj)}{σ:St}{H:Hp}{s:Shared}{a:Addr}{xs ys:List V}
theorem SqL.of {K:W.Frag}(h:H a=some (.lst xs)):SqL K H a xs:=.inl (.inl h)
theorem Inv.list (I:Inv X aa σ H s)(h:SqL X.K H a xs):∃ its:List Value,Vals xs its/\PlainL s.heap a its.toArray/\xs.length<=sizeLine:=by
 rcases h with h | ⟨o,its,n,hk,hc,hd,hs,hz,r⟩
 . obtain⟨z,its,n,r,e⟩:=h.ok I.hok;exact⟨its,r,⟨_,n,e,rfl,rfl,rfl⟩,z⟩
 . refine⟨its.toList,r,⟨o,n,I.kIn a o hk,hc,hd,by simpa using hs⟩,?_⟩;have e:=r.length;simp only[Xbu] at e;omega
theorem Inv.tuple (I:Inv X aa σ H s)(h:SqT X.K H a xs):∃ its:List Value,Vals xs its/\IsTup s.heap a its.toArray/\xs.length<=sizeLine:=by
 rcases h with h | ⟨o,its,n,hk,hc,hs,hz,r⟩
 . obtain⟨z,its,r,p⟩:=h.ok I.hok;exact⟨its,r,p,z⟩
 . refine⟨its.toList,r,⟨o,I.kIn a o hk,hc,n,by simpa using hs⟩,?_⟩;have e:=r.length;simp only[Xbu] at e;omega
theorem Inv.list_inj (I:Inv X aa σ H s)(h:SqL X.K H a xs)(h':SqL X.K H a ys):xs=ys:=by
 obtain⟨its,r,⟨o,n,e,_,_,d⟩,_⟩:=I.list h;obtain⟨its',r',⟨o',n',e',_,_,d'⟩,_⟩:=I.list h';rw[e] at e';cases e';rw[d] at d';injection d' with d1 _
 have:its=its':=by simpa using congrArg Array.toList d1
 subst this;exact r.inj r'
end
noncomputable abbrev Cx.wish (X:Cx) (E:Value->Shared->Prop):Cx:={ X with xe:=E }
noncomputable abbrev Cx.nox (X:Cx):Cx:=X.wish fun _ _=>False
theorem Cx.Ok.wish {X:Cx}(ok:X.Ok)(E:Value->Shared->Prop):(X.wish E).Ok:=
 ⟨ok.mod,ok.kind,ok.glob,ok.blt,ok.above,ok.inj,ok.has,ok.cab,ok.hd,ok.frames,ok.stk,ok.exf,ok.bs,ok.bsz,ok.noex,ok.exfs,ok.funs,ok.frf⟩
theorem Cx.Ok.unwish {X:Cx}{E:Value->Shared->Prop}(ok:(X.wish E).Ok):X.Ok:=
 ⟨ok.mod,ok.kind,ok.glob,ok.blt,ok.above,ok.inj,ok.has,ok.cab,ok.hd,ok.frames,ok.stk,ok.exf,ok.bs,ok.bsz,ok.noex,ok.exfs,ok.funs,ok.frf⟩
section
variable {X:Cx}{aa:List (Addr×Obj)}{σ:St}{H:Hp}{s:Shared}{E:Value->Shared->Prop}
theorem Inv.wish (I:Inv X aa σ H s)(E:Value->Shared->Prop):Inv (X.wish E) aa σ H s:=⟨I.ok.wish E,I.os,I.bare,I.base,I.loc,I.cell,I.free,I.freeC,I.pin,I.hok,I.len⟩
theorem Inv.unwish (I:Inv (X.wish E) aa σ H s):Inv X aa σ H s:=⟨I.ok.unwish,I.os,I.bare,I.base,I.loc,I.cell,I.free,I.freeC,I.pin,I.hok,I.len⟩
theorem SP.unwish {D:Zex}{f:Flow}{s':Shared}(h:SP (X.wish E) aa D f s'):SP X aa D f s':=by
 cases f with
 | next=>obtain⟨σ',H',I,q⟩:=h;exact⟨σ',H',I.unwish,q⟩
 | brk=>obtain⟨σ',H',I,q⟩:=h;exact⟨σ',H',I.unwish,q⟩
 | cont=>obtain⟨σ',H',I,q⟩:=h;exact⟨σ',H',I.unwish,q⟩
 | ret u=>obtain⟨v,σ',H',I,r,q⟩:=h;exact⟨v,σ',H',I.unwish,r,q⟩
theorem PSs.nox {st:List Stmt}{t:TS}(h:PSs X.nox st t):PSs X st t:=fun aa s σ H D I hw=>
 Xaq (h aa s σ H D (I.wish _) hw) (fun _ _ q=>q.unwish) fun _ _ z=>False.elim z
end
section
variable {X:Cx}{st:Stmt}{rest:List Stmt}{t u:TS}{e:Expr}{te:TE}{pos:Pos}
def Zvh:TS:=fun D σ H=>D.nx σ H
def Zx6 (t u:TS):TS:=fun D σ H=>t { D with nx:=u D } σ H
theorem Zal:PSs X [] Zvh:=fun _ _ σ H _ I h=>Xb6 ⟨σ,H,I,h⟩
theorem Zab (h1:PS X st t)(h2:PSs X rest u):PSs X (st :: rest) (Zx6 t u):=by
 intro aa s σ H D I h;refine Xbw (thn (h1 aa s σ H { D with nx:=u D } I h) fun f s1 q=>?_);cases f with
 | next=>
  obtain⟨σ',H',I',q⟩:=q;exact h2 aa s1 σ' H' D I' q
 | ret v=>exact q
 | brk=>exact q
 | cont=>exact q
theorem Zar (h1:PS X st t):PSs X [st] t:=by
 intro aa s σ H D I h;refine Xbw (thn (h1 aa s σ H D I h) fun f s1 q=>?_);cases f with
 | next=>exact Xb6 q
 | ret v=>exact q
 | brk=>exact q
 | cont=>exact q
theorem Inv.quiet {aa:List (Addr×Obj)}{σ:St}{H:Hp}{s:Shared}(I:Inv X aa σ H s):interactive X.env=false:=by simp[interactive,I.ok.kind]
def tDrop (te:TE):TS:=fun D σ H=>te σ H fun _ H1=>D.nx σ H1
theorem Za9 (he:PE X e te)(hs:swapsWith e none pos.line X.env=pure false:=by rfl):PS X (.Expr e pos) (tDrop te):=by
 intro aa s σ H D I h;exact wpAny_Expr_any (thn (he aa s σ H _ I h) fun v s1=>ex5 fun x H1 I1 r1 q1=>⟨σ,H1,I1,q1⟩) I.quiet hs
def Zxc (te:TE):TS:=fun D σ H=>te σ H D.rt
theorem Zwy (he:PE X e te):PS X (.Return (some e) pos) (Zxc te):=by
 intro aa s σ H D I h;exact wpAny_Return_some (thn (he aa s σ H _ I h) fun v s1=>ex5 fun x H1 I1 r1 q1=>⟨x,σ,H1,I1,r1,q1⟩)
theorem psr (he:PE X e te):PSs X [.Return (some e) pos] (Zxc te):=Zar (Zwy he)
def tIfS (c:TT)(t u:TS):TS:=fun D σ H=>c σ H fun b H1=>if b=true then t D σ H1 else u D σ H1
theorem Zat {c:Expr}{a b:List Stmt}{tc:TT}(hc:PT X c tc)(ha:PSs X a t)(hb:PSs X b u):PS X (.If c a b pos) (tIfS tc t u):=by
 intro aa s σ H D I h;refine wpAny_If (thn (hc aa s σ H _ I h) fun d s1 hz=>?_);obtain⟨H1,I1,q1⟩:=hz;cases d with
 | true=>exact ha aa s1 σ H1 D I1 q1
 | false=>exact hb aa s1 σ H1 D I1 q1
def Zxo:TS:=fun _ _ _=>False
theorem Zb3 {sts:List Stmt}:PSs X sts Zxo:=fun _ _ _ _ _ _ h=>h.elim
end
abbrev TG:=V->St->Hp->(St->Hp->Prop)->Prop
abbrev TGs:=List V->St->Hp->(St->Hp->Prop)->Prop
def PG (X:Cx)(target:Expr)(t:TG):Prop:=
 ∀ (aa:List (Addr×Obj)) (s:Shared) (σ:St) (H:Hp) (v:V) (u:Value) (Q:St->Hp->Prop),Inv X aa σ H s->RelV v u->t v σ H Q->
  wpAny (model X.prog X.w) X.A (assign target X.env u) (fun _ s'=>∃ σ' H',Inv X aa σ' H' s'/\Q σ' H') X.xe s
def PGs (X:Cx)(ts:List Expr)(t:TGs):Prop:=
 ∀ (aa:List (Addr×Obj)) (s:Shared) (σ:St) (H:Hp) (vs:List V) (us:List Value) (Q:St->Hp->Prop),Inv X aa σ H s->Vals vs us->t vs σ H Q->
  wpAny (model X.prog X.w) X.A (assignInOrder ((assignEach ts X.env).map (·.2)) us) (fun _ s'=>∃ σ' H',Inv X aa σ' H' s'/\Q σ' H') X.xe s
abbrev TSet:=V->V->V->Hp->(Hp->Prop)->Prop
def PSet (X:Cx)(t:TSet):Prop:=
 ∀ (aa:List (Addr×Obj)) (s:Shared) (σ:St) (H:Hp) (o i v:V) (ov iv u:Value) (Q:Hp->Prop),Inv X aa σ H s->RelV o ov->RelV i iv->RelV v u->t o i v H Q->
  wpAny (model X.prog X.w) X.A (setItem ov iv u) (fun _ s'=>∃ H',Inv X aa σ H' s'/\Q H') X.xe s
section
variable {X:Cx}{pos:Pos}
def Zbk (i:Nat):TG:=fun v σ H Q=>Q (σ.set i (some v)) H
theorem Zd3 {i:Nat}{x:Str}(hN:X.N.Nodup)(hi:X.N[i]? = some x)(hx:Loc X.env.scope x)(hf:X.fn x=true\/X.env.scope.names.lookup x=some .local:=by first | exact .inl rfl | exact .inr rfl | assumption):PG X (.Name x pos) (Zbk i):=by
 intro aa s σ H v u Q I r h;exact wpAny_assign_Name (Zcy I hN hi hx r (fun s' I'=>⟨_,H,I',h⟩) hf)
def gNil:TGs:=fun vs σ H Q=>vs=[]/\Q σ H
def gCons (t:TG)(u:TGs):TGs:=fun vs σ H Q=>∃ v r,vs=v :: r/\t v σ H fun σ' H'=>u r σ' H' Q
theorem Ztt:PGs X [] gNil:=by
 intro aa s σ H vs us Q I r h;obtain⟨e,h⟩:=h;subst e;cases r
 exact assignInOrder_nil ⟨σ,H,I,h⟩
theorem Zle {e:Expr}{es:List Expr}{t:TG}{u:TGs}(h1:PG X e t)(h2:PGs X es u)
 (hs:(assignEach (e :: es) X.env).map (·.2)=assign e X.env :: (assignEach es X.env).map (·.2):=by rfl):PGs X (e :: es) (gCons t u):=by
 intro aa s σ H vs us Q I r h;obtain⟨v,vr,e1,h⟩:=h;subst e1;cases r with
 | cons r rr=>
  rw[hs];refine assignInOrder_cons (thn (h1 aa s σ H _ _ _ I r h) fun _ s1 hz=>?_);obtain⟨σ1,H1,I1,q1⟩:=hz;exact h2 aa s1 σ1 H1 _ _ Q I1 rr q1
def gTup (K:W.Frag)(n:Nat)(t:TGs):TG:=fun v σ H Q=>∃ a xs,v = .ref a/\SqT K H a xs/\xs.length=n/\t xs σ H Q
theorem Zyh {es:List Expr}{k:Nat}{t:TGs}{n:Nat}(hc:X.calm=true)(h:PGs X es t)
 (hn:(assignEach es X.env).length=n:=by rfl)(hst:(assignEach es X.env).findIdx? (·.1)=none:=by rfl):PG X (.Tuple es k pos) (gTup X.K n t):=by
 intro aa s σ H v u Q I r hw;obtain⟨a,xs,e1,hq,hl,hw⟩:=hw;subst e1;cases r
 obtain⟨its,rv,ht,hz⟩:=I.tuple hq;refine assign_Tuple_tuple (I.ok.hd hc) ht (by simp[hn,<- hl,rv.length]) hst fun h' hx=>?_;have I1:Inv X aa σ H { s with heap:=h' }:=I.kept (t':=s.toks) fun b o e=>hx b o (Xaw (Xai e)) e;exact h aa _ σ H xs _ Q I1 (by simpa using rv) hw
def gSub (to ti:TE)(t:TSet):TG:=fun v σ H Q=>to σ H fun o H1=>ti σ H1 fun i H2=>t o i v H2 fun H3=>Q σ H3
theorem Zwg {o i:Expr}{to ti:TE}{t:TSet}(ho:PE X o to)(hi:PE X i ti)(hs:PSet X t)
 (ha:∀ v,assign (.Subscript o i pos) X.env v=(do
  let ov <- holding [v] (eval o X.env)
  let iv <- holding [v,ov] (eval i X.env)
  standAt pos
  holding [v,ov,iv] (setItem ov iv v)
  release [v,ov,iv] []):=by intro _;rfl):PG X (.Subscript o i pos) (gSub to ti t):=by
 intro aa s σ H v u Q I r h;rw[ha];refine Xaa (Xbi (thn (ho aa s σ H _ I h) fun ov s1=>ex5 fun x H1 I1 r1 q1=>?_));refine Xaa (Xbi (thn (hi aa s1 σ H1 _ I1 q1) fun iv s2=>ex5 fun y H2 I2 r2 q2=>?_));refine Xaa (wpAny_standAt (Xaa (Xbi (thn (hs aa s2 σ H2 x y v ov iv u _ I2 r1 r2 r q2) fun _ s3 hz=>?_))));obtain⟨H3,I3,q3⟩:=hz;exact wpAny_release ⟨σ,H3,I3,q3⟩
def tAsg (te:TE)(g:TG):TS:=fun D σ H=>te σ H fun x H1=>g x σ H1 D.nx
theorem Zx7 {tg e:Expr}{te:TE}{g:TG}(he:PE X e te)(hg:PG X tg g)(hs:swapsWithSole [tg] e pos.line X.env=pure false:=by rfl)(hw:swappedStores [tg] e X.env=pure none:=by rfl)
 (h1:(assignEach [tg] X.env).map (·.2)=[assign tg X.env]:=by rfl):PS X (.Assign [tg] e pos) (tAsg te g):=by
 intro aa s σ H D I h;refine wpAny_Assign_stores (thn (he aa s σ H _ I h) fun v s1=>ex5 fun x H1 I1 r1 q1=>?_) hs hw;rw[h1];exact thn (hg aa s1 σ H1 x v _ I1 r1 q1) fun _ s2 q=>q
theorem Zao {i:Nat}{x:Str}{e:Expr}{te:TE}{pos':Pos}(hN:X.N.Nodup)(hi:X.N[i]? = some x)(hx:Loc X.env.scope x)(he:PE X e te)(hs:swapsWith e (some (.Name x pos')) pos.line X.env=pure false:=by rfl)(hf:X.fn x=true\/X.env.scope.names.lookup x=some .local:=by first | exact .inl rfl | exact .inr rfl | assumption) :
 PS X (.Assign [.Name x pos'] e pos) (tAsg te (Zbk i)):=by
 intro aa s σ H D I h;refine wpAny_Assign_Name (thn (he aa s σ H _ I h) fun v s1=>ex5 fun y H1 I1 r1 q1=>?_) hs;exact Zcy I1 hN hi hx r1 (fun s2 I2=>⟨_,H1,I2,q1⟩) hf
end
section
variable {X:Cx}{pos:Pos}
def Zsr (c:TT)(tb:TS):TS:=fun D σ H=>∃ W:Nat->St->Hp->Prop,(∃ m,W m σ H)/\∀ m σ H,W m σ H->
 c σ H fun b H1=>if b=true then ∃ N:St->Hp->Prop,(∀ σ' H',N σ' H'->∃ m',m'<m/\W m' σ' H')/\tb { D with nx:=N,ct:=N,bk:=D.nx } σ H1 else D.nx σ H1
theorem Zg3 {c:Expr}{body:List Stmt}{tc:TT}{tb:TS}(hp:PassesOwn (model X.prog X.w) X.A X.env X.xe)(hc:PT X c tc)(hb:PSs X body tb):PS X (.While c body [] pos) (Zsr tc tb):=by
 intro aa s σ H D I h;obtain⟨W,⟨m0,w0⟩,turn⟩:=h;refine wpAny_While (codeAny_whileLoop (fun n s'=>∃ σ' H',Inv X aa σ' H' s'/\W n σ' H') ?_ m0 ⟨σ,H,I,w0⟩);rintro n s1 ⟨σ1,H1,I1,w1⟩;refine wpAny_passesOwn hp (thn (hc aa s1 σ1 H1 _ I1 (turn n σ1 H1 w1)) fun b s2 hz=>?_);obtain⟨H2,I2,q2⟩:=hz;cases b with
 | true=>
  obtain⟨N,hN,q2⟩:=q2;rw[if_pos rfl];refine wpAny_passesOwn hp (thn (hb aa s2 σ1 H2 _ I2 q2) fun f s3 q3=>?_);cases f with
  | next=>
   obtain⟨σ3,H3,I3,n3⟩:=q3;obtain⟨m',hm,w3⟩:=hN σ3 H3 n3;exact⟨m',hm,σ3,H3,I3,w3⟩
  | cont=>
   obtain⟨σ3,H3,I3,n3⟩:=q3;obtain⟨m',hm,w3⟩:=hN σ3 H3 n3;exact⟨m',hm,σ3,H3,I3,w3⟩
  | brk=>exact q3
  | ret v=>exact q3
 | false=>
  rw[if_neg Xap];exact Xb6 ⟨σ1,H2,I2,q2⟩
end
structure It where
 go:Nat->Hp->Prop
 yld:Nat->Hp->V->Hp->Prop
 stop:Nat->Hp->Prop
def Zo5 (X:Cx)(aa:List (Addr×Obj))(H:Hp)(b:Addr):Prop:=
 H b=none/\b≠X.env.locals/\b∉X.fs/\(b∈X.ex\/X.s₀.heap.objs.size<=b)/\(∀ x c,X.env.cells.lookup x=some c->c≠b)/\∀ p∈X.pn++aa,p.1≠b
theorem Inv.fpOk {X:Cx}{aa:List (Addr×Obj)}{σ:St}{H H':Hp}{s:Shared}{b:Addr}(I:Inv X aa σ H s)(hb:s.heap.objs.size<=b)(hn:H' b=none):Zo5 X aa H' b:=by
 refine⟨hn,Nat.ne_of_gt (Xao I.lt hb),I.nofs hb,.inr (Xan I.sz hb),fun x c e z=>?_,fun p hp z=>?_⟩
 . obtain⟨v,q⟩:=I.cell x c e;exact absurd (Xao q.lt (by rw[z];exact hb)) (Xbl _)
 . exact absurd (Xao (Xai (I.pin p hp).1) (by rw[z];exact hb)) (Xbl _)
structure Zx4 (P:Program)(w:World)(K:W.Frag)(tg:Expr)(J:It)(fp:List Addr)(it:Addr)(tn:Nat->Heap->Prop):Prop where
 mem:it∈fp
 obj:∀ i h,tn i h->∀ b∈fp,∃ o,h.get? b=some o/\∀ v,o.data≠.cell v
 keep:∀ i h h',tn i h->(∀ b∈fp,∀ o,h.get? b=some o->h'.get? b=some o)->tn i h'
 item:∀ (X:Cx),X.prog=P->X.w=w->X.K=K->X.calm=true->∀ (i:Nat) (aa:List (Addr×Obj)) (s:Shared) (σ:St) (H:Hp) (E:Value->Shared->Prop),Inv X aa σ H s->(∀ b∈fp,Zo5 X aa H b)->tn i s.heap->J.go i H->
  wpAny (model P w) X.A (pyNext (.ref it)) (fun r s1=>∃ u,r=some u/\
   wpAny (model P w) X.A (letOwnedTupleGo tg (.ref it) u) (fun _ s2=>∃ x H',Inv X aa σ H' s2/\RelV x u/\J.yld i H x H'/\tn (i+1) s2.heap/\∀ b∈fp,H' b=none) E s1) E s
 done:∀ (X:Cx),X.prog=P->X.w=w->X.K=K->X.calm=true->∀ (i:Nat) (aa:List (Addr×Obj)) (s:Shared) (σ:St) (H:Hp) (E:Value->Shared->Prop),Inv X aa σ H s->(∀ b∈fp,Zo5 X aa H b)->tn i s.heap->J.stop i H->
  wpAny (model P w) X.A (pyNext (.ref it)) (fun r s1=>r=none/\Inv X aa σ H s1) E s
 self:∀ (A:Around) (i:Nat) (s:Shared) (Q:Value->Shared->Prop) (E:Value->Shared->Prop),tn i s.heap->Q (.ref it) s->wpAny (model P w) A (pyIter (.ref it)) Q E s
abbrev TI:=St->Hp->(It->Hp->Prop)->Prop
def PIE (X:Cx)(aa:List (Addr×Obj))(σ:St)(tg:Expr)(R:It->Hp->Prop)(itv:Value)(s2:Shared):Prop:=
 ∃ (it:Addr) (fp:List Addr) (tn:Nat->Heap->Prop) (J:It) (H':Hp),itv = .ref it/\Inv X aa σ H' s2/\Zx4 X.prog X.w X.K tg J fp it tn/\tn 0 s2.heap/\(∀ b∈fp,Zo5 X aa H' b)/\R J H'
def PI (X:Cx)(tg iter:Expr)(wi:TI):Prop:=
 ∀ (aa:List (Addr×Obj)) (s:Shared) (σ:St) (H:Hp) (R:It->Hp->Prop),Inv X aa σ H s->wi σ H R->
  wpAny (model X.prog X.w) X.A (eval iter X.env) (fun v s1=>wpAny (model X.prog X.w) X.A (pyIter v) (PIE X aa σ tg R) X.xe s1) X.xe s
theorem Zvy {M:Model}{A:Around}{E:Value->Shared->Prop}{s:Shared}{tg:Expr}{it:Addr}{u:Value}{o:Obj}{n:String}{vs:Array Value}{Q:Unit->Shared->Prop}(ho:s.heap.get? it=some o)(hc:o.cls = .type n)(hd:o.data = .fields vs)
 (hn:["enumerate","zip","dict_itemiterator","dict_reverseitemiterator","odict_iterator","itertools.zip_longest","itertools.pairwise"].contains n=false)(hQ:Q () s):wpAny M A (letOwnedTupleGo tg (.ref it) u) Q E s:=by
 unfold letOwnedTupleGo;cases tg <;> first
  | exact Xak hQ
  | (cases u <;> first
      | exact Xak hQ
      | (refine Xaa (wpAny_load ho ?_)
         rw[hc,hd];show wpAny M A (if (["enumerate","zip","dict_itemiterator","dict_reverseitemiterator","odict_iterator","itertools.zip_longest","itertools.pairwise"].contains n && vs[0]? == some (rawInt _))=true then _ else _) Q E s;rw[if_neg (by intro h;rw[hn,Bool.false_and] at h;cases h)];exact Xak hQ))
noncomputable def Itl (K:W.Frag) (a:Addr):It:=
 ⟨fun i H=>∃ xs x,SqL K H a xs/\xs[i]? = some x,fun i H x H'=>H'=H/\∀ xs,SqL K H a xs->xs[i]? = some x,fun i H=>∃ xs,SqL K H a xs/\xs.length<=i⟩
noncomputable def Itr (lo:Int) (n:Nat):It:=⟨fun i _=>i<n,fun i H x H'=>H'=H/\x = .int (lo+i),fun i _=>n<=i⟩
theorem Zn7 {P:Program}{w:World}{K:W.Frag}{tg:Expr}(a it:Addr):Zx4 P w K tg (Itl K a) [it] it (fun i h=>h.IsListIter it a i) where
 mem:=by simp
 obj:=fun i h st b hb=>by
  have e:b=it:=by simpa using hb
  subst e;obtain⟨o,e,c,d⟩:=st;exact⟨o,e,fun v z=>by rw[d] at z;cases z⟩
 keep:=fun i h h' st k=>st.at fun o e=>k it (by simp) o e
 item:=by
  intro X hP hw hK hc i aa s σ H E I hf st hg;subst hP hw hK;obtain⟨xs,x,hq,hx⟩:=hg;obtain⟨its,rv,p,hz⟩:=I.list hq;obtain⟨u,hu,ru⟩:=rv.get hx;obtain⟨f0,f1,f2,f3,f4,f5⟩:=hf it (by simp);refine wpAny_pyNext_list_item st p.isList (x:=u) (by simpa using hu) fun h' st' sb=>?_;have I1:Inv X aa σ H { s with heap:=h' }:=I.turned (t':=s.toks) (fun b o hb e=>(sb.2 b hb).trans e) f0 f1 f3 f4 f5;obtain⟨o,e,c,d⟩:=id st';exact⟨u,rfl,Zvy (s:={ s with heap:=h' }) e c d (by decide) ⟨x,H,I1,ru,⟨rfl,fun ys hy=>by rw[I.list_inj hy hq];exact hx⟩,st',fun b hb=>(hf b hb).1⟩⟩
 done:=by
  intro X hP hw hK hc i aa s σ H E I hf st hg;subst hP hw hK;obtain⟨xs,hq,hx⟩:=hg;obtain⟨its,rv,p,hz⟩:=I.list hq;obtain⟨f0,f1,f2,f3,f4,f5⟩:=hf it (by simp);have hl:=rv.length;exact wpAny_pyNext_list_end (I.ok.hd hc) st p.isList (by simp;omega) fun h' eb=>⟨rfl,I.turned (t':=s.toks) (fun b o hb e=>eb b o hb e) f0 f1 f3 f4 f5⟩
 self:=fun _ _ _ _ _ st h=>wpAny_pyIter_listiter st h
theorem Zlz {P:Program}{w:World}{K:W.Frag}{tg:Expr}(it:Addr)(lo:Int)(n:Nat):Zx4 P w K tg (Itr lo n) [it] it (fun i h=>IsRangeIter h it (lo+(i:Nat) * 1) ((n:Int) - (i:Nat)) 1) where
 mem:=by simp
 obj:=fun i h st b hb=>by
  have e:b=it:=by simpa using hb
  subst e;exact⟨_,st,fun v z=>by
   have z':Data.fields _=Data.cell v:=z;cases z'⟩
 keep:=fun i h h' st k=>k it (by simp) _ st
 item:=by
  intro X hP hw hK hc i aa s σ H E I hf st hg;subst hP hw hK;obtain⟨f0,f1,f2,f3,f4,f5⟩:=hf it (by simp);have W:=Walks.range (prog:=X.prog) (w:=X.w) (I.ok.hd hc) it lo 1 n;refine W.item i s _ _ hg st fun v h' tk hv st' kk=>?_;obtain⟨t,rfl⟩:=hv;have I1:Inv X aa σ H { s with heap:=h',toks:=tk }:=I.turned (fun b o hb e=>kk b o (by simpa using hb) e) f0 f1 f3 f4 f5;refine⟨_,rfl,Zvy (s:={ s with heap:=h',toks:=tk }) (n:="range_iterator") st' rfl rfl (by decide) ⟨.int (lo+i),H,I1,⟨t,?_⟩,⟨rfl,rfl⟩,st',fun b hb=>(hf b hb).1⟩⟩;rw[Int.mul_one]
 done:=by
  intro X hP hw hK hc i aa s σ H E I hf st hg;subst hP hw hK;obtain⟨f0,f1,f2,f3,f4,f5⟩:=hf it (by simp);exact wpAny_pyNext_range_end (I.ok.hd hc) st (by have:n<=i:=hg;omega) fun h' eb=>⟨rfl,I.turned (t':=s.toks) (fun b o hb e=>eb b o hb e) f0 f1 f3 f4 f5⟩
 self:=fun _ _ _ _ _ st h=>wpAny_pyIter_rangeiter st h
section
variable {X:Cx}{tg:Expr}
def iList (K:W.Frag)(tl:TE):TI:=fun σ H R=>tl σ H fun x H1=>∃ a,x = .ref a/\(∃ xs,SqL K H1 a xs)/\R (Itl K a) H1
theorem Zcz {l:Expr}{tl:TE}(hl:PE X l tl):PI X tg l (iList X.K tl):=by
 intro aa s σ H R I h;refine thn (hl aa s σ H _ I h) fun v s1=>ex5 fun x H1 I1 r1 q1=>?_;obtain⟨a,e,⟨xs,hq⟩,q⟩:=q1;subst e;cases r1
 obtain⟨its,rv,p,hz⟩:=I1.list hq;refine wpAny_pyIter_list p.isList ?_;refine⟨s1.heap.objs.size,[s1.heap.objs.size],_,_,H1,rfl,I1.kept (t':=s1.toks) fun b o e=>Xac _ e,Zn7 a _,⟨_,Xau _ rfl,rfl,rfl⟩,fun b hb=>?_,q⟩;have e:b=s1.heap.objs.size:=by simpa using hb
 subst e;exact I1.fpOk (Xae _) (I1.hok.fresh (Xae _))
theorem Zsd {aa:List (Addr×Obj)}{σ:St}{H:Hp}{s:Shared}{R:It->Hp->Prop}{E:Value->Shared->Prop}{lo hi:Int}{t u v:Tok}{tk:Nat}(I:Inv X aa σ H s)(h1 : -(2 ^ 62)<=lo)(h2:lo<2 ^ 62)(h3 : -(2 ^ 62)<=hi)(h4:hi<2 ^ 62)
 (q:R (Itr lo (hi - lo).toNat) H):wpAny (model X.prog X.w) X.A (pyIter (.ref s.heap.objs.size)) (PIE X aa σ tg R) E { s with heap:=s.heap.push { cls:=.type "range",data:=.fields #[.int lo t,.int hi u,.int 1 v] },toks:=tk }:=by
 refine wpAny_pyIter_range (IsRange.new ..) (small_one h1 h2 h3 h4) ?_;have I1:Inv X aa σ H { s with heap:=s.heap.push { cls:=.type "range",data:=.fields #[.int lo t,.int hi u,.int 1 v] },toks:=tk }:=I.kept fun b o e=>Xac _ e;refine⟨(s.heap.push { cls:=.type "range",data:=.fields #[.int lo t,.int hi u,.int 1 v] }).objs.size,[(s.heap.push { cls:=.type "range",data:=.fields #[.int lo t,.int hi u,.int 1 v] }).objs.size],_,_,H,rfl,
  I1.kept (t':=tk) fun b o e=>Xac _ e,Zlz _ lo (hi - lo).toNat,?_,fun b hb=>?_,q⟩
 . have e1:lo+((0:Nat):Int) * 1=lo:=by simp
   have e2:(((hi - lo).toNat:Nat):Int) - ((0:Nat):Int)=Builtin.Range.rangeSize lo hi 1:=by rw[rangeSize_one];split <;> omega
   show IsRangeIter _ _ (lo+((0:Nat):Int) * 1) ((((hi - lo).toNat:Nat):Int) - ((0:Nat):Int)) 1;rw[e1,e2];exact Xau _ rfl
 . have e:b=(s.heap.push { cls:=.type "range",data:=.fields #[.int lo t,.int hi u,.int 1 v] }).objs.size:=by simpa using hb
   subst e;exact I1.fpOk (Xae _) (I1.hok.fresh (Xae _))
def iRng1 (ta:TA):TI:=fun σ H R=>ta σ H fun vs H1=>∃ j:Int,vs=[.int j]/\-(2 ^ 62)<=j/\j<2 ^ 62/\R (Itr 0 j.toNat) H1
theorem Zc2 {a:Expr}{ta:TA}{p pos:Pos}(hg:Gl X "range")(hm:X.mg "range" = none)(ha:PA X [a] ta)(hs:starEach [a] X.env=[(false,eval a X.env)]:=by rfl):PI X tg (.Call (.Name "range" p) [a] [] pos) (iRng1 ta):=by
 intro aa s σ H R I h;refine Call_ (Zii I hg hm boot_range (PyProof.Rows.callWith_type1 (thn (ha pos aa s σ H _ I h) fun us s1=>ex5 fun vs H1 I1 r1 q1=>?_) hs rfl));obtain⟨j,e,q1,q2,q⟩:=q1;subst e;cases r1 with
 | cons r rr=>
  cases rr
  obtain⟨t,rfl⟩:=r;exact call_range_1 (Zsd I1 om om q1 q2 (by simpa using q))
def tFor (wi:TI)(g:TG)(tb:TS):TS:=fun D σ H=>wi σ H fun J H1=>∃ W:Nat->Nat->St->Hp->Prop,(∃ m,W 0 m σ H1)/\∀ i m σ H,W i m σ H->
 (J.stop i H/\D.nx σ H)\/(J.go i H/\∃ N:St->Hp->Prop,(∀ σ' H',N σ' H'->∃ m',m'<m/\W (i+1) m' σ' H')/\∀ x H',J.yld i H x H'->g x σ H' fun σ2 H2=>tb { D with nx:=N,ct:=N,bk:=D.nx } σ2 H2)
noncomputable def Zgy (fp:List Addr) (h:Heap):List (Addr×Obj):=fp.filterMap fun b=>(h.get? b).map fun o=>(b,o)
theorem Zc3 {fp:List Addr}{h:Heap}{b:Addr}{o:Obj}(hb:b∈fp)(e:h.get? b=some o):(b,o)∈Zgy fp h:=List.mem_filterMap.mpr ⟨b,hb,by rw[e];rfl⟩
theorem Zoh {fp:List Addr}{h:Heap}{p:Addr×Obj}(hp:p∈Zgy fp h):p.1∈fp/\h.get? p.1=some p.2:=by
 obtain⟨b,hb,e⟩:=List.mem_filterMap.mp hp;cases q:h.get? b with
 | none=>rw[q] at e;cases e
 | some o=>
  rw[q] at e;have e':(b,o)=p:=Option.some.inj e;subst e';exact⟨hb,q⟩
theorem Inv.pinned {aa:List (Addr×Obj)}{σ:St}{H:Hp}{s:Shared}{fp:List Addr}(I:Inv X aa σ H s)(hf:∀ b∈fp,Zo5 X aa H b)(ho:∀ b∈fp,∃ o,s.heap.get? b=some o/\∀ v,o.data≠.cell v):Inv X (aa++Zgy fp s.heap) σ H s:=
 I.pins_of fun p hp=>(List.mem_append.mp hp).elim (fun z=>I.pin p (Xa2 _ z)) fun z=>by
  obtain⟨hb,e⟩:=Zoh z;obtain⟨f0,f1,f2,_⟩:=hf p.1 hb;obtain⟨o,e',d⟩:=ho p.1 hb;rw[e] at e';cases e';exact⟨e,f0,f1,f2,d⟩
theorem Inv.unpinned {aa pl:List (Addr×Obj)}{σ:St}{H:Hp}{s:Shared}(I:Inv X (aa++pl) σ H s):Inv X aa σ H s:=I.pins_of fun p hp=>I.pin p (Xa2 _ (List.mem_append_left _ hp))
theorem Zgs {iter:Expr}{body:List Stmt}{wi:TI}{g:TG}{tb:TS}{pos:Pos}(hp:PassesOwn (model X.prog X.w) X.A X.env X.xe)(hc:X.calm=true)(hi:PI X tg iter wi)(hg:PG X tg g)(hb:PSs X body tb)
 (hs:∀ x,foldedSetIterable iter X.env x=pure x:=by intro _;rfl):PS X (.For tg iter body [] pos) (tFor wi g tb):=by
 intro aa s σ H D I h;refine wpAny_For (thn (hi aa s σ H _ I h) fun v s1 h1=>thn h1 fun itv s2 h2=>?_) hs;obtain⟨it,fp,tn,J,H2,e,I2,T,st2,f2,W,⟨m0,w0⟩,turn⟩:=h2;subst e;have stat:∀ {H':Hp},(∀ b∈fp,H' b=none)->∀ b∈fp,Zo5 X aa H' b:=fun hn b hb=>⟨hn b hb,(f2 b hb).2⟩
 refine codeAny_forLoop_any (fun n s'=>∃ i σ' H',Inv X aa σ' H' s'/\tn i s'.heap/\(∀ b∈fp,H' b=none)/\W i n σ' H') ?_ m0 ⟨0,σ,H2,I2,st2,fun b hb=>(f2 b hb).1,w0⟩;rintro n s3 ⟨i,σ3,H3,I3,st3,fr3,w3⟩;rcases turn i n σ3 H3 w3 with⟨stop,qn⟩ | ⟨go,N,hN,step⟩
 . refine wpAny_passesOwn hp (thn (T.done X rfl rfl rfl hc i aa s3 σ3 H3 X.xe I3 (stat fr3) st3 stop) fun r s4 ⟨hr,I4⟩=>?_);subst hr;exact Xb6 ⟨σ3,H3,I4,qn⟩
 . refine wpAny_passesOwn hp (thn (T.item X rfl rfl rfl hc i aa s3 σ3 H3 X.xe I3 (stat fr3) st3 go) fun r s4 hz=>?_);obtain⟨u,hr,h4⟩:=hz;subst hr;refine wpAny_passesOwn hp (thn h4 fun _ s5 hz=>?_);obtain⟨x,H5,I5,r5,y5,st5,fr5⟩:=hz;have I5':=I5.pinned (stat fr5) (T.obj _ _ st5);refine wpAny_passesOwn hp (thn (hg _ s5 σ3 H5 x u _ I5' r5 (step x H5 y5)) fun _ s6 hz=>?_);obtain⟨σ6,H6,I6,q6⟩:=hz;refine wpAny_passesOwn hp (thn (hb _ s6 σ6 H6 _ I6 q6) fun f s7 q7=>?_);have again:∀ {σ7:St}{H7:Hp},Inv X (aa++Zgy fp s5.heap) σ7 H7 s7->N σ7 H7->∃ m,m<n/\∃ i σ' H',Inv X aa σ' H' s7/\tn i s7.heap/\(∀ b∈fp,H' b=none)/\W i m σ' H':=fun {σ7 H7} I7 n7=>by
    obtain⟨m',hm,w7⟩:=hN σ7 H7 n7;refine⟨m',hm,i+1,σ7,H7,I7.unpinned,T.keep _ _ _ st5 fun b hb o e=>(I7.pin (b,o) (Xa2 _ (Xa2 _ (Zc3 hb e)))).1,fun b hb=>?_,w7⟩;obtain⟨o,e,d⟩:=T.obj _ _ st5 b hb;exact(I7.pin (b,o) (Xa2 _ (Xa2 _ (Zc3 hb e)))).2.1
   cases f with
   | next=>obtain⟨σ7,H7,I7,n7⟩:=q7;exact again I7 n7
   | cont=>obtain⟨σ7,H7,I7,n7⟩:=q7;exact again I7 n7
   | brk=>obtain⟨σ7,H7,I7,q7⟩:=q7;exact⟨σ7,H7,I7.unpinned,q7⟩
   | ret v=>obtain⟨x7,σ7,H7,I7,r7,q7⟩:=q7;exact⟨x7,σ7,H7,I7.unpinned,r7,q7⟩
end
theorem Zre {K:W.Frag}{a:Addr}{xs:List V}{g:TG}{tb:TS}{D:Zex}{σ:St}{H:Hp}(Pv:Nat->St->Hp->Prop)(h0:Pv 0 σ H)(hl:∀ i σ H,i<=xs.length->Pv i σ H->SqL K H a xs)
 (hs:∀ i x σ H,xs[i]? = some x->Pv i σ H->g x σ H fun σ2 H2=>tb { D with nx:=Pv (i+1),ct:=Pv (i+1),bk:=D.nx } σ2 H2)(hd:∀ σ H,Pv xs.length σ H->D.nx σ H) :
 ∃ W:Nat->Nat->St->Hp->Prop,(∃ m,W 0 m σ H)/\∀ i m σ H,W i m σ H->
  ((Itl K a).stop i H/\D.nx σ H)\/((Itl K a).go i H/\∃ N:St->Hp->Prop,(∀ σ' H',N σ' H'->∃ m',m'<m/\W (i+1) m' σ' H')/\∀ x H',(Itl K a).yld i H x H'->g x σ H' fun σ2 H2=>tb { D with nx:=N,ct:=N,bk:=D.nx } σ2 H2):=by
 refine⟨fun i m σ H=>m=xs.length - i/\i<=xs.length/\Pv i σ H,⟨xs.length,by simp,Nat.zero_le _,h0⟩,?_⟩;rintro i m σ H ⟨rfl,hi,p⟩;have q:=hl i σ H hi p;by_cases hlt:i<xs.length
 . refine .inr ⟨⟨xs,xs[i],q,by simp[hlt]⟩,Pv (i+1),fun σ' H' p'=>⟨xs.length - (i+1),om,rfl,hlt,p'⟩,fun x H' y=>?_⟩;obtain⟨e,y⟩:=y;subst e;exact hs i x σ _ (y xs q) p
 . have e:i=xs.length:=by omega
   subst e;exact .inl ⟨⟨xs,q,Xae _⟩,hd σ H p⟩
theorem Zec {lo:Int}{n:Nat}{g:TG}{tb:TS}{D:Zex}{σ:St}{H:Hp}(Pv:Nat->St->Hp->Prop)(h0:Pv 0 σ H)
 (hs:∀ i σ H,i<n->Pv i σ H->g (.int (lo+i)) σ H fun σ2 H2=>tb { D with nx:=Pv (i+1),ct:=Pv (i+1),bk:=D.nx } σ2 H2)(hd:∀ σ H,Pv n σ H->D.nx σ H) :
 ∃ W:Nat->Nat->St->Hp->Prop,(∃ m,W 0 m σ H)/\∀ i m σ H,W i m σ H->
  ((Itr lo n).stop i H/\D.nx σ H)\/((Itr lo n).go i H/\∃ N:St->Hp->Prop,(∀ σ' H',N σ' H'->∃ m',m'<m/\W (i+1) m' σ' H')/\∀ x H',(Itr lo n).yld i H x H'->g x σ H' fun σ2 H2=>tb { D with nx:=N,ct:=N,bk:=D.nx } σ2 H2):=by
 refine⟨fun i m σ H=>m=n - i/\i<=n/\Pv i σ H,⟨n,by simp,Nat.zero_le _,h0⟩,?_⟩;rintro i m σ H ⟨rfl,hi,p⟩;by_cases hlt:i<n
 . refine .inr ⟨hlt,Pv (i+1),fun σ' H' p'=>⟨n - (i+1),om,rfl,hlt,p'⟩,fun x H' y=>?_⟩;obtain⟨e,y⟩:=y;subst e y;exact hs i σ _ hlt p
 . have e:i=n:=by omega
   subst e;exact .inl ⟨Xae _,hd σ H p⟩
theorem Zhy {c:TT}{tb:TS}{D:Zex}{σ:St}{H:Hp}(Pv:St->Hp->Prop)(μ:St->Hp->Nat)(h0:Pv σ H)
 (hs:∀ σ H,Pv σ H->c σ H fun b H1=>if b=true then tb { D with nx:=fun σ' H'=>Pv σ' H'/\μ σ' H'<μ σ H,ct:=fun σ' H'=>Pv σ' H'/\μ σ' H'<μ σ H,bk:=D.nx } σ H1 else D.nx σ H1)
 (mono:∀ σ H Q Q',(∀ b H1,Q b H1->Q' b H1)->c σ H Q->c σ H Q'):Zsr c tb D σ H:=by
 refine⟨fun m σ H=>m=μ σ H/\Pv σ H,⟨_,rfl,h0⟩,?_⟩;rintro m σ H ⟨rfl,p⟩;refine mono σ H _ _ (fun b H1 q=>?_) (hs σ H p);cases b with
 | true=>exact⟨_,fun σ' H' ⟨p',l⟩=>⟨_,l,rfl,p'⟩,q⟩
 | false=>exact q
abbrev R2:=V->V->Hp->VK->Prop
def OpR (X:Cx)(f:Value->Value->Sem Value)(r:R2):Prop:=
 ∀ (aa:List (Addr×Obj)) (s:Shared) (σ:St) (H:Hp) (x y:V) (v u:Value) (Q:VK),Inv X aa σ H s->RelV x v->RelV y u->r x y H Q->
  wpAny (model X.prog X.w) X.A (f v u) (EP X aa σ Q) X.xe s
def UnR (X:Cx)(f:Value->Sem Value)(r:V->Hp->VK->Prop):Prop:=
 ∀ (aa:List (Addr×Obj)) (s:Shared) (σ:St) (H:Hp) (x:V) (v:Value) (Q:VK),Inv X aa σ H s->RelV x v->r x H Q->
  wpAny (model X.prog X.w) X.A (f v) (EP X aa σ Q) X.xe s
def Zd8 (X:Cx)(f:Value)(r:List V->Hp->VK->Prop):Prop:=
 ∀ (aa:List (Addr×Obj)) (s:Shared) (σ:St) (H:Hp) (xs:List V) (us:List Value) (Q:VK),Inv X aa σ H s->Vals xs us->r xs H Q->
  wpAny (model X.prog X.w) X.A (call f us) (EP X aa σ Q) X.xe s
def tOp (r:R2)(ta tb:TE):TE:=fun σ H Q=>ta σ H fun x H1=>tb σ H1 fun y H2=>r x y H2 Q
def tUn (r:V->Hp->VK->Prop)(ta:TE):TE:=fun σ H Q=>ta σ H fun x H1=>r x H1 Q
def rI (C:Int->Int->Prop)(g:Int->Int->V):R2:=fun x y H Q=>∃ i j,x = .int i/\y = .int j/\C i j/\Q (g i j) H
def rI0 (g:Int->Int->V):R2:=fun x y H Q=>∃ i j,x = .int i/\y = .int j/\Q (g i j) H
def rU (g:Int->V):V->Hp->VK->Prop:=fun x H Q=>∃ i,x = .int i/\Q (g i) H
section
variable {X:Cx}{a b c:Expr}{ta tb tc:TE}{pos:Pos}
theorem binT (ha:PE X a ta)(hb:PE X b tb){aa:List (Addr×Obj)}{s:Shared}{σ:St}{H:Hp}{R:V->V->Hp->Prop}(I:Inv X aa σ H s)
 (h:ta σ H fun x H1=>tb σ H1 fun y H2=>R x y H2){Q:Value->Shared->Prop}{f:Value->Value->Sem Value}
 (hf:∀ v u s2 x y H2,Inv X aa σ H2 s2->RelV x v->RelV y u->R x y H2->wpAny (model X.prog X.w) X.A (f v u) Q X.xe s2) :
 wpAny (model X.prog X.w) X.A (eval a X.env) (fun v s₁=>wpAny (model X.prog X.w) X.A (eval b X.env) (fun u s₂=>wpAny (model X.prog X.w) X.A (f v u) Q X.xe s₂) X.xe s₁) X.xe s:=by
 refine thn (ha aa s σ H _ I h) fun v s1=>ex5 fun x H1 I1 r1 q1=>?_;refine thn (hb aa s1 σ H1 _ I1 q1) fun u s2=>ex5 fun y H2 I2 r2 q2=>?_;exact hf v u s2 x y H2 I2 r1 r2 q2
theorem Zas {op:Operator}{r:R2}(ho:OpR X (binaryOp op) r)(ha:PE X a ta)(hb:PE X b tb):PE X (.BinOp a op b pos) (tOp r ta tb):=by
 intro aa s σ H Q I h;exact wpAny_BinOp (binT ha hb I h fun v u s2 x y H2 I2 rx ry q=>ho aa s2 σ H2 x y v u Q I2 rx ry q)
theorem Zyk {op:UnaryOp}{r:V->Hp->VK->Prop}(ho:UnR X (unaryOp op) r)(ha:PE X a ta):PE X (.UnaryOp op a pos) (tUn r ta):=by
 intro aa s σ H Q I h;exact UnaryOp_ (thn (ha aa s σ H _ I h) fun v s1=>ex5 fun x H1 I1 r1 q1=>ho aa s1 σ H1 x v Q I1 r1 q1)
theorem opI {f:Value->Value->Sem Value}{C:Int->Int->Prop}{g:Int->Int->Int}
 (rule:∀ (i j:Int)(t u:Tok)(s:Shared)(Q:Value->Shared->Prop)(E:Value->Shared->Prop),C i j->Q (.int (g i j) s.toks) { s with toks:=s.toks+1 }->wpAny (model X.prog X.w) X.A (f (.int i t) (.int j u)) Q E s) :
 OpR X f (rI C fun i j=>.int (g i j)):=by
 intro aa s σ H x y v u Q I rx ry h;obtain⟨i,j,rfl,rfl,hc,q⟩:=h;obtain⟨t,rfl⟩:=rx;obtain⟨t',rfl⟩:=ry;exact rule i j t t' s _ _ hc ⟨.int (g i j),H,I.tok _,⟨_,rfl⟩,q⟩
theorem opI0 {f:Value->Value->Sem Value}{g:Int->Int->Int}
 (rule:∀ (i j:Int)(t u:Tok)(s:Shared)(Q:Value->Shared->Prop)(E:Value->Shared->Prop),Q (.int (g i j) s.toks) { s with toks:=s.toks+1 }->wpAny (model X.prog X.w) X.A (f (.int i t) (.int j u)) Q E s) :
 OpR X f (rI0 fun i j=>.int (g i j)):=by
 intro aa s σ H x y v u Q I rx ry h;obtain⟨i,j,rfl,rfl,q⟩:=h;obtain⟨t,rfl⟩:=rx;obtain⟨t',rfl⟩:=ry;exact rule i j t t' s _ _ ⟨.int (g i j),H,I.tok _,⟨_,rfl⟩,q⟩
theorem opB0 {f:Value->Value->Sem Value}{g:Int->Int->Bool}
 (rule:∀ (i j:Int)(t u:Tok)(s:Shared)(Q:Value->Shared->Prop)(E:Value->Shared->Prop),Q (.bool (g i j)) s->wpAny (model X.prog X.w) X.A (f (.int i t) (.int j u)) Q E s) :
 OpR X f (rI0 fun i j=>.bl (g i j)):=by
 intro aa s σ H x y v u Q I rx ry h;obtain⟨i,j,rfl,rfl,q⟩:=h;obtain⟨t,rfl⟩:=rx;obtain⟨t',rfl⟩:=ry;exact rule i j t t' s _ _ ⟨.bl (g i j),H,I,rfl,q⟩
def CDiv (i j:Int):Prop:=0<j/\j<1073741824
def CPow (i j:Int):Prop:=0<=j/\j<=1000000/\i.natAbs<2 ^ 64
def CMul (i j:Int):Prop:=(-(2 ^ 64)<i/\i<2 ^ 64)\/(-(2 ^ 64)<j/\j<2 ^ 64)
theorem CMul.ok {i j:Int}(h:CMul i j):IntMulOk i j:=by
 rcases h with⟨h1,h2⟩ | ⟨h1,h2⟩
 . exact .of_left (intBits_le_64 h1 h2)
 . exact .of_right (intBits_le_64 h1 h2)
theorem two_pow_nn (k:Nat):(0:Int)<=2 ^ k:=by
 rw[two_pow_cast];exact Int.natCast_nonneg _
theorem Zcv:OpR X (binaryOp .Add) (rI0 fun i j=>.int (i+j)):=opI0 fun _ _ _ _ _ _ _ q=>add_int q
theorem Zb7:OpR X (binaryOp .Sub) (rI0 fun i j=>.int (i - j)):=opI0 fun _ _ _ _ _ _ _ q=>sub_int q
theorem Zfi:OpR X (binaryOp .Mult) (rI CMul fun i j=>.int (i * j)):=opI fun _ _ _ _ _ _ _ hc q=>mul_int q hc.ok
theorem Zd5:OpR X (binaryOp .FloorDiv) (rI CDiv fun i j=>.int (i / j)):=opI fun i j _ _ _ _ _ hc q=>by
 have h1:(0:Int)<j:=hc.1;have h2:j<1073741824:=hc.2;exact floordiv_int om (by rw[Int.fdiv_eq_ediv_of_nonneg i om];exact q) (.inl (PyProof.noPylong_small om))
theorem Zc4:OpR X (binaryOp .Mod) (rI (fun _ j=>0<j) fun i j=>.int (i % j)):=opI fun i j _ _ _ _ _ hc q=>by
 have h1:(0:Int)<j:=hc;exact mod_int' om (by rw[Int.fmod_eq_emod_of_nonneg i om];exact q)
theorem Zgg:OpR X (binaryOp .LShift) (rI CPow fun i j=>.int (i * 2 ^ j.toNat)):=opI fun _ _ _ _ _ _ _ hc q=>lshift_int_small hc.1 hc.2.1 hc.2.2 q
theorem Zs1:OpR X (binaryOp .RShift) (rI (fun _ j=>0<=j) fun i j=>.int (i / 2 ^ j.toNat)):=opI fun i j _ _ _ _ _ hc q=>
 rshift_int hc (by rw[Int.fdiv_eq_ediv_of_nonneg i (two_pow_nn _)];exact q)
theorem Zst:OpR X (binaryOp .BitAnd) (rI0 fun i j=>.int (Builtin.bitAnd i j)):=opI0 fun _ _ _ _ _ _ _ q=>and_int q
theorem Zyi:OpR X (binaryOp .BitXor) (rI0 fun i j=>.int (Builtin.bitXor i j)):=opI0 fun _ _ _ _ _ _ _ q=>xor_int q
theorem unI {f:Value->Sem Value}{g:Int->Int}
 (rule:∀ (i:Int)(t:Tok)(s:Shared)(Q:Value->Shared->Prop)(E:Value->Shared->Prop),Q (.int (g i) s.toks) { s with toks:=s.toks+1 }->wpAny (model X.prog X.w) X.A (f (.int i t)) Q E s) :
 UnR X f (rU fun i=>.int (g i)):=by
 intro aa s σ H x v Q I rx h;obtain⟨i,rfl,q⟩:=h;obtain⟨t,rfl⟩:=rx;exact rule i t s _ _ ⟨.int (g i),H,I.tok _,⟨_,rfl⟩,q⟩
theorem Zsq:UnR X (unaryOp .USub) (rU fun i=>.int (-i)):=unI fun _ _ _ _ _ q=>neg_int q
end
noncomputable def scal:V->V->Bool
 | .non,.non=>true | .non,.int _=>true | .int _,.non=>true | .non,.bl _=>true | .bl _,.non=>true | .non,.str _=>true | .str _,.non=>true
 | .int _,.int _=>true | .bl _,.bl _=>true | .str _,.str _=>true | .byt _,.byt _=>true
 | .int _,.str _=>true | .str _,.int _=>true | .bl _,.str _=>true | .str _,.bl _=>true
 | _,_=>false
def rEq:R2:=fun x y H Q=>scal x y=true/\Q (.bl (decide (x=y))) H
def rNe:R2:=fun x y H Q=>scal x y=true/\Q (.bl (!decide (x=y))) H
theorem Zoa {i j:Int}:decide (V.int i=V.int j)=(i == j):=by
 rw[Bool.eq_iff_iff];simp
theorem Zs4 {i j:Bool}:decide (V.bl i=V.bl j)=(i == j):=by
 rw[Bool.eq_iff_iff];simp
theorem Znt {i j:Str}:decide (V.str i=V.str j)=(i == j):=by
 rw[Bool.eq_iff_iff];simp
theorem Zp9 {i j:Array UInt8}:decide (V.byt i=V.byt j)=(i.toList == j.toList):=by
 rw[Bool.eq_iff_iff];cases i
 cases j
 simp
section
variable {X:Cx}{a b c:Expr}{ta tb tc:TE}{pos:Pos}
theorem Zba {aa:List (Addr×Obj)}{σ:St}{H:Hp}{s:Shared}{Q:VK}{k k':Bool}(I:Inv X aa σ H s)(q:Q (.bl k) H)(e:k=k'):EP X aa σ Q (.bool k') s:=by
 subst e;exact⟨.bl k,H,I,rfl,q⟩
theorem Za2:OpR X (compareOp .Eq) rEq:=by
 intro aa s σ H x y v u Q I rx ry h;obtain⟨hs,q⟩:=h;cases x with
 | non=>
  cases rx
  cases y with
  | non=>cases ry;exact PySem.EqNone.eq_none_none (Zba I q (by simp))
  | bl j=>cases ry;exact PySem.EqNone.eq_none_bool (Zba I q (by simp))
  | int j=>obtain⟨t',rfl⟩:=ry;exact PySem.EqNone.eq_none_int (Zba I q (by simp))
  | str j=>obtain⟨t',rfl⟩:=ry;exact PySem.EqNone.eq_none_str (Zba I q (by simp))
  | _=>exact absurd (show false=true from hs) Xap
 | bl i=>
  cases rx
  cases y with
  | non=>cases ry;exact PySem.EqNone.eq_bool_none (Zba I q (by simp))
  | bl j=>cases ry;exact eq_bool (Zba I q Zs4)
  | str j=>obtain⟨t',rfl⟩:=ry;exact PySem.EqMixed.eq_bool_str (Zba I q (by simp))
  | _=>exact absurd (show false=true from hs) Xap
 | int i=>
  obtain⟨t,rfl⟩:=rx;cases y with
  | non=>cases ry;exact PySem.EqNone.eq_int_none (Zba I q (by simp))
  | int j=>obtain⟨t',rfl⟩:=ry;exact eq_int (Zba I q Zoa)
  | str j=>obtain⟨t',rfl⟩:=ry;exact PySem.EqMixed.eq_int_str (Zba I q (by simp))
  | _=>exact absurd (show false=true from hs) Xap
 | str i=>
  obtain⟨t,rfl⟩:=rx;cases y with
  | non=>cases ry;exact PySem.EqNone.eq_str_none (Zba I q (by simp))
  | bl j=>cases ry;exact PySem.EqMixed.eq_str_bool (Zba I q (by simp))
  | int j=>obtain⟨t',rfl⟩:=ry;exact PySem.EqMixed.eq_str_int (Zba I q (by simp))
  | str j=>obtain⟨t',rfl⟩:=ry;exact eq_str (Zba I q Znt)
  | _=>exact absurd (show false=true from hs) Xap
 | byt i=>
  obtain⟨t,rfl⟩:=rx;cases y with
  | byt j=>obtain⟨t',rfl⟩:=ry;exact PySem.W.eq_bytes (Zba I q Zp9)
  | _=>exact absurd (show false=true from hs) Xap
 | _=>cases y <;> exact absurd (show false=true from hs) Xap
theorem Zuu:OpR X (compareOp .NotEq) rNe:=by
 intro aa s σ H x y v u Q I rx ry h;obtain⟨hs,q⟩:=h;cases x with
 | non=>
  cases rx
  cases y with
  | non=>cases ry;exact PySem.EqNone.ne_none_none (Zba I q (by simp))
  | bl j=>cases ry;exact PySem.EqNone.ne_none_bool (Zba I q (by simp))
  | int j=>obtain⟨t',rfl⟩:=ry;exact PySem.EqNone.ne_none_int (Zba I q (by simp))
  | str j=>obtain⟨t',rfl⟩:=ry;exact PySem.EqNone.ne_none_str (Zba I q (by simp))
  | _=>exact absurd (show false=true from hs) Xap
 | bl i=>
  cases rx
  cases y with
  | non=>cases ry;exact PySem.EqNone.ne_bool_none (Zba I q (by simp))
  | bl j=>cases ry;exact ne_bool (Zba I q (congrArg not Zs4))
  | str j=>obtain⟨t',rfl⟩:=ry;exact PySem.EqMixed.ne_bool_str (Zba I q (by simp))
  | _=>exact absurd (show false=true from hs) Xap
 | int i=>
  obtain⟨t,rfl⟩:=rx;cases y with
  | non=>cases ry;exact PySem.EqNone.ne_int_none (Zba I q (by simp))
  | int j=>obtain⟨t',rfl⟩:=ry;exact ne_int (Zba I q (congrArg not Zoa))
  | str j=>obtain⟨t',rfl⟩:=ry;exact PySem.EqMixed.ne_int_str (Zba I q (by simp))
  | _=>exact absurd (show false=true from hs) Xap
 | str i=>
  obtain⟨t,rfl⟩:=rx;cases y with
  | non=>cases ry;exact PySem.EqNone.ne_str_none (Zba I q (by simp))
  | bl j=>cases ry;exact PySem.EqMixed.ne_str_bool (Zba I q (by simp))
  | int j=>obtain⟨t',rfl⟩:=ry;exact PySem.EqMixed.ne_str_int (Zba I q (by simp))
  | str j=>obtain⟨t',rfl⟩:=ry;exact ne_str (Zba I q (congrArg not Znt))
  | _=>exact absurd (show false=true from hs) Xap
 | byt i=>
  obtain⟨t,rfl⟩:=rx;cases y with
  | byt j=>obtain⟨t',rfl⟩:=ry;exact PySem.W.ne_bytes (Zba I q (congrArg not Zp9))
  | _=>exact absurd (show false=true from hs) Xap
 | _=>cases y <;> exact absurd (show false=true from hs) Xap
theorem Zdg:OpR X (compareOp .Lt) (rI0 fun i j=>.bl (decide (i<j))):=opB0 fun _ _ _ _ _ _ _ q=>lt_int q
theorem Ze5:OpR X (compareOp .LtE) (rI0 fun i j=>.bl (decide (i<=j))):=opB0 fun _ _ _ _ _ _ _ q=>le_int q
theorem Zmo:OpR X (compareOp .Gt) (rI0 fun i j=>.bl (decide (j<i))):=opB0 fun _ _ _ _ _ _ _ q=>gt_int q
theorem Zpm:OpR X (compareOp .GtE) (rI0 fun i j=>.bl (decide (j<=i))):=opB0 fun _ _ _ _ _ _ _ q=>ge_int q
theorem Znk:OpR X (compareOp .Is) (fun x y H Q=>y = .non/\Q (.bl (decide (x = .non))) H):=by
 intro aa s σ H x y v u Q I rx ry h;obtain⟨rfl,q⟩:=h;cases ry
 refine is_none_gen (Zba I q ?_);cases x <;> first
  | (cases rx;rfl)
  | (obtain⟨t,rfl⟩:=rx;rfl)
theorem Zp6:OpR X (compareOp .IsNot) (fun x y H Q=>y = .non/\Q (.bl (!decide (x = .non))) H):=by
 intro aa s σ H x y v u Q I rx ry h;obtain⟨rfl,q⟩:=h;cases ry
 refine isnot_none_gen (Zba I q ?_);cases x <;> first
  | (cases rx;rfl)
  | (obtain⟨t,rfl⟩:=rx;rfl)
theorem Zam (b:Expr){op:CmpOp}(h:op≠.In:=by decide)(h2:op≠.NotIn:=by decide):behindInMarks op b=false:=by
 have e1:(op == CmpOp.In)=false:=by cases op <;> first | rfl | exact absurd rfl h
 have e2:(op == CmpOp.NotIn)=false:=by cases op <;> first | rfl | exact absurd rfl h2
 cases b <;> simp[behindInMarks,e1,e2]
theorem Zfn {op:CmpOp}{r:R2}(ho:OpR X (compareOp op) r)(ha:PE X a ta)(hb:PE X b tb)(hm:behindInMarks op b=false):PE X (.Compare a [op] [b] pos) (tOp r ta tb):=by
 intro aa s σ H Q I h;exact wpAny_Compare1 (binT ha hb I h fun v u s2 x y H2 I2 rx ry q=>ho aa s2 σ H2 x y v u Q I2 rx ry q) hm
def Ztx (t:TE):TT:=fun σ H Q=>t σ H fun x H'=>∃ k,x = .bl k/\Q k H'
theorem Zaj {op:CmpOp}{r:R2}(ho:OpR X (compareOp op) r)(ha:PE X a ta)(hb:PE X b tb)(hm:behindInMarks op b=false):PT X (.Compare a [op] [b] pos) (Ztx (tOp r ta tb)):=by
 intro aa s σ H Q I h;refine wpAny_isTrue_Compare1 (thn (ha aa s σ H _ I h) fun v s1=>ex5 fun x H1 I1 r1 q1=>thn (hb aa s1 σ H1 _ I1 q1) fun u s2=>ex5 fun y H2 I2 r2 q2=>
  thn (ho aa s2 σ H2 x y v u _ I2 r1 r2 q2) fun c s3 ⟨z,H3,I3,r3,k,e,q3⟩=>?_) hm
 subst e;cases r3
 exact Xbn ⟨H3,I3,q3⟩
def Zpa (r r':R2)(ta tb tc:TE):TE:=fun σ H Q=>ta σ H fun x H1=>tb σ H1 fun y H2=>r x y H2 fun z H3=>∃ k,z = .bl k/\
 (if k=true then tc σ H3 fun w' H4=>r' y w' H4 Q else Q (.bl false) H3)
theorem Zqv {op op':CmpOp}{r r':R2}(ho:OpR X (compareOp op) r)(ho':OpR X (compareOp op') r')(ha:PE X a ta)(hb:PE X b tb)(hc:PE X c tc)
 (hm:lastMarks [op,op'] [b,c]=false:=by with_unfolding_all rfl):PE X (.Compare a [op,op'] [b,c] pos) (Zpa r r' ta tb tc):=by
 intro aa s σ H Q I h;refine Compare_chain (thn (ha aa s σ H _ I h) fun v s1=>ex5 fun x H1 I1 r1 q1=>chain_link (thn (hb aa s1 σ H1 _ I1 q1) fun u s2=>ex5 fun y H2 I2 r2 q2=>
  thn (ho aa s2 σ H2 x y v u _ I2 r1 r2 q2) fun d s3 ⟨z,H3,I3,r3,k,e,q3⟩=>?_)) hm
 subst e;cases r3
 refine Xbn ?_;cases k with
 | false=>exact ite_ff ⟨.bl false,H3,I3,rfl,q3⟩
 | true=>exact ite_tt (chain_last (thn (hc aa s3 σ H3 _ I3 q3) fun w' s4=>ex5 fun z' H4 I4 r4 q4=>ho' aa s4 σ H4 y z' u w' Q I4 r2 r4 q4))
theorem Zeg {op op':CmpOp}{r r':R2}(ho:OpR X (compareOp op) r)(ho':OpR X (compareOp op') r')(ha:PE X a ta)(hb:PE X b tb)(hc:PE X c tc)
 (hm:lastMarks [op,op'] [b,c]=false:=by with_unfolding_all rfl):PT X (.Compare a [op,op'] [b,c] pos) (Ztx (Zpa r r' ta tb tc)):=by
 intro aa s σ H Q I h;refine isTrue_chain (thn (ha aa s σ H _ I h) fun v s1=>ex5 fun x H1 I1 r1 q1=>test_link (thn (hb aa s1 σ H1 _ I1 q1) fun u s2=>ex5 fun y H2 I2 r2 q2=>
  thn (ho aa s2 σ H2 x y v u _ I2 r1 r2 q2) fun d s3 ⟨z,H3,I3,r3,k,e,q3⟩=>?_)) hm
 subst e;cases r3
 refine Xbn ?_;cases k with
 | false=>
  obtain⟨k',e',q'⟩:=q3;cases e'
  exact ite_ff ⟨H3,I3,q'⟩
 | true=>
  refine ite_tt (test_last (thn (hc aa s3 σ H3 _ I3 q3) fun w' s4=>ex5 fun z' H4 I4 r4 q4=>thn (ho' aa s4 σ H4 y z' u w' _ I4 r2 r4 q4) fun d' s5 hz=>?_));obtain⟨z2,H5,I5,r5,k2,e2,q5⟩:=hz;subst e2;cases r5
  exact Xbn ⟨H5,I5,q5⟩
theorem Zgh:(sizeLine:Nat)<2 ^ 63:=by rw[Xam];decide
theorem Zck:OpR X (binaryOp .Add) (fun x y H Q=>∃ i j,x = .str i/\y = .str j/\i.length+j.length<=sizeLine/\Q (.str (i++j)) H):=by
 intro aa s σ H x y v u Q I rx ry h;obtain⟨i,j,rfl,rfl,hz,q⟩:=h;obtain⟨t,rfl⟩:=rx;obtain⟨t',rfl⟩:=ry;exact add_str (fun t' tk=>⟨.str (i++j),H,I.tok _,⟨_,rfl⟩,q⟩) hz
theorem Zd7 {x:V}{us:List Value}(r:Vals [x] us):∃ u,us=[u]/\RelV x u:=by
 cases r with
 | cons r1 r2=>cases r2;exact⟨_,rfl,r1⟩
theorem Znn {x y:V}{us:List Value}(r:Vals [x,y] us):∃ u w',us=[u,w']/\RelV x u/\RelV y w':=by
 cases r with
 | cons r1 r2=>
  cases r2 with
  | cons r3 r4=>cases r4;exact⟨_,_,rfl,r1,r3⟩
theorem Zp4 (hc:X.calm=true):Zd8 X (.builtin "min") (fun xs H Q=>∃ i j,xs=[.int i,.int j]/\Q (.int (if j<i then j else i)) H):=by
 intro aa s σ H xs us Q I r h;obtain⟨i,j,rfl,q⟩:=h;obtain⟨u,w',rfl,⟨t,rfl⟩,⟨t',rfl⟩⟩:=Znn r;refine min_two_ints (I.ok.hd hc) fun h' tk k=>⟨_,H,I.kept k,?_,q⟩
 by_cases hj:j<i
 . rw[if_pos hj,if_pos hj];exact⟨_,rfl⟩
 . rw[if_neg hj,if_neg hj];exact⟨_,rfl⟩
theorem Zey:Zd8 X (.type "str") (fun xs H Q=>∃ i,xs=[.int i]/\i.natAbs.log2<1920/\Q (.str (toString i)) H):=by
 intro aa s σ H xs us Q I r h;obtain⟨i,rfl,hz,q⟩:=h;obtain⟨u,rfl,t,rfl⟩:=Zd7 r;exact PySem.P.str_of_int hz ⟨.str _,H,I.tok _,⟨_,rfl⟩,q⟩
end
structure ObjM (h:Heap)(x dx C:Addr)(mA:Str->Option Value):Prop where
 obj:h.get? x=some (PySem.W.instObj C dx)
 ns:h.Ns1 dx mA
 ne:dx≠x
theorem Zol {h:Heap}{dx:Addr}{mA:Str->Option Value}(n:h.Ns1 dx mA):∃ od,h.get? dx=some od/\∀ name,PySem.W.lookIn name od=some (mA name):=by
 obtain⟨o,es,ep,ho,hd,hk,_,hm⟩:=n;refine⟨o,ho,fun name=>?_⟩;have e:=hm name;unfold nsFind findBy at e;rw[<- Array.find?_toList] at e;unfold PySem.W.lookIn;rw[hd];dsimp only;split
 . rename_i y q;rw[q] at e;exact congrArg some e
 . rename_i q;rw[q] at e;have a:es.toList.any (·.refKey)=false:=by
    rw[List.any_eq_false];intro y hy;obtain⟨z,t,hkey⟩:=hk y (Array.mem_toList_iff.mp hy);simp[DictEntry.refKey,hkey]
   have a':¬ es.toList.any (·.refKey)=true:=by rw[a];exact Xap
   rw[if_neg a'];exact congrArg some e
theorem ObjM.look {h:Heap}{x dx C:Addr}{mA:Str->Option Value}(I:ObjM h x dx C mA):∃ od,PySem.W.InstAt h x (PySem.W.instObj C dx) C (some od)/\∀ name,PySem.W.lookIn name od=some (mA name):=
 let ⟨od,ho,hl⟩:=Zol I.ns
 ⟨od,⟨I.obj,rfl,rfl,ho⟩,hl⟩
section
variable {prog:Program}{w:World}{A:Around}{E:Value->Shared->Prop}{s:Shared}{K:W.Frag}{x dx C f:Addr}{mA:Str->Option Value}{name:Str}{v:Value}
theorem Zv6 {expr:Bool}{Q:Value->Shared->Prop}(X:K.In s.heap)(I:ObjM s.heap x dx C mA)(hg:PySem.W.plainGet K C name=true)(hh:PySem.W.hasDictIn K C=true)
 (ha:W.findIn K (.ref C) name=some none)(hv:mA name=some v)(hv':PySem.W.handedIn v=true)(h:Q v { s with toks:=s.toks+1 }) :
 wpAny (model prog w) A (getAttr (.ref x) name expr) Q E s:=by
 obtain⟨od,J,hl⟩:=I.look;exact PySem.W.get_value X J (PySem.W.plainGet_of hg).1 (PySem.W.findObj_own hh ha rfl (by rw[hl,hv])) hv' h
theorem Zqw {pl:Sem Bool}{Q:Value×List Value->Shared->Prop}(X:K.In s.heap)(I:ObjM s.heap x dx C mA)(hg:PySem.W.plainGet K C name=true)
 (hf:W.findIn K (.ref C) name=some (some (.ref f)))(ht:PySem.W.isFn K (.ref f)=true)(hv:mA name=none)(h:Q (.ref f,[.ref x]) s) :
 wpAny (model prog w) A (getMethod (.ref x) name pl) Q E s:=by
 obtain⟨od,J,hl⟩:=I.look;exact PySem.W.method_fn X J (PySem.W.plainGet_of hg).1 (PySem.W.plainGet_of hg).2 hf (beq_iff_eq.mp ht) (by show(PySem.W.lookIn name od).map (·.isSome)=some false;rw[hl,hv];rfl) h
theorem Zuc {ns:List Str}{Q:Unit->Shared->Prop}(X:K.In s.heap)(I:ObjM s.heap x dx C mA)
 (hs:W.findIn K (.ref C) "__setattr__" = some (some (.builtin "object.__setattr__")))(hp:PySem.W.plainOver K C=true)(ht:PySem.W.takerIn K C name=some none)(hh:PySem.W.hasDictIn K C=true)
 (hw:PySem.Within mA ns)(hsz:ns.length<=sizeLine)
 (h:∀ h',ObjM h' x dx C (fun y=>if y=name then some v else mA y)->Heap.SameBut dx s.heap h'->Q () { s with heap:=h',toks:=s.toks+2 }) :
 wpAny (model prog w) A (setAttr (.ref x) name v) Q E s:=by
 obtain⟨od,J,hl⟩:=I.look;refine PySem.W.set_plain X J hs (PySem.W.osa_open (s:={ s with toks:=s.toks+1 }) (r:=none) X J hp ht fun b=>?_);obtain⟨cd,hc,hd'⟩:=PySem.W.any_some hh;have hx:s.heap.get? x=some ⟨.ref C,some dx,.plain,#[]⟩:=I.obj;refine Xaa (Xak (Xaa (Xaa (wpAny_loadPart hx (Xaa (PySem.W.Looks.here (s:={ s with toks:=s.toks+1 }) (PySem.W.looks_clsIn X hc) ?_))))));rw[hd'];refine Xak (a:=some dx) (Xaa (Xak (Xaa ?_)));refine wpAny_nsSet1 (s:={ s with toks:=s.toks+1 }) I.ns fun h' hn2 hs2=>?_;obtain⟨oD,esD,epD,hoD,hdD,hcD⟩:=hn2.count (PySem.Within.cons name v hw);refine Xaa (wpAny_lookBehind hoD (by rw[hdD];exact pastItsLine_dict (Xan hcD (by rw[Xax];omega))) ?_);exact Xak (h _ ⟨(hs2.2 _ (Ne.symm I.ne)).trans I.obj,hn2,I.ne⟩ hs2)
theorem Zsf {R:Result->Shared->Prop}{vs:List Value}{kw:List (Str×Value)}(X:K.In s.heap)(hm:PySem.W.makesIn K C=true)
 (hi:W.findIn K (.ref C) "__init__" = some (some (.ref f)))(hf:PySem.W.typeIn K (.ref f)=some (.type "function"))
 (h:codeAny (model prog w) (A.under (.builtin "type.__call__" ⟨.ref C :: vs,kw⟩)) (.call (.ref f) ⟨.ref (s.heap.objs.size+1) :: vs,kw⟩) (PySem.W.InitBack (s.heap.objs.size+1) R)
  { s with heap:=(s.heap.push PySem.W.emptyDict).push (PySem.W.instObj C s.heap.objs.size) }) :
 codeAny (model prog w) A (.call (.ref C) ⟨vs,kw⟩) R s:=by
 obtain⟨hh,g,d,t,os⟩:=s;exact PySem.W.make_core (PySem.W.makes_of X hm) (Xb1 X hi) (fun self=>PySem.W.bind_fn X self hf) (.inl rfl) h
end
noncomputable def Zdy (f:Str) (v:V):List (Str×V)->List (Str×V)
 | []=>[(f,v)]
 | (g,x) :: r=>if g=f then(g,v) :: r else(g,x) :: Zdy f v r
theorem Zfl (f g:Str)(v:V):∀ fs:List (Str×V),(Zdy f v fs).lookup g=if g=f then some v else fs.lookup g
 | []=>by
  show List.lookup g [(f,v)]=_;by_cases h:g=f
  . have hb:(g == f)=true:=beq_iff_eq.mpr h;simp only[List.lookup,hb,if_pos h]
  . have hb:(g == f)=false:=beq_eq_false_iff_ne.mpr h;simp only[List.lookup,hb,if_neg h]
 | (k,x) :: r=>by
  have ih:=Zfl f g v r;rw[show Zdy f v ((k,x) :: r)=(if k=f then(k,v) :: r else(k,x) :: Zdy f v r) from rfl];by_cases hk:k=f
  . rw[if_pos hk];by_cases h:g=k
    . have hb:(g == k)=true:=beq_iff_eq.mpr h;simp only[List.lookup,hb,if_pos (h.trans hk)]
    . have hb:(g == k)=false:=beq_eq_false_iff_ne.mpr h;simp only[List.lookup,hb,if_neg (fun e:g=f=>h (e.trans hk.symm))]
  . rw[if_neg hk];by_cases h:g=k
    . have hb:(g == k)=true:=beq_iff_eq.mpr h;simp only[List.lookup,hb,if_neg (fun e:g=f=>hk (h.symm.trans e))]
    . have hb:(g == k)=false:=beq_eq_false_iff_ne.mpr h;simp only[List.lookup,hb];exact ih
theorem Zfw (f:Str)(v:V):∀ fs:List (Str×V),f∈(Zdy f v fs).map (·.1)/\∀ g,g∈fs.map (·.1)->g∈(Zdy f v fs).map (·.1)
 | []=>⟨by simp[Zdy],fun g h=>by simp at h⟩
 | (k,x) :: r=>by
  obtain⟨i1,i2⟩:=Zfw f v r;rw[show Zdy f v ((k,x) :: r)=(if k=f then(k,v) :: r else(k,x) :: Zdy f v r) from rfl];by_cases hk:k=f
  . rw[if_pos hk];subst hk;exact⟨by simp,fun g h=>by simpa using h⟩
  . rw[if_neg hk];refine⟨?_,fun g h=>?_⟩
    . rw[Xbf];exact Xal _ i1
    . rw[Xbf] at h ⊢;rcases List.mem_cons.mp h with e | e
      . exact List.mem_cons.mpr (.inl e)
      . exact Xal _ (i2 g e)
theorem Zf1 (f:Str)(v:V):∀ fs:List (Str×V),(Zdy f v fs).length<=fs.length+1
 | []=>by simp[Zdy]
 | (k,x) :: r=>by
  have ih:=Zf1 f v r;rw[show Zdy f v ((k,x) :: r)=(if k=f then(k,v) :: r else(k,x) :: Zdy f v r) from rfl];by_cases hk:k=f
  . rw[if_pos hk,Xax,Xax];omega
  . rw[if_neg hk,Xax,Xax];omega
theorem RelO.some_of {v:V}{o:Option Value}(r:RelO (some v) o):∃ u,o=some u/\RelV v u:=by
 cases o with
 | none=>exact(show False from r).elim
 | some u=>exact⟨u,rfl,r⟩
theorem RelO.none_of {o:Option Value}(r:RelO none o):o=none:=by
 cases o with
 | none=>rfl
 | some u=>exact(show False from r).elim
theorem Zp1 {v:V}{u:Value}(r:RelV v u):PySem.W.handedIn u=true:=by
 cases v with
 | non=>cases(show u=Value.none from r);rfl
 | bl b=>cases(show u=Value.bool b from r);rfl
 | int i=>obtain⟨t,e⟩:=(show ∃ t,u=Value.int i t from r);cases e;rfl
 | str x=>obtain⟨t,e⟩:=(show ∃ t,u=Value.str x t from r);cases e;rfl
 | byt b=>obtain⟨t,e⟩:=(show ∃ t,u=Value.bytes b t from r);cases e;rfl
 | flt b=>obtain⟨t,e⟩:=(show ∃ t,u=Value.float b t from r);cases e;rfl
 | ref a=>cases(show u=Value.ref a from r);rfl
 | ty n=>cases(show u=Value.type n from r);rfl
section
variable {P:Program}{w:World}{H H':Hp}{h h':Heap}{a C dx:Addr}{fs fs':List (Str×V)}
theorem Zha (hok:HOk P w H h)(e:H a=some (.ins C dx fs)):∃ mA,ObjM h a dx C mA/\(∀ f,RelO (fs.lookup f) (mA f))/\PySem.Within mA (fs.map (·.1))/\fs.length<=1000/\H dx=some (.own a):=by
 obtain⟨d,z,ne,ob,mA,n,r,q⟩:=(show ObjOk P w H h a (.ins C dx fs) from hok a _ e)
 exact⟨mA,⟨ob,n,ne⟩,r,q,z,d⟩
end
structure Cls (K:W.Frag)(C:Addr):Prop where
 pg:PySem.W.plainGet K C Str.empty=true
 hd:PySem.W.hasDictIn K C=true
 po:PySem.W.plainOver K C=true
 sa:W.findIn K (.ref C) "__setattr__" = some (some (.builtin "object.__setattr__"))
theorem Cls.get {K:W.Frag}{C:Addr}(c:Cls K C)(f:Str):PySem.W.plainGet K C f=true:=c.pg
def NoAttr (K:W.Frag)(C:Addr)(f:Str):Prop:=W.findIn K (.ref C) f=some none
theorem NoAttr.taker {K:W.Frag}{C:Addr}{f:Str}(n:NoAttr K C f):PySem.W.takerIn K C f=some none:=by
 unfold PySem.W.takerIn;rw[show W.findIn K (.ref C) f=some none from n]
 rfl
structure Zmq (K:W.Frag)(C:Addr)(m:Str)(f:Addr):Prop where
 at_:W.findIn K (.ref C) m=some (some (.ref f))
 fn:PySem.W.isFn K (.ref f)=true
 kp:W.keepIn K (.ref f)=true
section
variable {X:Cx}{aa:List (Addr×Obj)}{σ:St}{H:Hp}{s:Shared}{a C dx:Addr}{fs:List (Str×V)}{f:Str}{v:V}{A:Around}{E:Value->Shared->Prop}
theorem Zmf {b:Bool}{Q:Value->Shared->Prop}(I:Inv X aa σ H s)(e:H a=some (.ins C dx fs))(c:Cls X.K C)(n:NoAttr X.K C f)(l:fs.lookup f=some v)
 (h:∀ u s',Inv X aa σ H s'->RelV v u->Q u s'):wpAny (model X.prog X.w) A (getAttr (.ref a) f b) Q E s:=by
 obtain⟨mA,O,r,_,_,_⟩:=Zha I.hok e;obtain⟨u,hu,ru⟩:=RelO.some_of (v:=v) (o:=mA f) (by rw[<- l];exact r f);exact Zv6 I.kIn O (c.get f) c.hd n hu (Zp1 ru) (h u _ (I.tok _) ru)
theorem Zc7 {m:Str}{g:Addr}{pl:Sem Bool}{Q:Value×List Value->Shared->Prop}(I:Inv X aa σ H s)(e:H a=some (.ins C dx fs))(c:Cls X.K C)(k:Zmq X.K C m g)(l:fs.lookup m=none)
 (h:Q (.ref g,[.ref a]) s):wpAny (model X.prog X.w) A (getMethod (.ref a) m pl) Q E s:=by
 obtain⟨mA,O,r,_,_,_⟩:=Zha I.hok e;have hn:mA m=none:=RelO.none_of (by rw[<- l];exact r m);exact Zqw I.kIn O (c.get m) k.at_ k.fn hn h
theorem Zlw {y:V}{u:Value}{Q:Unit->Shared->Prop}(I:Inv X aa σ H s)(e:H a=some (.ins C dx fs))(c:Cls X.K C)(n:NoAttr X.K C f)(hl:fs.length<1000)(ry:RelV y u)
 (h:∀ s',Inv X aa σ (upd H a (.ins C dx (Zdy f y fs))) s'->Q () s'):wpAny (model X.prog X.w) A (setAttr (.ref a) f u) Q E s:=by
 obtain⟨mA,O,r,wi,_,ho⟩:=Zha I.hok e;have hz:(fs.map (·.1)).length<=sizeLine:=by rw[Xad,Xam];omega
 refine Zuc I.kIn O c.sa c.po n.taker c.hd wi hz fun h' O' sb=>h _ ?_;have hd:∃ o,h'.get? dx=some o:=let ⟨o,_,_,e',_⟩:=O'.ns;⟨o,e'⟩
 refine I.write (x:=a) (e:=dx) (by rw[e];exact True.intro) (.inr ho) (fun b q hb z=>(sb.2 b hb).trans z) hd ?_;refine⟨by rw[Zaf O.ne];exact ho,?_,O.ne,O'.obj,_,O'.ns,fun g=>?_,fun g hg=>?_⟩
 . have:=Zf1 f y fs;omega
 . show RelO ((Zdy f y fs).lookup g) (if g=f then some u else mA g);rw[Zfl];by_cases q:g=f
   . rw[if_pos q,if_pos q];exact ry
   . rw[if_neg q,if_neg q];exact r g
 . by_cases q:g=f
   . rw[q];exact(Zfw f y fs).1
   . refine(Zfw f y fs).2 g (wi g fun z=>hg ?_);show(if g=f then some u else mA g)=none;rw[if_neg q];exact z
theorem Inv.made (I:Inv X aa σ H s):Inv X aa σ (upd (upd H s.heap.objs.size (.own (s.heap.objs.size+1))) (s.heap.objs.size+1) (.ins C s.heap.objs.size []))
 { s with heap:=(s.heap.push PySem.W.emptyDict).push (PySem.W.instObj C s.heap.objs.size) }:=by
 have e1:(s.heap.push PySem.W.emptyDict).get? s.heap.objs.size=some PySem.W.emptyDict:=Xau s.heap rfl;have e2:((s.heap.push PySem.W.emptyDict).push (PySem.W.instObj C s.heap.objs.size)).get? (s.heap.objs.size+1)=some (PySem.W.instObj C s.heap.objs.size):=by
  have:=Xau (s.heap.push PySem.W.emptyDict) (o:=PySem.W.instObj C s.heap.objs.size) rfl
  rwa [Heap.size_push] at this
 have e3:(s.heap.push PySem.W.emptyDict).Ns s.heap.objs.size (fun _=>none):=⟨PySem.W.emptyDict,#[],_,e1,rfl,(fun e he=>absurd he (by simp)),fun _=>rfl⟩
 have I1:=I.laid (a:=s.heap.objs.size) (o:=.own (s.heap.objs.size+1)) (h':=s.heap.push PySem.W.emptyDict) (t':=s.toks) (fun b u q=>Xac _ q) (Xae _) ⟨_,e1⟩;refine I1.laid (a:=s.heap.objs.size+1) (o:=.ins C s.heap.objs.size []) (t':=s.toks) (fun b u q=>Xac _ q) (Nat.le_of_eq (Heap.size_push _ _)) ?_;have ne:s.heap.objs.size≠s.heap.objs.size+1:=Xaw (Nat.lt_succ_self _);refine⟨by rw[Zaf ne,Zaa],Nat.zero_le _,ne,e2,fun _=>none,(Heap.Ns1.of_empty e3).at fun o q=>Xac _ q,fun _=>True.intro,fun y hy=>absurd rfl hy⟩
theorem Zpu {prog:Program}{w:World}{env:Env}{e:Expr}{f:Str}{pos:Pos}{s:Shared}{Q:Value->Shared->Prop}(hb:attributeBase e f env (eval e env)=eval e env)
 (h:wpAny (model prog w) A (eval e env) (fun o s₁=>wpAny (model prog w) A (getAttr o f true) Q E s₁) E s):wpAny (model prog w) A (eval (.Attribute e f pos) env) Q E s:=
 Attribute_any_ h (by rw[arm_eval_Attribute,hb])
end
def tFld (K:W.Frag)(ta:TE)(f:Str):TE:=fun σ H Q=>ta σ H fun x H1=>∃ a C dx fs v,x = .ref a/\H1 a=some (.ins C dx fs)/\Cls K C/\NoAttr K C f/\fs.lookup f=some v/\Q v H1
def sFld (K:W.Frag)(ta tv:TE)(f:Str):TS:=fun D σ H=>tv σ H fun y H1=>ta σ H1 fun x H2=>∃ a C dx fs,x = .ref a/\H2 a=some (.ins C dx fs)/\Cls K C/\NoAttr K C f/\fs.length<1000/\
 D.nx σ (upd H2 a (.ins C dx (Zdy f y fs)))
section
variable {X:Cx}{o e value:Expr}{f:Str}{pos pos' tpos:Pos}{ta tv:TE}
theorem Za1 (he:PE X e ta)(hb:attributeBase e f X.env (eval e X.env)=eval e X.env):PE X (.Attribute e f pos) (tFld X.K ta f):=by
 intro aa s σ H Q I h;refine Zpu hb (thn (he aa s σ H _ I h) fun u s1 hz=>?_);obtain⟨x,H1,I1,rx,a,C,dx,fs,v,ex,ea,c,n,l,q⟩:=hz;subst ex;obtain rfl:u=Value.ref a:=rx;exact Zmf I1 ea c n l fun u' s2 I2 ru=>⟨v,H1,I2,ru,q⟩
theorem Zej (ha:PE X o ta)(hv:PE X value tv)(hs:swapsWith value (some (.Attribute o f pos')) pos.line X.env=pure false):PS X (.Assign [.Attribute o f pos'] value pos) (sFld X.K ta tv f):=by
 intro aa s σ H D I h;refine plainObj_wpAny_Assign_Attribute (thn (hv aa s σ H _ I h) fun u s1=>ex5 fun y H1 I1 ry q=>thn (ha aa s1 σ H1 _ I1 q) fun ov s2 hz=>?_) hs;obtain⟨x,H2,I2,rx,a,C,dx,fs,ex,ea,c,n,l,q2⟩:=hz;subst ex;obtain rfl:ov=Value.ref a:=rx;exact Zlw I2 ea c n l ry fun s3 I3=>⟨σ,_,I3,q2⟩
end
section
variable {X:Cx}{aa:List (Addr×Obj)}{σ:St}{H:Hp}{s:Shared}{A:Around}{E:Value->Shared->Prop}{Q:Value->Shared->Prop}{c:Value}{b:Bool}
inductive Zma (K:W.Frag) (H:Hp):V->Value->Prop where
 | non:Zma K H .non (.type "NoneType")
 | bl (x:Bool):Zma K H (.bl x) (.type "bool")
 | int (i:Int):Zma K H (.int i) (.type "int")
 | str (x:Str):Zma K H (.str x) (.type "str")
 | flt (x:UInt64):Zma K H (.flt x) (.type "float")
 | lst {a:Addr}{xs:List V}(e:H a=some (.lst xs)):Zma K H (.ref a) (.type "list")
 | frz {a:Addr}{o:Obj}{xs:List V}(e:H a=some (.frz o (.lst xs))):Zma K H (.ref a) (.type "list")
 | tup {a:Addr}{xs:List V}(e:H a=some (.tup xs)):Zma K H (.ref a) (.type "tuple")
 | dK {a:Addr}{kvs:List (Key×V)}(e:H a=some (.dK kvs)):Zma K H (.ref a) (.type "dict")
 | dT {a:Addr}{kvs:List (List Key×V)}(e:H a=some (.dT kvs)):Zma K H (.ref a) (.type "dict")
 | ins {a C dx:Addr}{fs:List (Str×V)}(e:H a=some (.ins C dx fs)) (cl:Cls K C) (ha:W.findIn K (.ref C) "__class__" = some (some (.builtin "object.__class__")))
  (hn:PySem.W.specialIn K (.builtin "object.__class__") "__get__" = some (some (.builtin "getset_descriptor.__get__")))(htk:PySem.W.takesIn K (.builtin "object.__class__")=some true)
  (hm:PySem.W.mroIn K C (.type "object")=some true):Zma K H (.ref a) (.ref C)
theorem Zow {x:V}{u t:Value}(I:Inv X aa σ H s)(rx:RelV x u)(ty:Zma X.K H x t)(e:W.kitOne X.K t c=some b)(h:∀ tk,Q (.bool b) { s with toks:=tk }) :
 wpAny (model X.prog X.w) A (call (.builtin "isinstance") [u,c]) Q E s:=by
 cases ty with
 | non=>cases(show u=Value.none from rx);exact Xbj PySem.W.kitx_none I.kIn True.intro e (fun z=>nomatch z) h
 | bl y=>cases(show u=Value.bool y from rx);exact Xbj PySem.W.kitx_bool I.kIn True.intro e (fun z=>nomatch z) h
 | int i=>obtain⟨t,q⟩:=(show ∃ t,u=Value.int i t from rx);cases q;exact Xbj PySem.W.kitx_int I.kIn True.intro e (fun z=>nomatch z) h
 | str y=>obtain⟨t,q⟩:=(show ∃ t,u=Value.str y t from rx);cases q;exact Xbj PySem.W.kitx_str I.kIn True.intro e (fun z=>nomatch z) h
 | flt y=>obtain⟨t,q⟩:=(show ∃ t,u=Value.float y t from rx);cases q;exact Xbj PySem.W.kitx_float I.kIn True.intro e (fun z=>nomatch z) h
 | @lst a xs ea=>
  cases(show u=Value.ref a from rx)
  obtain⟨_,_,n,_,h1⟩:=(show ObjOk X.prog X.w H s.heap a (.lst xs) from I.hok a _ ea)
  exact Xbj PySem.W.kitx_list I.kIn ⟨_,h1,rfl⟩ e (fun z=>nomatch z) h
 | @frz a ob xs ea=>
  cases(show u=Value.ref a from rx)
  obtain⟨_,_,_,n,_,h1⟩:=(show ObjOk X.prog X.w H s.heap a (.frz ob (.lst xs)) from I.hok a _ ea)
  exact Xbj PySem.W.kitx_list I.kIn ⟨_,h1,rfl⟩ e (fun z=>nomatch z) h
 | @tup a xs ea=>
  cases(show u=Value.ref a from rx)
  obtain⟨_,_,_,p⟩:=(show ObjOk X.prog X.w H s.heap a (.tup xs) from I.hok a _ ea)
  obtain⟨o,h1,h2,_⟩:=p;exact Xbj PySem.W.kitx_tuple I.kIn ⟨o,h1,h2⟩ e (fun z=>nomatch z) h
 | @dK a kvs ea=>
  cases(show u=Value.ref a from rx)
  obtain⟨_,_,vs,_,p⟩:=(show ObjOk X.prog X.w H s.heap a (.dK kvs) from I.hok a _ ea)
  obtain⟨o,es,ep,h1,h2,_⟩:=p;exact Xbj PySem.W.kitx_dict I.kIn ⟨o,h1,h2.1⟩ e (fun z=>nomatch z) h
 | @dT a kvs ea=>
  cases(show u=Value.ref a from rx)
  obtain⟨_,_,xs,_,o,es,ep,h1,h2,_⟩:=(show ObjOk X.prog X.w H s.heap a (.dT kvs) from I.hok a _ ea)
  exact Xbj PySem.W.kitx_dict I.kIn ⟨o,h1,h2.1⟩ e (fun z=>nomatch z) h
 | @ins a C dx fs ea cl ha hn htk hm=>
  cases(show u=Value.ref a from rx)
  obtain⟨mA,O,_⟩:=Zha I.hok ea;obtain⟨od,J,_⟩:=O.look;exact Xbj (PySem.W.kitx_own (cl.get _) cl.hd ha hn htk hm) I.kIn J e (fun z=>nomatch z) h
end
structure Room (k:Nat)(A:Around):Prop where
 hd:A.handled=none
 dp:A.depth+3 * k+5<recursionLimit
 un:A.units+16 * k+200<cLine
theorem Room.mono {j k:Nat}{A:Around}(r:Room k A)(h:j<=k):Room j A:=⟨r.hd,by have:=r.dp;omega,by have:=r.un;omega⟩
theorem Room.m {j k:Nat}{A:Around}(h:Room k A)(e:j<=k:=by first | decide | omega):Room j A:=h.mono e
theorem Room.deeper {k:Nat}{A:Around}(r:Room (k+1) A)(env:Env):Room k (A.deeper env):=
 ⟨r.hd,by have:=r.dp;show A.depth+1+3 * k+5<_;omega,by have:=r.un;show A.units+3+16 * k+200<_;omega⟩
theorem Zgm {A:Around}{C:Addr}{us:List Value}{kw:List (Str×Value)}:(A.under (.builtin "type.__call__" ⟨.ref C :: us,kw⟩)).depth=A.depth+1:=by
 first | rfl | simp[Around.under,Code.weight,Code.isCreation,Code.isGuard,Code.isCaller,Code.frames,Code.isFrame,guardIds]
theorem Zgx {A:Around}{C:Addr}{us:List Value}{kw:List (Str×Value)}:(A.under (.builtin "type.__call__" ⟨.ref C :: us,kw⟩)).units=A.units+1:=by
 first | rfl | simp[Around.under,Code.cUnits,Code.frames,Code.isFrame]
theorem Room.make {k:Nat}{A:Around}(r:Room (k+1) A)(C:Addr)(us:List Value)(kw:List (Str×Value)):Room k (A.under (.builtin "type.__call__" ⟨.ref C :: us,kw⟩)):=
 ⟨r.hd,by have:=r.dp;rw[Zgm];omega,by have:=r.un;rw[Zgx];omega⟩
theorem Room.depth {k:Nat}{A:Around}(r:Room k A):A.depth<recursionLimit:=by have:=r.dp;omega
theorem Room.units {k:Nat}{A:Around}(r:Room k A):A.units+64<cLine:=by have:=r.un;omega
def Zl4:TA:=fun _ H Q=>Q [] H
def Zei (ta:TE)(tr:TA):TA:=fun σ H Q=>ta σ H fun x H1=>tr σ H1 fun xs H2=>Q (x :: xs) H2
section
variable {X:Cx}{e:Expr}{es:List Expr}{te:TE}{t:TA}{pos:Pos}
theorem Zbl:PA X [] Zl4:=fun _ _ _ _ H Q I h=>Calls.spliced_nil ⟨[],H,I,.nil,h⟩
theorem Zbr (ha:PE X e te)(hr:PA X es t)(hs:starEach (e :: es) X.env=(false,eval e X.env) :: starEach es X.env:=by rfl):PA X (e :: es) (Zei te t):=by
 intro pos aa s σ H Q I h;rw[hs];show wpAny _ _ (spliced ((false,eval e X.env) :: backTo pos (starEach es X.env))) _ _ s;refine Calls.spliced_cons (thn (ha aa s σ H _ I h) fun u s1=>ex5 fun x H1 I1 r1 q1=>?_);exact thn (hr pos aa s1 σ H1 _ I1 q1) fun us s2=>ex5 fun xs H2 I2 r2 q2=>⟨x :: xs,H2,I2,.cons r1 r2,q2⟩
def tTup (t:TA):TE:=fun σ H Q=>t σ H fun xs H1=>xs.length<=sizeLine/\∀ p,H1 p=none->Q (.ref p) (upd H1 p (.tup xs))
def tLst (t:TA):TE:=fun σ H Q=>t σ H fun xs H1=>xs.length<=sizeLine/\∀ p,H1 p=none->Q (.ref p) (upd H1 p (.lst xs))
abbrev SE1 (X:Cx)(e:Expr)(es:List Expr):Prop:=starEach (e :: es) X.env=(false,eval e X.env) :: starEach es X.env
theorem pa1 {a:Expr}{ta:TE}(p:PE X a ta)(h:SE1 X a []:=by rfl):PA X [a] (Zei ta Zl4):=Zbr p Zbl h
theorem pa2 {a b:Expr}{ta tb:TE}(p:PE X a ta)(q:PE X b tb)(h:SE1 X a [b]:=by rfl)(i:SE1 X b []:=by rfl):PA X [a,b] (Zei ta (Zei tb Zl4)):=Zbr p (pa1 q i) h
theorem pa3 {a b c:Expr}{ta tb tc:TE}(p:PE X a ta)(q:PE X b tb)(r:PE X c tc)(h:SE1 X a [b,c]:=by rfl)(i:SE1 X b [c]:=by rfl)(j:SE1 X c []:=by rfl):PA X [a,b,c] (Zei ta (Zei tb (Zei tc Zl4))):=Zbr p (pa2 q r i j) h
theorem pa4 {a b c d:Expr}{ta tb tc td:TE}(p:PE X a ta)(q:PE X b tb)(r:PE X c tc)(z:PE X d td)(h:SE1 X a [b,c,d]:=by rfl)(i:SE1 X b [c,d]:=by rfl)(j:SE1 X c [d]:=by rfl)(k:SE1 X d []:=by rfl):PA X [a,b,c,d] (Zei ta (Zei tb (Zei tc (Zei td Zl4)))):=Zbr p (pa3 q r z i j k) h
theorem Zbw {x1} (h:PA X es t):PE X (.Tuple es x1 pos) (tTup t):=by
 intro aa s σ H Q I hq;refine wpAny_Tuple_spliced (thn (h pos aa s σ H _ I hq) fun us s1 ⟨xs,H1,I1,r,z,q⟩=>⟨by rw[<- r.length];exact z,?_⟩);have hf:H1 s1.heap.objs.size=none:=I1.hok.fresh (Xae _);refine⟨.ref s1.heap.objs.size,upd H1 s1.heap.objs.size (.tup xs),I1.laid (t':=s1.toks) (fun b u e=>Xac _ e) (Xae _) ?_,rfl,q _ hf⟩;exact⟨z,us,r,⟨_,Xau _ rfl,rfl,_,rfl⟩⟩
theorem Zau (h:PA X es t):PE X (.List es pos) (tLst t):=by
 intro aa s σ H Q I hq;refine wpAny_List_spliced (thn (h pos aa s σ H _ I hq) fun us s1 ⟨xs,H1,I1,r,z,q⟩=>⟨by rw[<- r.length];exact z,?_⟩);have hf:H1 s1.heap.objs.size=none:=I1.hok.fresh (Xae _);refine⟨.ref s1.heap.objs.size,upd H1 s1.heap.objs.size (.lst xs),I1.laid (t':=s1.toks) (fun b u e=>Xac _ e) (Xae _) ?_,rfl,q _ hf⟩;exact⟨z,us,0,r,Xau _ rfl⟩
end
abbrev Sp:=List V->Hp->VK->XK->Prop
abbrev CXT:=List Env->Hp->Shared->XK->Value->Shared->Prop
structure Env0 (P:Program)(w:World)(K:W.Frag)(mg:Str->Option Value)(base:Heap)(A:Around)(outer:List Env)(s:Shared)(H:Hp):Prop where
 frames:A.frames=some outer
 mod:Mod K mg base
 bs:∀ b o,base.get? b=some o->s.heap.get? b=some o/\H b=none
 bsz:base.objs.size<=s.heap.objs.size
 funs:s.heap.FunFrames base outer
 frf:∀ b∈frs outer,H b=none
 hok:HOk P w H s.heap
 bare:AllBare s.gens
def CE (outer:List Env)(P:Program)(w:World)(H:Hp)(s:Shared)(Q:VK)(u:Value)(s':Shared):Prop:=
 ∃ v H',s'.os=s.os/\AllBare s'.gens/\Un (frs outer) [] H H' s.heap s'.heap/\HOk P w H' s'.heap/\RelV v u/\Q v H'
def CR (CX:CXT)(outer:List Env)(P:Program)(w:World)(H:Hp)(s:Shared)(Q:VK)(E:XK)(r:Result)(s':Shared):Prop:=
 match r with
 | .ok (.ret u)=>CE outer P w H s Q u s'
 | .ok _=>False
 | .error e=>CX outer H s E e s'
structure FnOk (P:Program)(w:World)(K:W.Frag)(mg:Str->Option Value)(base:Heap)(CX:CXT)(k:Nat)(f:Addr)(fd:FuncData)(ps:List Str)(sp:Sp):Prop where
 len:∀ vs H Q E,sp vs H Q E->vs.length=ps.length
 run:∀ (A:Around) (outer:List Env) (s:Shared) (H:Hp) (args:Args) (us:List Value) (vs:List V) (Q:VK) (E:XK),Room k A->Env0 P w K mg base A outer s H->BindsTo s fd args (ps.zip us)->Vals vs us->sp vs H Q E->
  codeAny (model P w) A (.call (.ref f) args) (CR CX outer P w H s Q E) s
theorem FnOk.mono {CX:CXT}{j k:Nat}{f:Addr}{fd:FuncData}{ps:List Str}{sp:Sp}(F:FnOk P w K mg base CX j f fd ps sp)(h:j<=k) :
 FnOk P w K mg base CX k f fd ps sp:=⟨F.len,fun A outer s H args us vs Q E hr=>F.run A outer s H args us vs Q E (hr.mono h)⟩
theorem Env0.make {A:Around}{outer:List Env}{s:Shared}{H:Hp}(e:Env0 P w K mg base A outer s H)(C:Addr)(us:List Value)(kw:List (Str×Value)) :
 Env0 P w K mg base (A.under (.builtin "type.__call__" ⟨.ref C :: us,kw⟩)) outer s H:=⟨by first | exact e.frames | (simpa [Around.under,Code.envs,Code.isFrame,pushEnvs] using e.frames),e.mod,e.bs,e.bsz,e.funs,e.frf,e.hok,e.bare⟩
section
variable {X:Cx}{aa:List (Addr×Obj)}{σ:St}{H:Hp}{s s':Shared}
theorem Inv.env0 (I:Inv X aa σ H s):Env0 X.prog X.w X.K X.mg X.base X.A X.stack s H:=
 ⟨I.ok.frames,I.ok.mod,I.bs,Xan I.ok.bsz I.sz,I.stack,I.stkFree,I.hok,I.bare⟩
theorem Inv.after {Q:VK}{u:Value}(I:Inv X aa σ H s)(h:CE X.stack X.prog X.w H s Q u s'):EP X aa σ Q u s':=by
 obtain⟨v,H',os,bare,un,hok,r,q⟩:=h;obtain⟨hh,g,d,t,os'⟩:=s';obtain rfl:os'=s.os:=os;exact⟨v,H',I.call (h':=hh) (g':=g) (d':=d) (t':=t) (ch:=[]) un hok bare (fun b z=>absurd z (by simp)),r,q⟩
end
def Zl5 (sp:Sp)(dvs:List V)(E:XK)(t:TA):TE:=fun σ H Q=>t σ H fun vs H1=>sp (vs++dvs) H1 Q E
def Zge (C:Addr)(m:Str)(sp:Sp)(dvs:List V)(E:XK)(ta:TE)(t:TA):TE:=fun σ H Q=>ta σ H fun x H1=>∃ a dx fs,x = .ref a/\H1 a=some (.ins C dx fs)/\fs.lookup m=none/\
 t σ H1 fun vs H2=>sp (x :: (vs++dvs)) H2 Q E
def Zug (C:Addr)(sp:Sp)(dvs:List V)(E:XK)(t:TA):TE:=fun σ H Q=>t σ H fun vs H1=>∀ x dx,H1 x=none->H1 dx=none->dx≠x->
 sp (.ref x :: (vs++dvs)) (upd (upd H1 dx (.own x)) x (.ins C dx [])) (fun v H2=>v = .non/\Q (.ref x) H2) E
def Binds (K:W.Frag)(fd:FuncData)(ps:List Str)(ds:List Value):Prop:=
 ∀ (s:Shared) (us:List Value),K.In s.heap->(us++ds).length=ps.length->BindsTo s fd ⟨us,[]⟩ (ps.zip (us++ds))
theorem Binds.all {K:W.Frag}{fd:FuncData}{ps:List Str}(h:∀ us:List Value,us.length=ps.length->bindArgs fd ⟨us,[]⟩=pure (ps.zip us)):Binds K fd ps []:=fun s us _ hl=>by
 rw[Xba] at hl ⊢;exact .of_eq (h us hl)
def Zbu (CX:CXT)(X:Cx)(E:XK):Prop:=∀ (aa:List (Addr×Obj))(σ:St)(H:Hp)(s:Shared)(e:Value)(s':Shared),Inv X aa σ H s->CX X.stack H s E e s'->X.xe e s'
section
variable {X:Cx}{CX:CXT}{k:Nat}{f C:Addr}{fd:FuncData}{ps:List Str}{sp:Sp}{dvs:List V}{ds:List Value}{E:XK}{x m:Str}{p pos ae:Pos}{e o:Expr}{es:List Expr}{ta:TE}{t:TA}
theorem Zgr {aa:List (Addr×Obj)}{σ:St}{H:Hp}{s:Shared}{Q:VK}{us:List Value}{vs:List V}(F:FnOk X.prog X.w X.K X.mg X.base CX k f fd ps sp)(hr:Room k X.A)(hb:Binds X.K fd ps ds)(hd:Vals dvs ds)(hx:Zbu CX X E)
 (I:Inv X aa σ H s)(r:Vals vs us)(h:sp (vs++dvs) H Q E):wpAny (model X.prog X.w) X.A (call (.ref f) us) (EP X aa σ Q) X.xe s:=by
 have r2:Vals (vs++dvs) (us++ds):=r.append hd;have hl:(us++ds).length=ps.length:=by rw[<- r2.length];exact F.len _ _ _ _ h
 refine Xb5 (codeAny_mono (F.run X.A X.stack s H ⟨us,[]⟩ (us++ds) (vs++dvs) Q E hr I.env0 (hb s us I.kIn hl) r2 h) fun r s' hq=>?_);cases r with
 | error e=>exact hx aa σ H s e s' I hq
 | ok fl=>
  cases fl with
  | ret u=>exact I.after hq
  | next=>exact False.elim hq
  | brk=>exact False.elim hq
  | cont=>exact False.elim hq
abbrev NDa (x:Str):Prop:=(x == ("__debug__" : Str))=false
abbrev SEa (X:Cx)(e:Expr)(es:List Expr):Prop:=starEach (e :: es) X.env=(false,eval e X.env) :: starEach es X.env
abbrev SPa (X:Cx)(es:List Expr)(p:Pos):Prop:=(backTo p (starEach es X.env)).any (·.1)=false
abbrev MCa (X:Cx)(o:Expr)(m:Str)(as:List Expr)(pl:Sem Bool)(q p:Pos):Prop:=eval (.Call (.Attribute o m q) as [] p) X.env=(do
 let ov <- eval o X.env
 standAt q.atName
 let (f,first) <- holding [ov] (getMethod ov m pl)
 callWith p f first (backTo p (starEach as X.env)) (backToKw p (keywordEach [] X.env)))
theorem Zj0 (F:FnOk X.prog X.w X.K X.mg X.base CX k f fd ps sp)(hr:Room k X.A)(hg:Gl X x)(hm:X.mg x=some (.ref f))(hk:W.keepIn X.K (.ref f)=true)(hb:Binds X.K fd ps ds)(hd:Vals dvs ds)(hx:Zbu CX X E)
 (ha:PA X (e :: es) t)(hdb:NDa x:=by decide)(he:SEa X e es:=by rfl)(hpl:SPa X es pos:=by rfl) :
 PE X (.Call (.Name x p) (e :: es) [] pos) (Zl5 sp dvs E t):=by
 intro aa s σ H Q I h;refine Xbp (Zcp I hg hm ?_ hdb);refine Xbq (h₀:=X.base) I.ok.mod.kin hk (thn (ha pos aa s σ H _ I h) fun us s1=>ex5 fun vs H1 I1 r q=>⟨I1.kIn,?_⟩) he hpl;exact Zgr F hr hb hd hx I1 r q
theorem Zq5 (F:FnOk X.prog X.w X.K X.mg X.base CX k f fd ps sp)(hr:Room k X.A)(hg:Gl X x)(hm:X.mg x=some (.ref f))(hk:W.keepIn X.K (.ref f)=true)(hb:Binds X.K fd ps ds)(hd:Vals dvs ds)(hx:Zbu CX X E)
 (hdb:NDa x:=by decide):PE X (.Call (.Name x p) [] [] pos) (Zl5 sp dvs E Zl4):=by
 intro aa s σ H Q I h;refine Xbp (Zcp I hg hm ?_ hdb);exact PySem.W.callWith_K0 I.kIn hk (Zgr (us:=[]) F hr hb hd hx I .nil h)
theorem Zf5 {pl:Sem Bool}(he:PE X o ta)(c:Cls X.K C)(hm:Zmq X.K C m f)(F:FnOk X.prog X.w X.K X.mg X.base CX k f fd ps sp)(hr:Room k X.A)(hb:Binds X.K fd ps ds)(hd:Vals dvs ds)(hx:Zbu CX X E)(ha:PA X (e :: es) t)
 (hst:SEa X e es:=by rfl)(hpl:SPa X es pos:=by rfl)
 (ht:MCa X o m (e :: es) pl ae pos:=by rfl) :
 PE X (.Call (.Attribute o m ae) (e :: es) [] pos) (Zge C m sp dvs E ta t):=by
 intro aa s σ H Q I h;refine Xby (pl:=pl) (thn (he aa s σ H _ I h) fun u s1 hz=>?_) ht;obtain⟨x,H1,I1,rx,a,dx,fs,ex,ea,l,q⟩:=hz;subst ex;obtain rfl:u=Value.ref a:=rx;refine Zc7 I1 ea c hm l ?_;refine Xbq (first:=[.ref a]) (h₀:=X.base) I.ok.mod.kin hm.kp (thn (ha pos aa s1 σ H1 _ I1 q) fun us s2=>ex5 fun vs H2 I2 r q2=>⟨I2.kIn,?_⟩) hst hpl;exact Zgr (us:=.ref a :: us) (vs:=.ref a :: vs) F hr hb hd hx I2 (.cons rfl r) q2
theorem Zla {pl:Sem Bool}(he:PE X o ta)(c:Cls X.K C)(hm:Zmq X.K C m f)(F:FnOk X.prog X.w X.K X.mg X.base CX k f fd ps sp)(hr:Room k X.A)(hb:Binds X.K fd ps ds)(hd:Vals dvs ds)(hx:Zbu CX X E)
 (ht:MCa X o m [] pl ae pos:=by rfl) :
 PE X (.Call (.Attribute o m ae) [] [] pos) (Zge C m sp dvs E ta Zl4):=by
 intro aa s σ H Q I h;refine Xby (pl:=pl) (thn (he aa s σ H _ I h) fun u s1 hz=>?_) ht;obtain⟨x,H1,I1,rx,a,dx,fs,ex,ea,l,q⟩:=hz;subst ex;obtain rfl:u=Value.ref a:=rx;refine Zc7 I1 ea c hm l ?_;exact PySem.W.callWith_K0 (first:=[.ref a]) I1.kIn hm.kp (Zgr (us:=[.ref a]) (vs:=[.ref a]) F hr hb hd hx I1 (.cons rfl .nil) q)
structure Mk (K:W.Frag)(C f:Addr):Prop where
 makes:PySem.W.makesIn K C=true
 init:W.findIn K (.ref C) "__init__" = some (some (.ref f))
 fn:PySem.W.isFn K (.ref f)=true
 kp:W.keepIn K (.ref C)=true
theorem Zsm {aa:List (Addr×Obj)}{σ:St}{H:Hp}{s:Shared}{Q:VK}{us:List Value}{vs:List V}(M:Mk X.K C f)(F:FnOk X.prog X.w X.K X.mg X.base CX k f fd ps sp)(hr:Room (k+1) X.A)(hb:Binds X.K fd ps ds)(hd:Vals dvs ds)
 (hx:Zbu CX X E)(I:Inv X aa σ H s)(r:Vals vs us)
 (h:∀ x dx,H x=none->H dx=none->dx≠x->sp (.ref x :: (vs++dvs)) (upd (upd H dx (.own x)) x (.ins C dx [])) (fun v H2=>v = .non/\Q (.ref x) H2) E) :
 wpAny (model X.prog X.w) X.A (call (.ref C) us) (EP X aa σ Q) X.xe s:=by
 have hq:=h (s.heap.objs.size+1) s.heap.objs.size (I.hok.fresh (Nat.le_succ _)) (I.hok.fresh (Xae _)) (Xaw (Nat.lt_succ_self _));have I2:=Inv.made (C:=C) I;have r2:Vals (V.ref (s.heap.objs.size+1) :: (vs++dvs)) (Value.ref (s.heap.objs.size+1) :: (us++ds)):=.cons rfl (r.append hd);have hl:(Value.ref (s.heap.objs.size+1) :: us++ds).length=ps.length:=by
  have e:=r2.length;rw[F.len _ _ _ _ hq] at e;exact e.symm
 refine Xb5 (Zsf (f:=f) I.kIn M.makes M.init (beq_iff_eq.mp M.fn) (codeAny_mono (F.run _ X.stack _ _ ⟨Value.ref (s.heap.objs.size+1) :: us,[]⟩ (Value.ref (s.heap.objs.size+1) :: (us++ds)) _ _ E (hr.make C us [])
  (I2.env0.make C us []) (hb _ (Value.ref (s.heap.objs.size+1) :: us) I2.kIn hl) r2 hq) fun r s' hq'=>?_))
 cases r with
 | error e=>exact hx aa σ _ _ e s' I2 hq'
 | ok fl=>
  cases fl with
  | ret u=>
   obtain⟨v,H',I3,rv,ev,q3⟩:=I2.after hq';subst ev;exact⟨rv,⟨V.ref (s.heap.objs.size+1),H',I3,rfl,q3⟩⟩
  | next=>exact False.elim hq'
  | brk=>exact False.elim hq'
  | cont=>exact False.elim hq'
theorem Zg4 (M:Mk X.K C f)(F:FnOk X.prog X.w X.K X.mg X.base CX k f fd ps sp)(hr:Room (k+1) X.A)(hg:Gl X x)(hm:X.mg x=some (.ref C))(hb:Binds X.K fd ps ds)(hd:Vals dvs ds)(hx:Zbu CX X E)
 (ha:PA X (e :: es) t)(hdb:NDa x:=by decide)(he:SEa X e es:=by rfl)(hpl:SPa X es pos:=by rfl) :
 PE X (.Call (.Name x p) (e :: es) [] pos) (Zug C sp dvs E t):=by
 intro aa s σ H Q I h;refine Xbp (Zcp I hg hm ?_ hdb);refine Xbq (h₀:=X.base) I.ok.mod.kin M.kp (thn (ha pos aa s σ H _ I h) fun us s1=>ex5 fun vs H1 I1 r q=>⟨I1.kIn,?_⟩) he hpl;exact Zsm M F hr hb hd hx I1 r q
end
section
variable {X:Cx}{CX:CXT}{k:Nat}{f C:Addr}{fd:FuncData}{ps ks:List Str}{sp:Sp}{E:XK}{x m:Str}{p pos ae kpos:Pos}{e o:Expr}{es:List Expr}{kws:List Keyword}{te ta:TE}{t tk:TA}{nm:Option Str}
variable {g:List Value->List Value->List Value}{gV:List V->List V->List V}
end
structure Zak (N P:List Str)(sc:Scope):Prop where
 kind:sc.kind = .function
 co:sc.isCoroutine=false
 gen:sc.isGenerator=false
 nd:N.Nodup
 pre:N.take P.length=P
 par:∀ x∈P,sc.names.lookup x=some .local\/sc.names.lookup x=some .cell
 nofree:∀ y∈sc.names,y.2≠.free
theorem Ziv {kindOf:Str->Option NameKind}{x:Str}:∀ {binds:List (Str×Value)}{m:Str->Option Value},(∀ v,(x,v)∉binds)->bindL kindOf binds m x=m x
 | [],_,_=>rfl
 | (n,v) :: r,m,h=>by
  unfold bindL;rw[Ziv fun w hw=>h w (Xal _ hw)];split
  . have:x≠n:=by rintro rfl;exact h v Xaz
    simp[this]
  . rfl
theorem Zif {kindOf:Str->Option NameKind}{x:Str}:∀ {binds:List (Str×Value)}{m:Str->Option Value},(∀ v,(x,v)∉binds)->bindC kindOf binds m x=m x
 | [],_,_=>rfl
 | (n,v) :: r,m,h=>by
  unfold bindC;rw[Zif fun w hw=>h w (Xal _ hw)];split
  . rfl
  . have:x≠n:=by rintro rfl;exact h v Xaz
    simp[this]
theorem Zib {kindOf:Str->Option NameKind}{x:Str}{v:Value}:∀ {P:List Str}{vs:List Value}{i:Nat}{m:Str->Option Value},P.Nodup->P[i]? = some x->vs[i]? = some v->kindOf x=some .local->
 bindL kindOf (P.zip vs) m x=some v
 | [],_,_,_,_,h,_,_=>by simp at h
 | _ :: _,[],_,_,_,_,h,_=>by simp at h
 | p :: P,w :: vs,0,m,nd,h1,h2,hk=>by
  simp at h1 h2;subst h1;subst h2;show bindL kindOf ((p,w) :: P.zip vs) m p=_;unfold bindL;rw[Ziv fun v hv=>(List.nodup_cons.mp nd).1 (List.of_mem_zip hv).1,if_pos hk];simp
 | p :: P,w :: vs,i+1,m,nd,h1,h2,hk=>by
  show bindL kindOf ((p,w) :: P.zip vs) m x=_;unfold bindL;exact Zib (i:=i) (List.nodup_cons.mp nd).2 (by simpa using h1) (by simpa using h2) hk
theorem Zij {kindOf:Str->Option NameKind}{x:Str}{v:Value}:∀ {P:List Str}{vs:List Value}{i:Nat}{m:Str->Option Value},P.Nodup->P[i]? = some x->vs[i]? = some v->kindOf x≠some .local->
 bindC kindOf (P.zip vs) m x=some v
 | [],_,_,_,_,h,_,_=>by simp at h
 | _ :: _,[],_,_,_,_,h,_=>by simp at h
 | p :: P,w :: vs,0,m,nd,h1,h2,hk=>by
  simp at h1 h2;subst h1;subst h2;show bindC kindOf ((p,w) :: P.zip vs) m p=_;unfold bindC;rw[Zif fun v hv=>(List.nodup_cons.mp nd).1 (List.of_mem_zip hv).1,if_neg hk];simp
 | p :: P,w :: vs,i+1,m,nd,h1,h2,hk=>by
  show bindC kindOf ((p,w) :: P.zip vs) m x=_;unfold bindC;exact Zij (i:=i) (List.nodup_cons.mp nd).2 (by simpa using h1) (by simpa using h2) hk
noncomputable def Zce (N:List Str) (vs:List V):St:=vs.map some++List.replicate (N.length - vs.length) none
noncomputable def Zc1 (CX:CXT) (P:Program) (w:World) (K:W.Frag) (mg:Str->Option Value) (base:Heap) (N:List Str) (qual:Str) (scope:Scope) (f:Addr) (cd:Value) (A:Around) (outer:List Env) (s:Shared) (H:Hp) (E:XK):Cx where
 prog:=P
 w:=w
 K:=K
 mg:=mg
 base:=base
 A:=A.deeper (envOfC qual scope s.heap.objs.size f cd)
 N:=N
 s₀:=s
 H₀:=H
 env:=envOfC qual scope s.heap.objs.size f cd
 outer:=outer
 stack:=envOfC qual scope s.heap.objs.size f cd :: outer
 ex:=[]
 calm:=true
 fn:=fun _=>true
 pn:=[]
 xe:=fun e s'=>wpAny (model P w) (A.deeper (envOfC qual scope s.heap.objs.size f cd)) (leaving (envOfC qual scope s.heap.objs.size f cd) e) (fun _ s''=>CX outer H s E e s'') (fun e' s''=>CX outer H s E e' s'') s'
theorem Zj5 {sc:Scope}{n:Nat}{x:Str}(h:sc.names.lookup x=some .cell):∃ c,(cellsFrom n sc.names []).lookup x=some c:=by
 have q:=PySem.W.cellsFrom_some sc.names n [] (.inl h);exact Option.isSome_iff_exists.mp q
theorem Zfp {CX:CXT}{P:Program}{w:World}{K:W.Frag}{mg:Str->Option Value}{base:Heap}{N ps:List Str}{qual:Str}{scope:Scope}{f:Addr}{cd:Value}{A:Around}{outer:List Env}{s s1:Shared}{H:Hp}{E:XK}{us:List Value}{vs:List V}
 (S:Zak N ps scope)(hd:A.handled=none)(e0:Env0 P w K mg base A outer s H)(hl:vs.length=ps.length)(r:Vals vs us)
 (x:InCallC s s.heap.objs.size (bindL (envOfC qual scope s.heap.objs.size f cd).kindOf (ps.zip us) fun _=>none) (cellsFrom (s.heap.objs.size+1) scope.names []) (bindC (envOfC qual scope s.heap.objs.size f cd).kindOf (ps.zip us) fun _=>none) s1) :
 Inv (Zc1 CX P w K mg base N qual scope f cd A outer s H E) [] (Zce N vs) H s1:=by
 have hpl:ps.length<=N.length:=by have:=congrArg List.length S.pre;rw[Xav] at this;omega
 obtain⟨h1,tk,rfl,hk⟩:=x.done;have noA:∀ b:Addr,b∉(Zc1 CX P w K mg base N qual scope f cd A outer s H E).ex:=fun b z=>absurd (show b∈([]:List Addr) from z) (by simp);refine⟨⟨e0.mod,S.kind,rfl,rfl,Xae _,fun y z c h1 h2=>?_,fun y hy=>?_,fun y c _ h=>?_,fun _=>hd,Around.frames_deeper e0.frames,.inr ⟨rfl,rfl⟩,fun b z=>absurd z (noA b),e0.bs,e0.bsz,fun b _ _=>noA b,fun b z=>absurd z (noA b),e0.funs,e0.frf⟩,
  rfl,e0.bare,Un.kept hk,⟨_,x.toInCall.ns,fun i y v h1 h2 h3=>?_⟩,fun y c h=>⟨_,x.cell y c h⟩,e0.hok.fresh (Xae _),fun y c h=>?_,fun p hp=>absurd (show p∈([]:List (Addr×Obj)) from hp) (by simp),e0.hok.kept hk,?_⟩
 . exact name_of_addr x.apart (Xbg h1) (Xbg h2)
 . have hy:scope.names.lookup y=some .cell\/scope.names.lookup y=some .free:=hy;rcases hy with hy | hy
   . exact Zj5 hy
   . exact absurd rfl (S.nofree _ (Xbg hy))
 . exact Nat.le_of_lt (x.above y c (Xbg h))
 . have hi:i<vs.length:=by
    unfold Zce at h2;by_cases hi:i<vs.length
    . exact hi
    . rw[Xbv (by simpa using hi)] at h2;rw[List.getElem?_replicate] at h2;split at h2 <;> cases h2
   have ha:vs[i]? = some v:=by
    unfold Zce at h2;rw[List.getElem?_append_left (by simpa using hi),Xas] at h2;cases e:vs[i]? with
    | none=>rw[e] at h2;cases h2
    | some a=>rw[e] at h2;cases h2;rfl
   obtain⟨u,hu,rv⟩:=r.get ha;have hp:ps[i]? = some y:=by
    rw[<- S.pre,List.getElem?_take_of_lt om];exact h1
   have ndP:ps.Nodup:=by rw[<- S.pre];exact S.nd.sublist (List.take_sublist _ _)
   refine⟨u,rv,?_⟩;rcases S.par y (Xa7 hp) with k | k
   . exact .inl ⟨k,Zib ndP hp hu k⟩
   . obtain⟨c,e⟩:=Zj5 (n:=s.heap.objs.size+1) k;refine .inr ⟨.inl k,c,e,?_⟩;have q:=x.cell y c e;rw[Zij ndP hp hu (by show scope.names.lookup y≠_;rw[k];decide)] at q;exact q
 . exact .inl (e0.hok.fresh (Nat.le_of_lt (x.above y c (Xbg h))))
 . unfold Zce;show _=N.length;rw[Xay,Xad,List.length_replicate];omega
theorem Zhf {CX:CXT}{P:Program}{w:World}{K:W.Frag}{mg:Str->Option Value}{base:Heap}{k:Nat}{f:Addr}{name qual:Str}{params:Arguments}{body:List Stmt}{scope:Scope}{dV kV doc pm ad ct oc:Value}{an od:Option Addr}
 {osl:Array (Option Value)}{N ps:List Str}{sp:Sp}(lk:K.lookup f=some ⟨oc,od,.func (W.fnOf name qual params body scope dV kV doc pm an ad ct),osl⟩) (hcd:PySem.W.codeIn K ad qual=true) (S:Zak N ps scope)
 (len:∀ vs H Q E,sp vs H Q E->vs.length=ps.length)
 (ah:∀ (A:Around)(outer:List Env)(s:Shared)(H:Hp)(vs:List V)(Q:VK)(E:XK),Room k (A.deeper (envOfC qual scope s.heap.objs.size f ad))->sp vs H Q E->
  ∃ t,PSs (Zc1 CX P w K mg base N qual scope f ad A outer s H E) body t/\t { nx:=fun _ H'=>Q .non H',rt:=Q } (Zce N vs) H) :
 FnOk P w K mg base CX (k+1) f (W.fnOf name qual params body scope dV kV doc pm an ad ct) ps sp:=by
 refine⟨len,fun A outer s H args us vs Q E hr e0 hb r hsp=>?_⟩;have hl:=len _ _ _ _ hsp;have KX:K.In s.heap:=e0.mod.kin.keeps fun b o e=>(e0.bs b o e).1;have lim:s.heap.NoLimit:=e0.mod.nolimit.keeps fun b o e=>(e0.bs b o e).1;have hkind:∀ y∈ps.zip us,scope.names.lookup y.1=some .local\/(scope.names.lookup y.1=some .cell/\((cellsFrom (s.heap.objs.size+1) scope.names []).lookup y.1).isSome=true):=fun⟨n,v⟩ hy=>by
  rcases S.par n (List.of_mem_zip hy).1 with q | q
  . exact .inl q
  . exact .inr ⟨q,PySem.W.cellsFrom_some _ _ _ (.inl q)⟩
 refine codeAny_call_function hr.depth (KX _ _ lk) rfl S.co S.gen rfl (PySem.W.codeRec_of KX hcd) (hb _ _ _ _ ?_);refine wpAny_newFunctionEnv_cells S.kind hkind fun env he s1 x=>?_;subst he;refine⟨lim.keeps x.toInCall.keep,codeAny_func ?_⟩;obtain⟨t,ht,hq⟩:=ah A outer s H vs Q E (hr.deeper _) hsp;have I:Inv (Zc1 CX P w K mg base N qual scope f ad A outer s H E) [] (Zce N vs) H s1:=Zfp S hr.hd e0 hl r x;refine Xaq (ht [] s1 (Zce N vs) H _ I hq) (fun fl s' hs=>?_) fun e s' hs=>hs;have fin:∀ {σ':St}{H':Hp}{v:V}{u:Value},Inv (Zc1 CX P w K mg base N qual scope f ad A outer s H E) [] σ' H' s'->RelV v u->Q v H'->CE outer P w H s Q u s':=
  fun {σ' H' v u} J rv q=>⟨v,H',J.os,J.bare,J.base,J.hok,rv,q⟩
 cases fl with
 | ret u=>
  obtain⟨v,σ',H',J,rv,q⟩:=hs;exact fin J rv q
 | next=>
  obtain⟨σ',H',J,q⟩:=hs;exact fin (v:=V.non) (u:=Value.none) J rfl q
 | brk=>
  obtain⟨_,_,_,q⟩:=hs;exact False.elim q
 | cont=>
  obtain⟨_,_,_,q⟩:=hs;exact False.elim q
section
variable {X:Cx}{x:Str}{p pos:Pos}{e:Expr}{es:List Expr}{t:TA}{id T:String}{r:List V->Hp->VK->Prop}
def tCB (r:List V->Hp->VK->Prop)(t:TA):TE:=fun σ H Q=>t σ H fun vs H1=>r vs H1 Q
theorem Zai (hc:Zd8 X (.builtin id) r)(hg:Gl X x)(hm:X.mg x=none)(hv:bootBuiltins x=some (.builtin id))(ha:PA X (e :: es) t)(hn:x≠"__name__":=by decide)(hdb:NDa x:=by decide)
 (he:SEa X e es:=by rfl)(hpl:SPa X es pos:=by rfl):PE X (.Call (.Name x p) (e :: es) [] pos) (tCB r t):=by
 intro aa s σ H Q I h;refine Xbp (Zii I hg hm hv ?_ hn hdb);exact PyProof.Rows.callWith_builtin1 (thn (ha pos aa s σ H _ I h) fun us s1=>ex5 fun vs H1 I1 r1 q1=>hc aa s1 σ H1 vs us Q I1 r1 q1) he hpl
theorem Zdk (hc:Zd8 X (.type T) r)(hg:Gl X x)(hm:X.mg x=none)(hv:bootBuiltins x=some (.type T))(ha:PA X (e :: es) t)(hn:x≠"__name__":=by decide)(hdb:NDa x:=by decide)
 (he:SEa X e es:=by rfl)(hpl:SPa X es pos:=by rfl):PE X (.Call (.Name x p) (e :: es) [] pos) (tCB r t):=by
 intro aa s σ H Q I h;refine Xbp (Zii I hg hm hv ?_ hn hdb);exact PyProof.Rows.callWith_type1 (thn (ha pos aa s σ H _ I h) fun us s1=>ex5 fun vs H1 I1 r1 q1=>hc aa s1 σ H1 vs us Q I1 r1 q1) he hpl
end
end L2
namespace HT
open PySem PyProof.Rows
section
open PySem.SeqAt
open PySem.AutoSeq1 (wpAny_loadPart')
open PySem.MeetsSeq PySem.MeetsSeq2 PySem.MeetsSeq3
end
section
variable {prog:Program}{w:World}{A:Around}{E:Value->Shared->Prop}{s:Shared}
noncomputable def sIx (n d:Nat):Option Int->Nat
 | none=>d
 | some v=>if v<0 then(v+(n:Int)).toNat else min v.toNat n
theorem sIx_none (n d:Nat):sIx n d none=d:=rfl
theorem sIx_nat (n d k:Nat):sIx n d (some (k:Int))=min k n:=by
 show(if (k:Int)<0 then((k:Int)+(n:Int)).toNat else min (k:Int).toNat n)=min k n;rw[if_neg om,Int.toNat_natCast]
end
end HT
namespace L2
open PySem PySem.Spec PyProof.Rows
variable {P:Program}{w:World}{K:W.Frag}{mg:Str->Option Value}{base:Heap}
abbrev TO:=St->Hp->(Option Int->Hp->Prop)->Prop
def PO (X:Cx)(e:Option Expr)(t:TO):Prop:=
 ∀ (aa:List (Addr×Obj)) (s:Shared) (σ:St) (H:Hp) (Q:Option Int->Hp->Prop),Inv X aa σ H s->t σ H Q->
  wpAny (model X.prog X.w) X.A (evalPart e X.env) (fun u s'=>∃ o H',Inv X aa σ H' s'/\IsPart u o/\Q o H') X.xe s
def Zur:TO:=fun _ H Q=>Q none H
def tPart (t:TE):TO:=fun σ H Q=>t σ H fun x H1=>∃ i,x = .int i/\Q (some i) H1
section
variable {X:Cx}{e:Expr}{te:TE}{lo hi:Option Expr}{tl th:TO}{pos p2:Pos}
theorem Za6:PO X none Zur:=by
 intro aa s σ H Q I h;rw[evalPart_none];exact Xak ⟨none,H,I,.none,h⟩
theorem Za5 (h:PE X e te):PO X (some e) (tPart te):=by
 intro aa s σ H Q I hw;rw[evalPart_some];refine thn (h aa s σ H _ I hw) fun u s1=>ex5 fun x H1 I1 r1 q1=>?_;obtain⟨i,rfl,q⟩:=q1;obtain⟨t,rfl⟩:=r1;exact⟨some i,H1,I1,.int i t,q⟩
def SlR (X:Cx)(r:V->Option Int->Option Int->Hp->VK->Prop):Prop:=
 ∀ (aa:List (Addr×Obj)) (s:Shared) (σ:St) (H:Hp) (x:V) (v vl vu:Value) (lo hi:Option Int) (sl:Addr) (Q:VK),Inv X aa σ H s->RelV x v->s.heap.IsSliceOf sl vl vu .none->IsPart vl lo->IsPart vu hi->r x lo hi H Q->
  ∃ T id,typeLookup (.type T) "__getitem__" = pure (some (.builtin id))/\s.TypeIs v T/\wpAny (model X.prog X.w) X.A (getItem v (.ref sl)) (EP X aa σ Q) X.xe s
def tSl (r:V->Option Int->Option Int->Hp->VK->Prop)(te:TE)(tl th:TO):TE:=fun σ H Q=>te σ H fun x H1=>tl σ H1 fun l H2=>th σ H2 fun u H3=>r x l u H3 Q
theorem Zay {r:V->Option Int->Option Int->Hp->VK->Prop}(hr:SlR X r)(he:PE X e te)(hl:PO X lo tl)(hu:PO X hi th):PE X (.Subscript e (.Slice lo hi none p2) pos) (tSl r te tl th):=by
 intro aa s σ H Q I h;refine Subscript_ (thn (he aa s σ H _ I h) fun v s1=>ex5 fun x H1 I1 r1 q1=>?_);refine wpAny_Slice (thn (hl aa s1 σ H1 _ I1 q1) fun vl s2=>ex5 fun l H2 I2 pl q2=>thn (hu aa s2 σ H2 _ I2 q2) fun vu s3=>ex5 fun u H3 I3 pu q3=>?_);rw[evalPart_none];refine Xak ?_;have I4:Inv X aa σ H3 { s3 with heap:=s3.heap.push { cls:=.type "slice",data:=.fields #[vl,vu,.none] } }:=I3.kept (t':=s3.toks) fun b ob q=>Xac _ q;obtain⟨T,id,hT,ht,hg⟩:=hr aa { s3 with heap:=s3.heap.push { cls:=.type "slice",data:=.fields #[vl,vu,.none] } } σ H3 x v vl vu l u s3.heap.objs.size Q I4 r1 (Heap.IsSliceOf.new ..) pl pu q3;show wpAny (model X.prog X.w) X.A (subscriptTail e (.Slice lo hi none p2) v (.ref s3.heap.objs.size)) (EP X aa σ Q) X.xe { s3 with heap:=s3.heap.push { cls:=.type "slice",data:=.fields #[vl,vu,.none] } };exact tail_any (ops:=[.ref s3.heap.objs.size,v]) ht hT hg (by with_unfolding_all rfl)
noncomputable def Zc6 (xs:List V) (lo hi:Option Int):List V:=(xs.drop (HT.sIx xs.length 0 lo)).take (HT.sIx xs.length xs.length hi - HT.sIx xs.length 0 lo)
theorem Zi6 (xs:List V)(lo hi:Option Int):(Zc6 xs lo hi).length<=xs.length:=by
 unfold Zc6;rw[Xav,Xbe];omega
end
noncomputable def ixN (n:Nat) (i:Int):Option Nat:=if 0<=i then(if i<n then some i.toNat else none) else if -(n:Int)<=i then some (i+n).toNat else none
noncomputable def atI {α:Type}(xs:List α) (i:Int):Option α:=(ixN xs.length i).bind fun j=>xs[j]?
theorem Zpy {n:Nat}{i:Int}{j:Nat}(h:ixN n i=some j):seqIndex? i n=some j/\j<n/\-(n:Int)<=i/\i<n:=by
 unfold ixN at h;by_cases h0:0<=i
 . rw[if_pos h0] at h;by_cases h1:i<n
   . rw[if_pos h1] at h;have e:i.toNat=j:=Option.some.inj h;exact⟨by rw[seqIndex_of h0 h1,e],om,om,h1⟩
   . rw[if_neg h1] at h;cases h
 . rw[if_neg h0] at h;by_cases h1 : -(n:Int)<=i
   . rw[if_pos h1] at h;have e:(i+n).toNat=j:=Option.some.inj h;exact⟨by rw[seqIndex_neg om h1,e],om,h1,om⟩
   . rw[if_neg h1] at h;cases h
theorem Zjs {α:Type}{xs:List α}{i:Int}{v:α}(h:atI xs i=some v):∃ j,seqIndex? i xs.length=some j/\xs[j]? = some v/\j<xs.length/\-(xs.length:Int)<=i/\i<xs.length:=by
 unfold atI at h;cases e:ixN xs.length i with
 | none=>rw[e] at h;cases h
 | some j=>
  rw[e] at h;obtain⟨h1,h2,h3,h4⟩:=Zpy e;exact⟨j,h1,h,h2,h3,h4⟩
theorem Zan {α:Type}{xs:List α}{j:Nat}{v:α}(h:xs[j]? = some v):atI xs (j:Int)=some v:=by
 have hj:j<xs.length:=(List.getElem?_eq_some_iff.mp h).1;have e:ixN xs.length (j:Int)=some j:=by
  unfold ixN;rw[if_pos om,if_pos om];simp
 unfold atI;rw[e];exact h
def Zuf (b:Expr):Prop:=∀ o i,subscripted b false o i=operate [o,i] (getItem o i)
def IxR (X:Cx)(r:R2):Prop:=
 ∀ (value slice:Expr) (aa:List (Addr×Obj)) (s:Shared) (σ:St) (H:Hp) (x y:V) (v u:Value) (Q:VK),Inv X aa σ H s->RelV x v->RelV y u->r x y H Q->
  subscripted slice false v u=operate [v,u] (getItem v u)->wpAny (model X.prog X.w) X.A (subscriptTail value slice v u) (EP X aa σ Q) X.xe s
def MtR (X:Cx)(id:String)(r:V->List V->Hp->VK->Prop):Prop:=
 ∀ (aa:List (Addr×Obj)) (s:Shared) (σ:St) (H:Hp) (x:V) (xs:List V) (v:Value) (us:List Value) (Q:VK),Inv X aa σ H s->RelV x v->Vals xs us->r x xs H Q->
  wpAny (model X.prog X.w) X.A (call (.builtin id) (v :: us)) (EP X aa σ Q) X.xe s
section
variable {X:Cx}{a b:Expr}{ta tb:TE}{pos:Pos}
theorem Zaw {r:R2}(hr:IxR X r)(ha:PE X a ta)(hb:PE X b tb)(hs:Zuf b):PE X (.Subscript a b pos) (tOp r ta tb):=by
 intro aa s σ H Q I h;exact Subscript_ (binT ha hb I h fun v u s2 x y H2 I2 rx ry q=>hr a b aa s2 σ H2 x y v u Q I2 rx ry q (hs _ _))
def rIxL (K:W.Frag):R2:=fun x y H Q=>∃ p xs i v,x = .ref p/\y = .int i/\SqL K H p xs/\atI xs i=some v/\Q v H
def rIxT (K:W.Frag):R2:=fun x y H Q=>∃ p xs i v,x = .ref p/\y = .int i/\SqT K H p xs/\atI xs i=some v/\Q v H
def rIxS:R2:=fun x y H Q=>∃ z i c,x = .str z/\y = .int i/\z.length<=sizeLine/\atI z.cps.toList i=some c/\Q (.str ⟨#[c]⟩) H
theorem Zax:IxR X (rIxL X.K):=by
 intro value slice aa s σ H x y v u Q I rx ry h hs;obtain⟨p,xs,i,z,rfl,rfl,hq,he,q⟩:=h;cases rx
 obtain⟨t,rfl⟩:=ry;obtain⟨its,r,pl,hz⟩:=I.list hq;obtain⟨j,h1,h2,h3,h4,h5⟩:=Zjs he;obtain⟨w,ew,rw'⟩:=r.get h2;have hl:=r.length;have hn:=Zgh;have fin:EP X aa σ Q w s:=⟨z,H,I,rw',q⟩
 by_cases h0:0<=i
 . have hj:i.toNat=j:=by
    rw[seqIndex_of h0 h5] at h1;exact Option.some.inj h1
   exact item_listR pl.isList h0 om (by rw[hj];simpa using ew) fin hs
 . have hj:(i+(its.toArray.size:Int)).toNat=j:=by
    rw[seqIndex_neg om h4] at h1;rw[Xar,<- hl];exact Option.some.inj h1
   exact subscriptTail_builtinR (x:=w) pl.isList.typeIs slot_list_getitem.lookup
    (wpAny_getItem_list_neg (Q:=fun r s'=>r=w/\EP X aa σ Q r s') pl.isList om (by rw[Xar] <;> omega) om (by rw[hj];simpa using ew) ⟨rfl,fin⟩) hs
theorem Za7:IxR X (rIxT X.K):=by
 intro value slice aa s σ H x y v u Q I rx ry h hs;obtain⟨p,xs,i,z,rfl,rfl,hq,he,q⟩:=h;cases rx
 obtain⟨t,rfl⟩:=ry;obtain⟨its,r,pl,hz⟩:=I.tuple hq;obtain⟨j,h1,h2,h3,h4,h5⟩:=Zjs he;obtain⟨w,ew,rw'⟩:=r.get h2;have hl:=r.length;have hn:=Zgh;have fin:EP X aa σ Q w s:=⟨z,H,I,rw',q⟩
 exact subscriptTail_builtinR (x:=w) pl.typeIs slot_tuple_getitem.lookup
  (getItem_tuple (j:=j) (Q:=fun r s'=>r=w/\EP X aa σ Q r s') pl om om (by rw[Xar,<- hl];exact h1) (by simpa using ew) ⟨rfl,fin⟩) hs
theorem Zsu:IxR X rIxS:=by
 intro value slice aa s σ H x y v u Q I rx ry h hs;obtain⟨z,i,c,rfl,rfl,hz,he,q⟩:=h;obtain⟨t,rfl⟩:=rx;obtain⟨t',rfl⟩:=ry;obtain⟨j,h1,h2,h3,h4,h5⟩:=Zjs he;have hl:z.cps.toList.length=z.length:=by simp[Str.length]
 rw[hl] at h1 h4 h5;have hn:=Zgh;exact tail_any (typeIs_str s z t) slot_str_getitem.lookup (getItem_str (c:=c) (by
  have e1:decide (i < -(2 ^ 63:Int))=false:=Xag om;have e2:decide (i>=2 ^ 63)=false:=Xag om;rw[e1,e2,Bool.or_false]) (by rw[h1];simpa using h2) ⟨.str ⟨#[c]⟩,H,I.tok _,⟨_,rfl⟩,q⟩) hs
theorem Zly (its:List Value)(n j:Nat)(u:Value):Obj.mapSeq (·.setIfInBounds j u) { cls:=.type "list",data:=.seq its.toArray n }={ cls:=.type "list",data:=.seq (its.set j u).toArray n }:=by
 simp[Obj.mapSeq]
theorem Inv.lst {aa:List (Addr×Obj)}{σ:St}{H:Hp}{s:Shared}{p:Addr}{xs:List V}(I:Inv X aa σ H s)(h:H p=some (.lst xs)) :
 ∃ (its:List Value) (n:Nat),Vals xs its/\s.heap.get? p=some { cls:=.type "list",data:=.seq its.toArray n }/\xs.length<=sizeLine:=by
 obtain⟨z,its,n,r,e⟩:=I.hok p _ h;exact⟨its,n,r,e,z⟩
theorem Inv.lstUpd {aa:List (Addr×Obj)}{σ:St}{H:Hp}{s:Shared}{p:Addr}{xs ys:List V}{its its':List Value}{n n':Nat}{f:Obj->Obj}(I:Inv X aa σ H s)(h:H p=some (.lst xs))
 (ho:s.heap.get? p=some { cls:=.type "list",data:=.seq its.toArray n })(hf:f { cls:=.type "list",data:=.seq its.toArray n }={ cls:=.type "list",data:=.seq its'.toArray n' })(r:Vals ys its')(hz:ys.length<=sizeLine)(t:Nat) :
 Inv X aa σ (upd H p (.lst ys)) { s with heap:=s.heap.update p f,toks:=t }:=by
 have e:(s.heap.update p f).get? p=some { cls:=.type "list",data:=.seq its'.toArray n' }:=by
  rw[Xa9 f ho (by rw[hf] <;> rfl),hf]
 refine I.write (x:=p) (e:=p) (by rw[h];trivial) (.inl rfl) (fun b u hb q=>(Xa5 _ _ (Ne.symm hb)).trans q) ⟨_,e⟩ ?_;exact⟨hz,its',n',r,e⟩
def rSetL:V->V->V->Hp->(Hp->Prop)->Prop:=fun o i v H Q=>∃ p xs k j,o = .ref p/\i = .int k/\H p=some (.lst xs)/\ixN xs.length k=some j/\Q (upd H p (.lst (xs.set j v)))
theorem Zrh:PSet X rSetL:=by
 intro aa s σ H o i v ov iv u Q I ro ri rv h;obtain⟨p,xs,k,j,rfl,rfl,hp,hj,q⟩:=h;cases ro
 obtain⟨t,rfl⟩:=ri;obtain⟨its,n,r,ho,hz⟩:=I.lst hp;obtain⟨h1,h2,h3,h4⟩:=Zpy hj;have hl:=r.length;have hn:=Zgh;have I':Inv X aa σ (upd H p (.lst (xs.set j v))) { s with heap:=s.heap.update p (Obj.mapSeq (·.setIfInBounds j u)) }:=
  I.lstUpd hp ho (Zly its n j u) (r.set rv j) (by rw[List.length_set];exact hz) s.toks
 by_cases h0:0<=k
 . have hk:k.toNat=j:=by
    rw[seqIndex_of h0 h4] at h1;exact Option.some.inj h1
   exact PySem.W.ki_setAt ho h0 om (by rw[Xar,<- hl];exact h4) (by rw[hk];exact⟨_,I',q⟩)
 . have hk:(k+(its.toArray.size:Int)).toNat=j:=by
    rw[seqIndex_neg om h3] at h1;rw[Xar,<- hl];exact Option.some.inj h1
   exact PySem.W.ki_setBack ho om (by rw[Xar,<- hl];exact h3) om (by rw[hk];exact⟨_,I',q⟩)
theorem Zis (lo hi:Option Int)(n:Nat):(sliceBounds lo hi none n).1=((HT.sIx n 0 lo:Nat):Int)/\(sliceBounds lo hi none n).2.1=((HT.sIx n n hi:Nat):Int)/\(sliceBounds lo hi none n).2.2=1:=by
 refine⟨?_,?_,rfl⟩
 . cases lo with
   | none=>simp[sliceBounds,HT.sIx]
   | some i=>
    simp only[sliceBounds,HT.sIx,Option.getD_none,show(1:Int) > 0 by decide,if_true];by_cases h:i<0
    . simp only[h,if_true] <;> omega
    . simp only[h,if_false] <;> omega
 . cases hi with
   | none=>simp[sliceBounds,HT.sIx]
   | some i=>
    simp only[sliceBounds,HT.sIx,Option.getD_none,show(1:Int) > 0 by decide,if_true];by_cases h:i<0
    . simp only[h,if_true] <;> omega
    . simp only[h,if_false] <;> omega
theorem Zg9 (its:List Value)(lo hi:Option Int):slicePick its.toArray lo hi none=((its.drop (HT.sIx its.length 0 lo)).take (HT.sIx its.length its.length hi - HT.sIx its.length 0 lo)).toArray:=by
 obtain⟨h1,h2,h3⟩:=Zis lo hi its.toArray.size;unfold slicePick;rw[h1,h2,h3];simp only[sliceRange_one,pick_run,Xar] <;> rfl
def rSlL (K:W.Frag):V->Option Int->Option Int->Hp->VK->Prop:=fun x lo hi H Q=>∃ a xs,x = .ref a/\SqL K H a xs/\∀ p,H p=none->Q (.ref p) (upd H p (.lst (Zc6 xs lo hi)))
theorem Za8:SlR X (rSlL X.K):=by
 intro aa s σ H x v vl vu lo hi sl Q I rx hs pl pu h;obtain⟨a,xs,rfl,hx,q⟩:=h;cases rx
 obtain⟨its,r,ht,hz⟩:=I.list hx;have ai:=r.length;refine⟨"list",_,slot_list_getitem.lookup,ht.isList.typeIs,?_⟩;refine wpAny_getItem_list_slice ht.isList hs pl pu .none (by simp) ?_ (by rw[Xar] <;> omega);rw[Zg9,<- ai];refine⟨.ref s.heap.objs.size,_,I.laid (t':=s.toks) (o:=.lst (Zc6 xs lo hi)) (fun b ob q=>Xac _ q) (Xae _) ?_,rfl,q _ (I.hok.fresh (Xae _))⟩;exact⟨Xan (Zi6 xs lo hi) hz,_,0,(r.drop (HT.sIx xs.length 0 lo)).take (HT.sIx xs.length xs.length hi - HT.sIx xs.length 0 lo),Xau _ rfl⟩
noncomputable def Zd4:V->Bool
 | .non=>true
 | .bl _=>true
 | .int _=>true
 | .str _=>true
 | _=>false
noncomputable def eqV:V->V->Bool
 | .non,.non=>true
 | .bl a,.bl b=>a == b
 | .bl a,.int b=>(if a then 1 else 0) == b
 | .int a,.bl b=>a == (if b then 1 else 0)
 | .int a,.int b=>a == b
 | .str a,.str b=>a == b
 | _,_=>false
theorem Zo6 {A:Around}{s:Shared}{y x:V}{u v:Value}(ry:RelV y u)(rx:RelV x v)(fy:Zd4 y=true)(fx:Zd4 x=true):SeqAt.EqAt A s u v (eqV y x):=by
 cases y with
 | non=>
  cases ry
  cases x with
  | non=>cases rx;exact SeqAt.EqAt.same _
  | bl b=>cases rx;exact SeqAt.EqAt.none_bool b
  | int b=>obtain⟨t,rfl⟩:=rx;exact SeqAt.EqAt.none_int b t
  | str b=>obtain⟨t,rfl⟩:=rx;exact SeqAt.EqAt.none_str b t
  | _=>exact absurd (show false=true from fx) Xap
 | bl a=>
  cases ry
  cases x with
  | non=>cases rx;exact SeqAt.EqAt.bool_none a
  | bl b=>cases rx;exact SeqAt.EqAt.bool_bool a b
  | int b=>obtain⟨t,rfl⟩:=rx;exact SeqAt.EqAt.bool_int a b t
  | str b=>obtain⟨t,rfl⟩:=rx;exact SeqAt.EqAt.bool_str a b t
  | _=>exact absurd (show false=true from fx) Xap
 | int a=>
  obtain⟨t',rfl⟩:=ry;cases x with
  | non=>cases rx;exact SeqAt.EqAt.int_none a t'
  | bl b=>cases rx;exact SeqAt.EqAt.int_bool a t' b
  | int b=>obtain⟨t,rfl⟩:=rx;exact SeqAt.EqAt.int_int a t' b t
  | str b=>obtain⟨t,rfl⟩:=rx;exact SeqAt.EqAt.int_str a t' b t
  | _=>exact absurd (show false=true from fx) Xap
 | str a=>
  obtain⟨t',rfl⟩:=ry;cases x with
  | non=>cases rx;exact SeqAt.EqAt.str_none a t'
  | bl b=>cases rx;exact SeqAt.EqAt.str_bool a t' b
  | int b=>obtain⟨t,rfl⟩:=rx;exact SeqAt.EqAt.str_int a t' b t
  | str b=>obtain⟨t,rfl⟩:=rx;exact SeqAt.EqAt.str_str a t' b t
  | _=>exact absurd (show false=true from fx) Xap
 | _=>exact absurd (show false=true from fy) Xap
theorem Zah:Zd8 X (.builtin "len") (fun xs H Q=>∃ p ys,xs=[.ref p]/\(SqL X.K H p ys\/SqT X.K H p ys)/\Q (.int ys.length) H):=by
 intro aa s σ H xs us Q I r h;obtain⟨p,ys,rfl,hq,q⟩:=h;obtain⟨u,rfl,rx⟩:=Zd7 r;cases rx
 have hn:=Zgh;rcases hq with hq | hq
 . obtain⟨its,r',pl,hz⟩:=I.list hq;have ai:=r'.length;exact Calls.call_len_list pl.isList (by simp only[Xar] <;> omega) ⟨.int ys.length,H,I.tok _,⟨s.toks+1,by rw[Xar,ai]⟩,q⟩
 . obtain⟨its,r',pl,hz⟩:=I.tuple hq;have ai:=r'.length;exact len_tuple pl (by simp only[Xar] <;> omega) ⟨.int ys.length,H,I.tok _,⟨s.toks+1,by rw[Xar,ai]⟩,q⟩
theorem Zct:Zd8 X (.builtin "len") (fun xs H Q=>∃ z,xs=[.str z]/\z.length<=sizeLine/\Q (.int z.length) H):=by
 intro aa s σ H xs us Q I r h;obtain⟨z,rfl,hz,q⟩:=h;obtain⟨u,rfl,t,rfl⟩:=Zd7 r;have hn:=Zgh;exact len_str om ⟨.int z.length,H,I.tok _,⟨_,rfl⟩,q⟩
def tyV (K:W.Frag)(T:String)(x:V)(H:Hp):Prop:=match x with
 | .str _=>T = "str"
 | .int _=>T = "int"
 | .ref p=>(T = "list"/\∃ xs,SqL K H p xs)\/(T = "tuple"/\∃ o,K.lookup p=some o/\o.cls = .type "tuple"/\o.dict=none)\/
  (T = "dict"/\((∃ kvs,H p=some (.dK kvs))\/∃ kvs,H p=some (.dT kvs)))\/(T = "set"/\∃ S n,H p=some (.set S n))
 | _=>False
theorem Zte {aa:List (Addr×Obj)}{σ:St}{H:Hp}{s:Shared}{T:String}{x:V}{v:Value}(I:Inv X aa σ H s)(r:RelV x v)(ty:tyV X.K T x H) :
 s.TypeIs v T/\∀ a,v = .ref a->∃ ob,s.heap.get? a=some ob/\ob.dict=none:=by
 cases x with
 | str z=>
  obtain⟨t,rfl⟩:=r;cases(show T = "str" from ty)
  exact⟨typeIs_str s z t,fun _ e=>nomatch e⟩
 | int i=>
  obtain⟨t,rfl⟩:=r;cases(show T = "int" from ty)
  exact⟨typeIs_int s i t,fun _ e=>nomatch e⟩
 | ref p=>
  cases r
  rcases ty with⟨rfl,xs,hq⟩ | ⟨rfl,o,hk,hc,hd⟩ | ⟨rfl,hk⟩ | ⟨rfl,S,n,hk⟩
  . obtain⟨its,_,pl,_⟩:=I.list hq;refine⟨pl.isList.typeIs,fun a e=>?_⟩;cases e
    obtain⟨o,n,e,c,hd,_⟩:=pl;exact⟨o,e,hd⟩
  . refine⟨⟨o,I.kIn p o hk,hc⟩,fun a e=>?_⟩;cases e
    exact⟨o,I.kIn _ o hk,hd⟩
  . have z:∃ o,s.heap.get? p=some o/\o.ExactDict:=by
     rcases hk with⟨kvs,hk⟩ | ⟨kvs,hk⟩
     . obtain⟨_,_,_,_,o,_,_,e,ex,_⟩:=I.hok p _ hk;exact⟨o,e,ex⟩
     . obtain⟨_,_,_,_,o,_,_,e,ex,_⟩:=I.hok p _ hk;exact⟨o,e,ex⟩
    obtain⟨o,e,ex⟩:=z;refine⟨⟨o,e,ex.1⟩,fun a e2=>?_⟩;cases e2
    exact⟨o,e,ex.2.1⟩
  . obtain⟨o,_,_,_,e,ex,_⟩:=I.hok p _ hk;refine⟨⟨o,e,ex.1⟩,fun a e2=>?_⟩;cases e2
    exact⟨o,e,ex.2.1⟩
 | _=>exact False.elim ty
def tBM0 (K:W.Frag)(T:String)(r:V->List V->Hp->VK->Prop)(to:TE):TE:=fun σ H Q=>to σ H fun x H1=>tyV K T x H1/\r x [] H1 Q
def tBM (K:W.Frag)(T:String)(r:V->List V->Hp->VK->Prop)(to:TE)(t:TA):TE:=fun σ H Q=>to σ H fun x H1=>tyV K T x H1/\t σ H1 fun xs H2=>r x xs H2 Q
variable {o e:Expr}{es:List Expr}{to:TE}{t:TA}{name:Str}{ae af:Pos}{T id:String}{r:V->List V->Hp->VK->Prop}
theorem Zoy (pa:PlainAttrs T)(slot:Slot T name id)(hty:typeOf (.builtin id)=pure (.type "method_descriptor"))(hm:MtR X id r)(ho:PE X o to)
 (hbase:attributeBase o name X.env (eval o X.env)=eval o X.env:=by rfl)(hline:(ae.endLine == af.line)=true:=by rfl):PE X (.Call (.Attribute o name ae) [] [] af) (tBM0 X.K T r to):=by
 intro aa s σ H Q I h;refine wpAny_Call_method0_late hbase hline (thn (ho aa s σ H _ I h) fun v s1 hz=>?_);obtain⟨x,H1,I1,r1,ty,q1⟩:=hz;obtain⟨h1,h2⟩:=Zte I1 r1 ty;exact⟨T,id,pa,slot,hty,h1,h2,Calls.callWith_builtin rfl (PySem.evalArgs_none (hm aa s1 σ H1 x [] v [] Q I1 r1 .nil q1))⟩
theorem Zco (pa:PlainAttrs T)(slot:Slot T name id)(hty:typeOf (.builtin id)=pure (.type "method_descriptor"))(hm:MtR X id r)(ho:PE X o to)(ha:PA X (e :: es) t)
 (hbase:attributeBase o name X.env (eval o X.env)=eval o X.env:=by rfl)
 (hfew:((backTo af (starEach (e :: es) X.env)).all (fun x=>!x.1) && (backToKw af (keywordEach [] X.env)).all (fun x=>x.1.isSome)
  && decide ((e :: es).length+([]:List Keyword).length+(if ([]:List Keyword).isEmpty then 0 else 1)<30))=true:=by rfl)
 (hline:(ae.endLine == af.line)=true:=by rfl)(hs:starEach (e :: es) X.env=(false,eval e X.env) :: starEach es X.env:=by rfl)(hplain:(backTo af (starEach es X.env)).any (·.1)=false:=by rfl) :
 PE X (.Call (.Attribute o name ae) (e :: es) [] af) (tBM X.K T r to t):=by
 intro aa s σ H Q I h;refine wpAny_Call_method_late hbase hfew hline rfl (thn (ho aa s σ H _ I h) fun v s1 hz=>?_);obtain⟨x,H1,I1,r1,ty,q1⟩:=hz;obtain⟨h1,h2⟩:=Zte I1 r1 ty;refine⟨T,id,pa,slot,hty,h1,h2,?_⟩;have hA:=ha af aa s1 σ H1 _ I1 q1;rw[hs] at hA ⊢;refine Calls.callWith_builtin (by show(false || (backTo af (starEach es X.env)).any (·.1))=false;rw[hplain] <;> rfl) (Calls.evalArgs_plain ?_);exact thn hA fun us s2=>ex5 fun vs H2 I2 r2 q2=>hm aa s2 σ H2 x vs v us Q I2 r1 r2 q2
end
def MtM (X:Cx)(id:String)(r:V->List V->Hp->VK->Prop):Prop:=
 ∀ (aa:List (Addr×Obj)) (s:Shared) (σ:St) (H:Hp) (x:V) (xs:List V) (v:Value) (us:List Value) (Q:VK),Inv X aa σ H s->RelV x v->Vals xs us->r x xs H Q->
  wpAny (model X.prog X.w) X.A (call (.builtin id) (v :: us)) (EP X aa σ Q) X.xe s
theorem Vals.one:∀ {x:V}{us:List Value},Vals [x] us->∃ u,us=[u]/\RelV x u
 | _,_,.cons r .nil=>⟨_,rfl,r⟩
theorem Vals.zero:∀ {us:List Value},Vals [] us->us=[]
 | _,.nil=>rfl
section
variable {X:Cx}{aa:List (Addr×Obj)}{σ:St}{H:Hp}{s:Shared}{l b:Addr}{xs ys zs:List V}
theorem Inv.lset {its its':List Value}{n:Nat}{f:Array Value->Array Value}{t':Nat}(I:Inv X aa σ H s)(hH:H l=some (.lst xs))
 (e:s.heap.get? l=some { cls:=.type "list",data:=.seq its.toArray n })(hf:f its.toArray=its'.toArray)(hv:Vals ys its')(hz:ys.length<=sizeLine) :
 Inv X aa σ (upd H l (.lst ys)) { s with heap:=s.heap.update l (Obj.mapSeq f),toks:=t' }:=by
 have q:=PySem.IsL.update e f;rw[hf] at q;refine I.write (x:=l) (e:=l) (by rw[hH];exact trivial) (.inl rfl) (fun b' u hb hu=>(Xa5 s.heap (Obj.mapSeq f) (Ne.symm hb)).trans hu) ⟨_,q⟩ ?_;exact⟨hz,its',_,hv,q⟩
theorem Inv.lnew {its:List Value}{t':Nat}(I:Inv X aa σ H s)(hv:Vals ys its)(hz:ys.length<=sizeLine) :
 Inv X aa σ (upd H s.heap.objs.size (.lst ys)) { s with heap:=s.heap.push { cls:=.type "list",data:=.seq its.toArray },toks:=t' }:=
 I.laid (fun _ _ q=>Xac _ q) (Xae _) ⟨hz,its,0,hv,Xau _ rfl⟩
theorem Inv.fresh (I:Inv X aa σ H s):H s.heap.objs.size=none:=I.hok.fresh (Xae _)
theorem Inv.lstM (I:Inv X aa σ H s)(hH:H l=some (.lst xs)):xs.length<=sizeLine/\∃ (its:List Value)(n:Nat),Vals xs its/\xs.length=its.length/\s.heap.get? l=some { cls:=.type "list",data:=.seq its.toArray n }:=by
 obtain⟨z,its,n,r,e⟩:=I.hok l _ hH;exact⟨z,its,n,r,r.length,e⟩
end
section
variable {X:Cx}
def Zua:V->List V->Hp->VK->Prop:=fun x vs H Q=>∃ l xs y,x = .ref l/\vs=[y]/\H l=some (.lst xs)/\xs.length<sizeLine/\Q .non (upd H l (.lst (xs++[y])))
theorem Zbp:MtM X "list.append" Zua:=by
 intro aa s σ H x vs v us Q I rx rv h;obtain⟨l,xs,y,rfl,rfl,hH,hz,q⟩:=h;cases rx
 obtain⟨u,rfl,ru⟩:=rv.one;obtain⟨z,its,n,r,hl,e⟩:=I.lstM hH;refine call_meets F.slot_list_append ⟨_,e,rfl⟩ F.entry_list_append (F.args_list_append_2 _ _) (PySem.list_append l its.toArray n u (by rw[Xar];omega)) ⟨e,?_⟩;refine⟨.non,_,I.lset (its':=its++[u]) hH e (by simp) (r.append (.cons ru .nil)) ?_,rfl,q⟩;rw[Xay,Xa8];omega
def rCat:R2:=fun x y H Q=>∃ l b xs zs,x = .ref l/\y = .ref b/\H l=some (.lst xs)/\H b=some (.lst zs)/\xs.length+zs.length<=sizeLine/\∀ p,H p=none->Q (.ref p) (upd H p (.lst (xs++zs)))
theorem Ze3:OpR X (binaryOp .Add) rCat:=by
 intro aa s σ H x y v u Q I rx ry h;obtain⟨l,b,xs,zs,rfl,rfl,hH,hB,hz,q⟩:=h;cases rx
 cases ry
 obtain⟨z,its,n,r,hl,e⟩:=I.lstM hH;obtain⟨z2,its2,n2,r2,hl2,e2⟩:=I.lstM hB;refine PySem.P.add_list e e2 ?_ (by rw[Xar,Xar];omega);have ea:its.toArray++its2.toArray=(its++its2).toArray:=by simp
 rw[ea];exact⟨.ref _,_,I.lnew (t':=s.toks) (r.append r2) (by rw[Xay];omega),rfl,q _ I.fresh⟩
end
section
variable {prog:Program}{w:World}{A:Around}{E:Value->Shared->Prop}{s:Shared}
end
section
variable {X:Cx}
end
section
variable {κ:Type} [DecidableEq κ]
noncomputable def Zcf (kvs:List (κ×V)) (k:κ):Option V:=(kvs.find? fun kv=>decide (kv.1=k)).map (·.2)
noncomputable def Ze4 (kvs:List (κ×V)) (k:κ) (v:V):List (κ×V):=
 if (kvs.any fun kv=>decide (kv.1=k))=true then kvs.map (fun kv=>if kv.1=k then(kv.1,v) else kv) else kvs++[(k,v)]
noncomputable def Zc0 (kvs:List (κ×V)) (k:κ):List (κ×V):=kvs.filter fun kv=>decide (kv.1≠k)
theorem Zca {p:κ×V}{r:List (κ×V)}{k:κ}(e:p.1=k):Zcf (p :: r) k=some p.2:=by simp[Zcf,List.find?_cons,e]
theorem Zb9 {p:κ×V}{r:List (κ×V)}{k:κ}(e:¬ p.1=k):Zcf (p :: r) k=Zcf r k:=by simp[Zcf,List.find?_cons,e]
theorem Zef (k:κ):∀ kvs:List (κ×V),(kvs.any fun kv=>decide (kv.1=k))=(Zcf kvs k).isSome
 | []=>rfl
 | p :: r=>by
  rw[List.any_cons];by_cases e:p.1=k
  . simp only[Zca e,Xah e,Bool.true_or,Option.isSome_some]
  . rw[Zb9 e,Xag e,Bool.false_or];exact Zef k r
theorem Zh9 (k j:κ)(y:V):∀ kvs:List (κ×V),Zcf kvs k=none->Zcf (kvs++[(k,y)]) j=if j=k then some y else Zcf kvs j
 | [],_=>by
  by_cases e:k=j
  . rw[if_pos e.symm];exact Zca (p:=(k,y)) e
  . rw[if_neg (fun z=>e z.symm)];exact Zb9 (p:=(k,y)) e
 | p :: r,hn=>by
  rw[List.cons_append];have hk:¬ p.1=k:=fun z=>by rw[Zca z] at hn;cases hn
  rw[Zb9 hk] at hn;have ih:=Zh9 k j y r hn;by_cases e:p.1=j
  . rw[Zca e,Zca e,if_neg (fun z=>hk (e.trans z))]
  . rw[Zb9 e,Zb9 e,ih]
theorem Zdd (kvs:List (κ×V))(k:κ)(v:V):(Ze4 kvs k v).length<=kvs.length+1:=by
 unfold Ze4;split
 . rw[Xad];omega
 . rw[Xay,Xax,List.length_nil];omega
theorem Zfg {kvs:List (κ×V)}{k:κ}(v:V)(h:Zcf kvs k=none):Ze4 kvs k v=kvs++[(k,v)]:=by
 unfold Ze4;rw[Zef,h];exact if_neg (by decide)
theorem RelO.isSome_eq {o:Option V}{u:Option Value}(r:RelO o u):o.isSome=u.isSome:=by
 cases o with
 | none=>cases u with
  | none=>rfl
  | some _=>exact(show False from r).elim
 | some _=>cases u with
  | none=>exact(show False from r).elim
  | some _=>rfl
theorem KV.val {kvs:List (κ×V)}{vs:List (κ×Value)}(r:KV kvs vs)(k:κ):RelO (Zcf kvs k) (valueAt vs k):=by
 unfold KV at r
 induction r with
 | nil=>exact True.intro
 | @cons p q ps qs h t ih=>
  obtain⟨h1,h2⟩:=h;by_cases e:p.1=k
  . have e':q.1=k:=h1.symm.trans e;have b:valueAt (q :: qs) k=some q.2:=by simp[valueAt,List.find?_cons,e']
    rw[Zca e,b];exact h2
  . have e':¬ q.1=k:=fun z=>e (h1.trans z);have b:valueAt (q :: qs) k=valueAt qs k:=by simp[valueAt,List.find?_cons,e']
    rw[Zb9 e,b];exact ih
theorem KV.any {kvs:List (κ×V)}{vs:List (κ×Value)}(r:KV kvs vs)(k:κ):(kvs.any fun kv=>decide (kv.1=k))=vs.any fun kv=>decide (kv.1=k):=by
 unfold KV at r
 induction r with
 | nil=>rfl
 | cons h t ih=>rw[List.any_cons,List.any_cons,ih,h.1]
theorem KV.repl {kvs:List (κ×V)}{vs:List (κ×Value)}(r:KV kvs vs)(k:κ){y:V}{u:Value}(ry:RelV y u) :
 KV (kvs.map fun kv=>if kv.1=k then(kv.1,y) else kv) (vs.map fun kv=>if kv.1=k then(kv.1,u) else kv):=by
 unfold KV at r ⊢
 induction r with
 | nil=>exact .nil
 | @cons p q ps qs h t ih=>
  rw[Xbf,Xbf];refine .cons ?_ ih;obtain⟨h1,h2⟩:=h;by_cases e:p.1=k
  . rw[if_pos e,if_pos (h1.symm.trans e)];exact⟨h1,ry⟩
  . rw[if_neg e,if_neg (fun z=>e (h1.trans z))];exact⟨h1,h2⟩
theorem KV.put {kvs:List (κ×V)}{vs:List (κ×Value)}(r:KV kvs vs)(k:κ){y:V}{u:Value}(ry:RelV y u):KV (Ze4 kvs k y) (stored vs k u):=by
 unfold Ze4 stored;rw[r.any k];by_cases e:(vs.any fun kv=>decide (kv.1=k))=true
 . rw[if_pos e,if_pos e];exact r.repl k ry
 . rw[if_neg e,if_neg e];exact Paired.snoc r ⟨rfl,ry⟩
theorem KV.drop {kvs:List (κ×V)}{vs:List (κ×Value)}(r:KV kvs vs)(k:κ):KV (Zc0 kvs k) (without vs k):=by
 unfold KV at r ⊢;unfold Zc0 without
 induction r with
 | nil=>exact .nil
 | @cons p q ps qs h t ih=>
  obtain⟨h1,h2⟩:=h;rw[List.filter_cons,List.filter_cons];by_cases e:p.1=k
  . have a:¬ decide (p.1≠k)=true:=by simp[e]
    have b:¬ decide (q.1≠k)=true:=by simp[h1.symm.trans e]
    rw[if_neg a,if_neg b];exact ih
  . have e':¬ q.1=k:=fun z=>e (h1.trans z);have a:decide (p.1≠k)=true:=by simp[e]
    have b:decide (q.1≠k)=true:=by simp[e']
    rw[if_pos a,if_pos b];exact .cons ⟨h1,h2⟩ ih
theorem KV.length {kvs:List (κ×V)}{vs:List (κ×Value)}(r:KV kvs vs):kvs.length=vs.length:=Paired.length r
theorem Zhr (kvs:List (κ×V))(k:κ):(Zc0 kvs k).length<=kvs.length:=Xbz _ _
end
theorem Zme {P:Program}{w:World}{k:Key}{u:Value}(r:RelV (kV k) u):(Zbm P w).is k u=true:=by
 cases k with
 | inl i=>obtain⟨t,e⟩:=(show ∃ t,u=Value.int i t from r);subst e;exact Zji P w i t
 | inr x=>obtain⟨t,e⟩:=(show ∃ t,u=Value.str x t from r);subst e;exact Zjh P w x t
theorem Zsz {a b:Key}(e:kV a=kV b):a=b:=by
 cases a with
 | inl i=>cases b with
  | inl j=>have e':V.int i=V.int j:=e;injection e' with e';rw[e']
  | inr y=>exact nomatch (show V.int i=V.str y from e)
 | inr x=>cases b with
  | inl j=>exact nomatch (show V.str x=V.int j from e)
  | inr y=>have e':V.str x=V.str y:=e;injection e' with e';rw[e']
theorem Zh2 {P:Program}{w:World}:∀ {ks:List Key}{us:List Value},Vals (ks.map kV) us->ItemsAre (Zbm P w) ks us
 | [],_,r=>by rw[List.map_nil] at r;cases r;exact .nil
 | k :: ks,_,r=>by
  rw[Xbf] at r;cases r with
  | cons h t=>exact .cons (Zme h) (Zh2 t)
abbrev KT (H:Hp):List (List Key×V)->List (List Key×Addr×Value)->Prop:=Paired fun p q=>p.1=q.1/\H q.2.1=some (.tup (p.1.map kV))/\RelV p.2 q.2.2
theorem KT.val {H:Hp}{kvs:List (List Key×V)}{xs:List (List Key×Addr×Value)}(r:KT H kvs xs)(k:List Key):RelO (Zcf kvs k) ((atKey xs k).map (·.2)):=by
 induction r with
 | nil=>exact True.intro
 | @cons p q ps qs h t ih=>
  obtain⟨h1,_,h2⟩:=h;by_cases e:p.1=k
  . have e':q.1=k:=h1.symm.trans e;have b:atKey (q :: qs) k=some q.2:=by simp[atKey,List.find?_cons,e']
    rw[Zca e,b];exact h2
  . have e':¬ q.1=k:=fun z=>e (h1.trans z);have b:atKey (q :: qs) k=atKey qs k:=by simp[atKey,List.find?_cons,e']
    rw[Zb9 e,b];exact ih
theorem KT.repl {H:Hp}{kvs:List (List Key×V)}{xs:List (List Key×Addr×Value)}(r:KT H kvs xs)(k:List Key){y:V}{u:Value}(ry:RelV y u) :
 KT H (kvs.map fun kv=>if kv.1=k then(kv.1,y) else kv) (xs.map (putAt k u)):=by
 induction r with
 | nil=>exact .nil
 | @cons p q ps qs h t ih=>
  rw[Xbf,Xbf];refine .cons ?_ ih;obtain⟨h1,h2,h3⟩:=h;unfold putAt;by_cases e:p.1=k
  . rw[if_pos e,if_pos (h1.symm.trans e)];exact⟨h1,h2,ry⟩
  . rw[if_neg e,if_neg (fun z=>e (h1.trans z))];exact⟨h1,h2,h3⟩
theorem KT.put {H:Hp}{kvs:List (List Key×V)}{xs:List (List Key×Addr×Value)}(r:KT H kvs xs)(k:List Key){b:Addr}{y:V}{u:Value}(hb:H b=some (.tup (k.map kV)))(ry:RelV y u) :
 KT H (Ze4 kvs k y) (storedH xs k b u):=by
 have e:(kvs.any fun kv=>decide (kv.1=k))=(atKey xs k).isSome:=by
  rw[Zef,(r.val k).isSome_eq,Option.isSome_map]
 unfold Ze4 storedH;rw[e];by_cases q:(atKey xs k).isSome=true
 . rw[if_pos q,if_pos q];exact r.repl k ry
 . rw[if_neg q,if_neg q];exact Paired.snoc r ⟨rfl,hb,ry⟩
theorem KT.keeps {H H':Hp}{kvs:List (List Key×V)}{xs:List (List Key×Addr×Value)}(r:KT H kvs xs)(ht:∀ b ys,H b=some (.tup ys)->H' b=some (.tup ys)):KT H' kvs xs:=
 Paired.mapP r fun _ _ z=>⟨z.1,ht _ _ z.2.1,z.2.2⟩
section
variable {P:Program}{w:World}{H:Hp}{h:Heap}{a:Addr}
theorem Zw8 {u:HO}(ok:HOk P w H h)(e:Rd H a u):ObjOk P w H h a u:=e.ok ok
theorem Zjb {kvs:List (Key×V)}(ok:HOk P w H h)(e:Rd H a (.dK kvs)):kvs.length<=sizeLine/\(a == sysModules)=false/\∃ vs,KV kvs vs/\h.DictOf (Zbm P w) a vs:=
 show ObjOk P w H h a (.dK kvs) from Zw8 ok e
theorem Zn6 {kvs:List (Key×V)}(ok:HOk P w H h)(e:H a=some (.dK kvs)):kvs.length<=sizeLine/\(a == sysModules)=false/\∃ vs,KV kvs vs/\h.DictOf (Zbm P w) a vs:=Zjb ok (.inl e)
theorem Zid {ks:List Key}(ok:HOk P w H h)(e:H a=some (.tup (ks.map kV))):(tupleKind (Zbm P w)).is h ks a:=by
 obtain⟨_,its,r,o,h1,h2,n,h3⟩:=(show ObjOk P w H h a (.tup (ks.map kV)) from ok a _ e)
 exact⟨o,its.toArray,n,h1,h2,h3,by simpa using Zh2 r⟩
theorem Zml {kvs:List (List Key×V)}(ok:HOk P w H h)(e:Rd H a (.dT kvs)):kvs.length<=sizeLine/\(a == sysModules)=false/\
 ∃ xs,KT H kvs xs/\h.DictOfH (tupleKind (Zbm P w)) a xs:=by
 obtain⟨z,y,xs,r,o,es,ep,h1,h2,h3,h4,h5⟩:=(show ObjOk P w H h a (.dT kvs) from Zw8 ok e)
 refine⟨z,y,xs,r,o,es,ep,h1,h2,h3,h4,fun x hx=>?_,h5⟩;have all:∀ {l:List (List Key×V)}{m:List (List Key×Addr×Value)},KT H l m->∀ x∈m,(tupleKind (Zbm P w)).is h x.1 x.2.1:=by
  intro l m q
  induction q with
  | nil=>intro x hx;exact nomatch hx
  | @cons p q ps qs hq t ih=>
   intro x hx;rcases List.mem_cons.mp hx with e | hx
   . subst e;exact Zid ok (by rw[<- hq.1];exact hq.2.1)
   . exact ih x hx
 exact all r x hx
theorem dt_of {kvs:List (List Key×V)}(ok:HOk P w H h)(e:H a=some (.dT kvs)):kvs.length<=sizeLine/\(a == sysModules)=false/\
 ∃ xs,KT H kvs xs/\h.DictOfH (tupleKind (Zbm P w)) a xs:=Zml ok (.inl e)
end
def DGet (H:Hp)(a:Addr)(y:V)(r:Option V):Prop:=
 (∃ kvs k,Rd H a (.dK kvs)/\y=kV k/\r=Zcf kvs k)\/∃ kvs k b,Rd H a (.dT kvs)/\y = .ref b/\H b=some (.tup (k.map kV))/\r=Zcf kvs k
def DPut (H:Hp)(a:Addr)(y v:V)(H':Hp):Prop:=
 (∃ kvs k,H a=some (.dK kvs)/\y=kV k/\kvs.length<sizeLine/\H'=upd H a (.dK (Ze4 kvs k v)))\/
 ∃ kvs k b,H a=some (.dT kvs)/\y = .ref b/\H b=some (.tup (k.map kV))/\kvs.length<sizeLine/\H'=upd H a (.dT (Ze4 kvs k v))
theorem DGet.k {H:Hp}{a:Addr}{kvs:List (Key×V)}{k:Key}(e:H a=some (.dK kvs)):DGet H a (kV k) (Zcf kvs k):=.inl ⟨kvs,k,.inl e,rfl,rfl⟩
theorem DGet.t {H:Hp}{a b:Addr}{kvs:List (List Key×V)}{k:List Key}(e:H a=some (.dT kvs))(eb:H b=some (.tup (k.map kV))):DGet H a (.ref b) (Zcf kvs k):=.inr ⟨kvs,k,b,.inl e,rfl,eb,rfl⟩
theorem DPut.k {H:Hp}{a:Addr}{kvs:List (Key×V)}{k:Key}{v:V}(e:H a=some (.dK kvs))(hl:kvs.length<sizeLine):DPut H a (kV k) v (upd H a (.dK (Ze4 kvs k v))):=.inl ⟨kvs,k,e,rfl,hl,rfl⟩
theorem DPut.t {H:Hp}{a b:Addr}{kvs:List (List Key×V)}{k:List Key}{v:V}(e:H a=some (.dT kvs))(eb:H b=some (.tup (k.map kV)))(hl:kvs.length<sizeLine) :
 DPut H a (.ref b) v (upd H a (.dT (Ze4 kvs k v))):=.inr ⟨kvs,k,b,e,rfl,eb,hl,rfl⟩
section
variable {X:Cx}{aa:List (Addr×Obj)}{σ:St}{H:Hp}{s:Shared}{a:Addr}{y v:V}{u r:Value}{o:Option V}{A:Around}{E:Value->Shared->Prop}
theorem Inv.big (I:Inv X aa σ H s):sysModules<s.heap.objs.size:=by
 have h:mainGlobals<s.heap.objs.size:=(I.mod.glob.keeps I.bk).lt;exact Nat.lt_trans (by decide) h
theorem Znz {Q:Value->Shared->Prop}(hu:A.units+1<cLine)(I:Inv X aa σ H s)(g:DGet H a y (some v))(ry:RelV y u)(h:∀ w' s',Inv X aa σ H s'->RelV v w'->Q w' s') :
 wpAny (model X.prog X.w) A (getItem (.ref a) u) Q E s:=by
 rcases g with⟨kvs,k,e,ey,l⟩ | ⟨kvs,k,b,e,ey,eb,l⟩
 . subst ey;obtain⟨z,hd,vs,rel,dd⟩:=Zjb I.hok e;obtain⟨w',hw,rw'⟩:=RelO.some_of (v:=v) (o:=valueAt vs k) (by rw[l];exact rel.val k);exact wpAny_getItem_of (Zme ry) dd.mapOf hw (h w' _ (I.tok _) rw')
 . subst ey;cases(show u=Value.ref b from ry)
   obtain⟨z,hd,xs,rel,dd⟩:=Zml I.hok e;obtain⟨w',hw,rw'⟩:=RelO.some_of (v:=v) (o:=(atKey xs k).map (·.2)) (by rw[l];exact rel.val k);obtain⟨p,hp,hp2⟩:=Option.map_eq_some_iff.mp hw;refine wpAny_getItem_heap (tupleKind_room_in1 hu) (Zid I.hok eb) dd hp ?_;rw[hp2];exact h w' _ (I.tok _) rw'
theorem d_in {Q:Value->Shared->Prop}(hu:A.units+1<cLine)(I:Inv X aa σ H s)(g:DGet H a y o)(ry:RelV y u)(h:∀ s',Inv X aa σ H s'->Q (.bool o.isSome) s') :
 wpAny (model X.prog X.w) A (compareOp .In u (.ref a)) Q E s:=by
 rcases g with⟨kvs,k,e,ey,l⟩ | ⟨kvs,k,b,e,ey,eb,l⟩
 . subst ey;obtain⟨z,hd,vs,rel,dd⟩:=Zjb I.hok e;refine wpAny_in_of (Zme ry) hd dd.mapOf ?_;rw[<- (rel.val k).isSome_eq,<- l];exact h _ (I.tok _)
 . subst ey;cases(show u=Value.ref b from ry)
   obtain⟨z,hd,xs,rel,dd⟩:=Zml I.hok e;refine wpAny_in_heap (tupleKind_room_in1 hu) (Zid I.hok eb) hd dd ?_;have q:=(rel.val k).isSome_eq;rw[Option.isSome_map] at q;rw[<- q,<- l];exact h _ (I.tok _)
theorem Zuh {Q:Value->Shared->Prop}(hu:A.units+1<cLine)(I:Inv X aa σ H s)(g:DGet H a y o)(ry:RelV y u)(h:∀ s',Inv X aa σ H s'->Q (.bool (!o.isSome)) s') :
 wpAny (model X.prog X.w) A (compareOp .NotIn u (.ref a)) Q E s:=by
 rcases g with⟨kvs,k,e,ey,l⟩ | ⟨kvs,k,b,e,ey,eb,l⟩
 . subst ey;obtain⟨z,hd,vs,rel,dd⟩:=Zjb I.hok e;refine wpAny_notIn_of (Zme ry) hd dd.mapOf ?_;rw[<- (rel.val k).isSome_eq,<- l];exact h _ (I.tok _)
 . subst ey;cases(show u=Value.ref b from ry)
   obtain⟨z,hd,xs,rel,dd⟩:=Zml I.hok e;refine wpAny_notIn_heap (tupleKind_room_in1 hu) (Zid I.hok eb) hd dd ?_;have q:=(rel.val k).isSome_eq;rw[Option.isSome_map] at q;rw[<- q,<- l];exact h _ (I.tok _)
theorem Zje {h':Heap}{t':Nat}{ob:HO}(I:Inv X aa σ H s)(mu:Mut (H a))(hs:Heap.SameBut a s.heap h')(he:∃ q,h'.get? a=some q)(new:ObjOk X.prog X.w (upd H a ob) h' a ob) :
 Inv X aa σ (upd H a ob) { s with heap:=h',toks:=t' }:=
 I.write (x:=a) (e:=a) mu (.inl rfl) (fun b q hb z=>(hs.2 b hb).trans z) he new
theorem Zna {P:Program}{w:World}{H':Hp}{h':Heap}{kvs:List (Key×V)}{vs:List (Key×Value)}(z:kvs.length<=sizeLine)(hd:(a == sysModules)=false)(rel:KV kvs vs)(dd:h'.DictOf (Zbm P w) a vs) :
 ObjOk P w H' h' a (.dK kvs):=⟨z,hd,vs,rel,dd⟩
theorem Zo9 {H':Hp}{Q:Unit->Shared->Prop}(hu:A.units+1<cLine)(I:Inv X aa σ H s)(g:DPut H a y v H')(ry:RelV y u)(rv:RelV v r)(h:∀ s',Inv X aa σ H' s'->Q () s') :
 wpAny (model X.prog X.w) A (setItem (.ref a) u r) Q E s:=by
 rcases g with⟨kvs,k,e,ey,l,eH⟩ | ⟨kvs,k,b,e,ey,eb,l,eH⟩
 . subst ey eH;obtain⟨z,hd,vs,rel,dd⟩:=Zn6 I.hok e;have hz:vs.length<=sizeLine:=by rw[<- rel.length];exact z
   have hl:(Ze4 kvs k v).length<=sizeLine:=by have:=Zdd kvs k v;omega
   refine wpAny_setItem_pairs (hsz:=hz) (Zme ry) dd fun h' dd' hs=>h _ ?_;have he:∃ q,h'.get? a=some q:=let ⟨q,_,_,hq,_⟩:=dd';⟨q,hq⟩
   exact Zje I (by rw[e];exact True.intro) hs he (Zna hl hd (rel.put k rv) dd')
 . subst ey eH;cases(show u=Value.ref b from ry)
   obtain⟨z,hd,xs,rel,dd⟩:=dt_of I.hok e;have hz:xs.length<=sizeLine:=by rw[<- Paired.length rel];exact z
   have hl:(Ze4 kvs k v).length<=sizeLine:=by have:=Zdd kvs k v;omega
   refine wpAny_setItem_heap (hsz:=hz) (tupleKind_room_in1 hu) (Zid I.hok eb) dd fun h' dd' hs=>h _ ?_;obtain⟨q,es,ep,hq,h2,h3,h4,_,h5⟩:=dd';refine Zje I (by rw[e];exact True.intro) hs ⟨q,hq⟩ ⟨hl,hd,_,(rel.put k eb rv).keeps fun c ys ec=>?_,q,es,ep,hq,h2,h3,h4,h5⟩;rw[Zaf (ne_of ec e (fun z=>nomatch z))];exact ec
end
section
variable {X:Cx}{aa:List (Addr×Obj)}{σ:St}{H:Hp}{s:Shared}{a:Addr}{kvs:List (Key×V)}{k:Key}{u:Value}{A:Around}{E:Value->Shared->Prop}
theorem d_pop {v:V}{more:List Value}{Q:Value->Shared->Prop}(I:Inv X aa σ H s)(e:H a=some (.dK kvs))(ry:RelV (kV k) u)(l:Zcf kvs k=some v)(hm:more=[]\/∃ x,more=[x])
 (h:∀ w' s',Inv X aa σ (upd H a (.dK (Zc0 kvs k))) s'->RelV v w'->Q w' s'):wpAny (model X.prog X.w) A (call (.builtin "dict.pop") (.ref a :: u :: more)) Q E s:=by
 obtain⟨z,hd,vs,rel,dd⟩:=Zn6 I.hok e;obtain⟨w',hw,rw'⟩:=RelO.some_of (v:=v) (o:=valueAt vs k) (by rw[<- l];exact rel.val k);have hp:(keyPart u).isSome=true:=by
  cases k with
  | inl i=>obtain⟨t,q⟩:=(show ∃ t,u=Value.int i t from ry);subst q;rfl
  | inr x=>obtain⟨t,q⟩:=(show ∃ t,u=Value.str x t from ry);subst q;rfl
 have ha:argsOk "dict.pop" ⟨.ref a :: u :: more,[]⟩:=by
  rcases hm with q | ⟨x,q⟩
  . subst q;exact PySem.F.args_dict_pop_2 _ _
  . subst q;exact PySem.F.args_dict_pop_3 _ _ _
 refine call_meetsIn PySem.F.slot_dict_pop dd.typeIs PySem.F.entry_dict_pop ha (meets_dict_pop_there (Zbm X.prog X.w) a (Zme ry) more hm hp)
  ⟨vs,w',dd,by rw[<- rel.length];exact z,hw,fun h' dd' hs=>h w' _ ?_ rw'⟩
 have he:∃ q,h'.get? a=some q:=let ⟨q,_,_,hq,_⟩:=dd';⟨q,hq⟩
 exact Zje I (by rw[e];exact True.intro) hs he (Zna (Xan (Zhr kvs k) z) hd (rel.drop k) dd')
end
def NoSl (i:Expr):Prop:=∀ ov iv,subscripted i false ov iv=operate [ov,iv] (getItem ov iv)
theorem Ztw {prog:Program}{w:World}{A:Around}{E:Value->Shared->Prop}{s:Shared}{env:Env}{value slice:Expr}{pos:Pos}{T id:String}{Q:Value->Shared->Prop}
 (hl:typeLookup (.type T) "__getitem__" = pure (some (.builtin id)))(hs:NoSl slice)
 (h:wpAny (model prog w) A (eval value env) (fun o s₁=>wpAny (model prog w) A (eval slice env) (fun i s₂=>s₂.TypeIs o T/\wpAny (model prog w) A (getItem o i) Q E s₂) E s₁) E s) :
 wpAny (model prog w) A (eval (.Subscript value slice pos) env) Q E s:=by
 refine Subscript_ (Xaq h (fun o s₁ h₁=>Xaq h₁ (fun i s₂ h₂=>?_) fun _ _ x=>x) fun _ _ x=>x);obtain⟨hT,h₂⟩:=h₂;unfold subscriptTail;refine Xaa ?_;rw[getitemInPython_of_ne hT.not_modules];refine Xaa (wpAny_specialOf hT hl ?_);have fin:wpAny (model prog w) A (subscripted slice false o i) (fun r s₃=>wpAny (model prog w) A (letTemporaryGo value o r >>= fun _=>pure r) Q E s₃) E s₂:=by
  rw[hs o i];exact wpAny_operating (Xaq h₂ (fun r s₃ h₃=>Xaa (wpAny_letTemporaryGo (Xak h₃))) fun _ _ x=>x)
 first
  | exact Xak (Xaa fin)
  | exact Xaa (Xak (Xaa fin))
  | exact Xaa fin
theorem Zjk {X:Cx}{aa:List (Addr×Obj)}{σ:St}{H:Hp}{s:Shared}{a:Addr}{y:V}{o:Option V}(I:Inv X aa σ H s)(g:DGet H a y o):s.TypeIs (.ref a) "dict":=by
 rcases g with⟨kvs,k,e,_,_⟩ | ⟨kvs,k,b,e,_,_,_⟩
 . obtain⟨_,_,vs,_,dd⟩:=Zjb I.hok e;exact dd.typeIs
 . obtain⟨_,_,xs,_,dd⟩:=Zml I.hok e;exact dd.typeIs
def tDGet (td ty:TE):TE:=fun σ H Q=>td σ H fun x H1=>ty σ H1 fun y H2=>∃ a v,x = .ref a/\DGet H2 a y (some v)/\Q v H2
def tDIn (ty td:TE):TE:=fun σ H Q=>ty σ H fun y H1=>td σ H1 fun x H2=>∃ a o,x = .ref a/\DGet H2 a y o/\Q (.bl o.isSome) H2
def Zvz (ty td:TE):TE:=fun σ H Q=>ty σ H fun y H1=>td σ H1 fun x H2=>∃ a o,x = .ref a/\DGet H2 a y o/\Q (.bl (!o.isSome)) H2
def sDPut (td ty tv:TE):TS:=fun D σ H=>tv σ H fun v H1=>td σ H1 fun x H2=>ty σ H2 fun y H3=>∃ a H4,x = .ref a/\DPut H3 a y v H4/\D.nx σ H4
section
variable {X:Cx}{o i e value:Expr}{pos pos' tpos:Pos}{td ty tv:TE}
theorem Zjw (hu:X.A.units+1<cLine)(ho:PE X o td)(hi:PE X i ty)(hs:NoSl i):PE X (.Subscript o i pos) (tDGet td ty):=by
 intro aa s σ H Q I h;refine Ztw PySem.F.slot_dict_getitem.lookup hs (thn (ho aa s σ H _ I h) fun u s1=>ex5 fun x H1 I1 rx q1=>thn (hi aa s1 σ H1 _ I1 q1) fun iv s2 hz=>?_);obtain⟨y,H2,I2,ry,a,v,ex,g,q2⟩:=hz;subst ex;obtain rfl:u=Value.ref a:=rx;exact⟨Zjk I2 g,Znz hu I2 g ry fun w' s3 I3 rw'=>⟨v,H2,I3,rw',q2⟩⟩
theorem Zwr (hu:X.A.units+1<cLine)(hi:PE X i ty)(ho:PE X o td):PC X .In i o (tDIn ty td):=by
 intro aa s σ H Q I h;refine thn (hi aa s σ H _ I h) fun iv s1=>ex5 fun y H1 I1 ry q1=>thn (ho aa s1 σ H1 _ I1 q1) fun u s2 hz=>?_;obtain⟨x,H2,I2,rx,a,ov,ex,g,q2⟩:=hz;subst ex;obtain rfl:u=Value.ref a:=rx;exact d_in hu I2 g ry fun s3 I3=>⟨.bl ov.isSome,H2,I3,rfl,q2⟩
theorem Zir (hu:X.A.units+1<cLine)(hi:PE X i ty)(ho:PE X o td):PC X .NotIn i o (Zvz ty td):=by
 intro aa s σ H Q I h;refine thn (hi aa s σ H _ I h) fun iv s1=>ex5 fun y H1 I1 ry q1=>thn (ho aa s1 σ H1 _ I1 q1) fun u s2 hz=>?_;obtain⟨x,H2,I2,rx,a,ov,ex,g,q2⟩:=hz;subst ex;obtain rfl:u=Value.ref a:=rx;exact Zuh hu I2 g ry fun s3 I3=>⟨.bl (!ov.isSome),H2,I3,rfl,q2⟩
theorem Zi5 (hu:X.A.units+1<cLine)(ho:PE X o td)(hi:PE X i ty)(hv:PE X value tv)(hs:swapsWith value (some (.Subscript o i pos')) pos.line X.env=pure false) :
 PS X (.Assign [.Subscript o i pos'] value pos) (sDPut td ty tv):=by
 intro aa s σ H D I h;refine wpAny_Assign_Subscript (thn (hv aa s σ H _ I h) fun r s1=>ex5 fun v H1 I1 rv q1=>thn (ho aa s1 σ H1 _ I1 q1) fun u s2=>ex5 fun x H2 I2 rx q2=>thn (hi aa s2 σ H2 _ I2 q2) fun iv s3 hz=>?_) hs;obtain⟨y,H3,I3,ry,a,H4,ex,g,q3⟩:=hz;subst ex;obtain rfl:u=Value.ref a:=rx;exact Zo9 hu I3 g ry rv fun s4 I4=>⟨σ,H4,I4,q3⟩
end
theorem Zqj {P:Program}{w:World}{H:Hp}(h:Heap)(hb:sysModules<h.objs.size):ObjOk P w H (h.push { cls:=.type "dict",data:=.dict #[] }) h.objs.size (.dK []):=
 ⟨Nat.zero_le _,beq_eq_false_iff_ne.mpr (Ne.symm (Xaw hb)),[],.nil,Heap.DictOf.new h⟩
theorem Zru {P:Program}{w:World}{H:Hp}(h:Heap)(hb:sysModules<h.objs.size):ObjOk P w H (h.push { cls:=.type "dict",data:=.dict #[] }) h.objs.size (.dT []):=
 ⟨Nat.zero_le _,beq_eq_false_iff_ne.mpr (Ne.symm (Xaw hb)),[],.nil,_,#[],0,Xau _ rfl,⟨rfl,rfl,rfl⟩,rfl,rfl,List.nodup_nil⟩
def Zxg:TE:=fun _ H Q=>∀ p,H p=none->Q (.ref p) (upd H p (.dK []))
def Zxi:TE:=fun _ H Q=>∀ p,H p=none->Q (.ref p) (upd H p (.dT []))
section
variable {X:Cx}{pos:Pos}
theorem Zk5:PE X (.Dict [] [] pos) Zxg:=fun aa s σ H Q I h=>
 wpAny_Dict_empty ⟨.ref s.heap.objs.size,_,I.laid (a:=s.heap.objs.size) (o:=.dK []) (t':=s.toks) (fun _ _ q=>Xac _ q) (Xae _) (Zqj s.heap I.big),rfl,h _ (I.hok.fresh (Xae _))⟩
theorem Zq8:PE X (.Dict [] [] pos) Zxi:=fun aa s σ H Q I h=>
 wpAny_Dict_empty ⟨.ref s.heap.objs.size,_,I.laid (a:=s.heap.objs.size) (o:=.dT []) (t':=s.toks) (fun _ _ q=>Xac _ q) (Xae _) (Zru s.heap I.big),rfl,h _ (I.hok.fresh (Xae _))⟩
end
structure M1 (X:Cx)(o:Expr)(m:Str)(ae:Pos)(e:Expr)(af:Pos):Prop where
 base:attributeBase o m X.env (eval o X.env)=eval o X.env
 few:((backTo af (starEach [e] X.env)).all (fun x=>!x.1) && (backToKw af (keywordEach [] X.env)).all (fun x=>x.1.isSome)
  && decide (([e]:List Expr).length+([]:List Keyword).length+(if ([]:List Keyword).isEmpty then 0 else 1)<30))=true
 line:(ae.endLine == af.line)=true
 trees:backTo af (starEach [e] X.env)=[(false,eval e X.env)]
structure M2 (X:Cx)(o:Expr)(m:Str)(ae:Pos)(e f:Expr)(af:Pos):Prop where
 base:attributeBase o m X.env (eval o X.env)=eval o X.env
 few:((backTo af (starEach [e,f] X.env)).all (fun x=>!x.1) && (backToKw af (keywordEach [] X.env)).all (fun x=>x.1.isSome)
  && decide (([e,f]:List Expr).length+([]:List Keyword).length+(if ([]:List Keyword).isEmpty then 0 else 1)<30))=true
 line:(ae.endLine == af.line)=true
 trees:backTo af (starEach [e,f] X.env)=[(false,eval e X.env),(false,eval f X.env)]
def IsD (H:Hp)(a:Addr):Prop:=(∃ kvs,Rd H a (.dK kvs))\/∃ kvs,Rd H a (.dT kvs)
theorem Zxp {X:Cx}{aa:List (Addr×Obj)}{σ:St}{H:Hp}{s:Shared}{a:Addr}(I:Inv X aa σ H s)(d:IsD H a) :
 s.TypeIs (.ref a) "dict"/\(∀ b,Value.ref a = .ref b->∃ ob,s.heap.get? b=some ob/\ob.dict=none)/\(a == sysModules)=false:=by
 rcases d with⟨kvs,e⟩ | ⟨kvs,e⟩
 . obtain⟨_,hd,vs,_,dd⟩:=Zjb I.hok e;refine⟨dd.typeIs,fun b q=>?_,hd⟩;cases q
   obtain⟨ob,_,_,h1,h2,_⟩:=dd;exact⟨ob,h1,h2.2.1⟩
 . obtain⟨_,hd,xs,_,dd⟩:=Zml I.hok e;refine⟨dd.typeIs,fun b q=>?_,hd⟩;cases q
   obtain⟨ob,_,_,h1,h2,_⟩:=dd;exact⟨ob,h1,h2.2.1⟩
section
variable {X:Cx}{aa:List (Addr×Obj)}{σ:St}{H:Hp}{s:Shared}{a:Addr}{y d:V}{u r:Value}{o:Option V}{A:Around}{E:Value->Shared->Prop}
end
def Zw3 (td ty:TE):TE:=fun σ H Q=>td σ H fun x H1=>∃ a,x = .ref a/\IsD H1 a/\ty σ H1 fun y H2=>∃ kvs k v,H2 a=some (.dK kvs)/\y=kV k/\Zcf kvs k=some v/\Q v (upd H2 a (.dK (Zc0 kvs k)))
section
variable {X:Cx}{o e f:Expr}{ae af:Pos}{td ty tx:TE}
theorem Zkg (ho:PE X o td)(he:PE X e ty)(m:M1 X o "pop" ae e af):PE X (.Call (.Attribute o "pop" ae) [e] [] af) (Zw3 td ty):=by
 intro aa s σ H Q I h;refine wpAny_Call_method m.base m.few m.line PySem.F.plainAttrs_dict PySem.F.slot_dict_pop PySem.F.type_dict_pop (thn (ho aa s σ H _ I h) fun u s1 hz=>?_);obtain⟨x,H1,I1,rx,a,ex,d,q1⟩:=hz;subst ex;obtain rfl:u=Value.ref a:=rx;obtain⟨t1,t2,_⟩:=Zxp I1 d;refine⟨t1,t2,?_⟩;rw[m.trees];refine Calls.callWith_builtin rfl (Calls.evalArgs_plain (Calls.spliced_cons (thn (he aa s1 σ H1 _ I1 q1) fun iv s2 ⟨y,H2,I2,ry,kvs,k,v,ea,ey,l,q2⟩=>Calls.spliced_nil ?_)));subst ey;exact d_pop I2 ea ry l (.inl rfl) fun w' s3 I3 rw'=>⟨v,_,I3,rw',q2⟩
end
section
variable {X:Cx}{aa:List (Addr×Obj)}{σ:St}{H:Hp}{s:Shared}{a:Addr}{kvs:List (Key×V)}{A:Around}{E:Value->Shared->Prop}
theorem Zrx {Q:Value->Shared->Prop}(I:Inv X aa σ H s)(e:Rd H a (.dK kvs))(h:∀ p s',H p=none->Inv X aa σ (upd H p (.dK kvs)) s'->Q (.ref p) s'):wpAny (model X.prog X.w) A (call (.type "dict") [.ref a]) Q E s:=by
 obtain⟨z,hd,vs,rel,dd⟩:=Zjb I.hok e;refine kt_call_dict hd dd (by rw[<- rel.length];exact z) fun h' dd' hs=>?_;refine h _ _ (I.hok.fresh (Xae _)) (I.laid (a:=s.heap.objs.size) (o:=.dK kvs) (t':=s.toks) (fun b q hq=>?_) (Xae _) (Zna z (beq_eq_false_iff_ne.mpr (Ne.symm (Xaw I.big))) rel dd'));exact(hs.2 b (Xaw (Xai hq))).trans (Xac _ hq)
end
section
variable {X:Cx}{aa:List (Addr×Obj)}{σ:St}{H:Hp}{s:Shared}{a:Addr}{y:V}{u:Value}{A:Around}{E:Value->Shared->Prop}
end
end L2
namespace Att
open PySem PySem.W PySem.Calls PyProof.Rows
theorem Zf7 {P:Params}{h:Heap}:∀ (ns:List Int)(vs:List Value),WellAll P h vs (ns.map WData.int)->IntsAre vs ns:=by
 intro ns
 induction ns with
 | nil=>
  intro vs w;rw[List.map_nil] at w;cases w
  exact .nil
 | cons n ns ih=>
  intro vs w;rw[List.map_cons] at w;cases w with
  | cons a b=>
   cases a
   exact .cons _ _ (ih _ b)
theorem Zm5 {l:OpenLaw}{n:Nat}(hn:l.most=some n){P:Params}{h:Heap}{args:List WData}{vals:List Value}
 (hpre:l.row.toRowW.claim.pre args=true)(hwl:WellAll P h vals args) :
 ∃ a vs ns,vals=[Value.ref a]/\args=[WData.list (ns.map WData.int)]/\h.get? a=some { cls:=.type "list",data:=.seq vs.toArray }/\IntsAre vs ns/\ns.length<=n:=by
 have hsh:WShape.hasAll [] args [.list .int]=true:=(pre_splitW hpre).1;have hc:l.pre.holds [] { args:=args }=true:=(pre_splitW hpre).2;obtain⟨d,r,rfl,h1,h2⟩:=hasAllW_cons hsh;obtain rfl:=hasAllW_nil h2;obtain⟨xs,rfl,h3⟩:=hasW_list h1;obtain⟨ns,rfl⟩:=items_int h3;have ai:ns.length<=n:=by
  unfold OpenLaw.pre at hc;have h4:(WTm.not (.lt (.lit (.int (n:Int))) (.len (.arg 0)))).holds [] { args:=[.list (ns.map .int)] }=true:=by
   have h4:=(holds_andW hc).1;rw[hn] at h4;exact h4
  have h5:=condW_of h4 (w_not (w_lt w_lit (w_len_list (w_arg rfl))));rw[List.length_map] at h5;refine Nat.le_of_not_lt fun q=>?_;have q':(n:Int)<((ns.length:Nat):Int):=by omega
  first
   | (rw[decide_eq_true q'] at h5;exact absurd h5 (by decide))
   | (simp at h5;omega)
 cases hwl with
 | cons w1 w2=>
  cases w2
  cases w1 with
  | list ho hall=>exact⟨_,_,ns,rfl,rfl,ho,Zf7 ns _ hall,ai⟩
theorem Zn5 (l:OpenLaw)(args:List WData):l.row.toRowW.claim.post args (.bool true) args=true:=
 postW_of (r:=l.row.toRowW) (X:=(true == true))
  (show WShape.has [] (.bool true) .bool=true by first | rfl | decide | simp[WShape.has,WShape.arms,WShape.armsAll])
  (show(WTm.eq .res (.lit (.bool true))).value [] { args:=args,res:=some (.bool true),after:=args }=some (.bool (true == true)) from w_eq_bool (w_res rfl) w_lit) rfl
theorem attach_call {l:OpenLaw}{n:Nat}{q:Program}{loose:List Str}{XP:(Str->Option Value)->Heap->Prop}{YP:World->Heap->Prop}{d:DefRec}
 (hn:l.most=some n)(hdf:d.params.defaults=[])
 (call:∀ (w:World)(s₀ s₁:Shared)(mg mb:Str->Option Value)(fa:Addr)(o:Obj)(pm cd doc:Value)(a:Addr)(vs:List Value)(ns:List Int),
  Ground q loose [] XP w s₀ mg mb s₁.heap->YP w s₁.heap->
  s₁.heap.get? fa=some o->o.data = .func (docDef d.name d.params d.body d.scope pm cd doc)->s₁.heap.CodeRec cd d.name->mg d.name=some (.ref fa)->
  s₁.heap.get? a=some { cls:=.type "list",data:=.seq vs.toArray }->IntsAre vs ns->ns.length<=n->s₁.gens = #[]->
  codeAny (model l.prog w) callerA (.call (.ref fa) ⟨[.ref a],[]⟩) (fun r s'=>r = .ok (.ret (.bool true))/\OldK s₁.heap s'.heap/\s'.os=s₁.os/\AllBare s'.gens) s₁) :
 WalkO q loose XP YP l.row.toRowW d [] (fun f vs=>PySem.call f vs):=by
 intro w s₀ s₁ mg mb G Y fa o pm cd doc dV kV ho hd hcd hD hmg hg args vals as hpre hlay hrd hwl hlo;obtain rfl:dV = .none:=Dflts.none hD hdf;obtain rfl:kV = .none:=Dflts.noKw hD;obtain⟨a,vs,ns,rfl,rfl,hobj,hints,ai⟩:=Zm5 hn hpre hwl;refine enter_call (codeAny_mono (call w s₀ s₁ mg mb fa o pm cd doc a vs ns G Y ho (fd_plain hd) hcd hmg hobj hints ai hg) fun r s' hq=>?_);obtain⟨rfl,h2,h3,h4⟩:=hq;exact⟨.inl ⟨.bool true,.bool true,[],rfl,fun _=>rfl,.bool true,Zn5 l _,fun _=>⟨List.Pairwise.nil,fun _ hm=>(nomatch hm)⟩⟩,h2,h3,h4⟩
section
variable {prog:Program}{w:World}{A:Around}{E:Value->Shared->Prop}{s:Shared}{K:Frag}
noncomputable def ledger (h:Heap) (L d:Addr):List (Addr×Obj):=(List.range h.objs.size).filterMap fun a=>if a=L\/a=d then none else(h.get? a).map fun o=>(a,o)
end
end Att
namespace L2
open PySem PySem.Spec PyProof.Rows
variable {P:Program}{w:World}{K:W.Frag}{mg:Str->Option Value}{base:Heap}
theorem Zio:∀ {vs:List Value}{ns:List Int},IntsAre vs ns->Vals (ns.map V.int) vs
 | _,_,.nil=>.nil
 | _,_,.cons n t h=>.cons ⟨t,rfl⟩ (Zio h)
noncomputable abbrev KOf {K:W.Frag}{h:Heap}(_:K.In h):W.Frag:=K
noncomputable def Zbh (s:Stmt) (j:Nat):Stmt:=match s with
 | .ClassDef _ _ _ body _ _ _ _ _ _ _=>body.getD j (.Pass ⟨0,0,0,0⟩)
 | _=>.Pass ⟨0,0,0,0⟩
noncomputable def Za3 (s:Stmt):Arguments:=match s with
 | .FunctionDef _ a _ _ _ _ _ _ _ _=>a
 | _=>{ posonlyargs:=[],args:=[],vararg:=none,kwonlyargs:=[],kw_defaults:=[],kwarg:=none,defaults:=[] }
noncomputable def Zaq (s:Stmt):List Stmt:=match s with
 | .FunctionDef _ _ b _ _ _ _ _ _ _=>b
 | _=>[]
noncomputable def Zad (s:Stmt):Scope:=match s with
 | .FunctionDef _ _ _ _ _ _ sc _ _ _=>sc
 | _=>{ kind:=.function,names:=[],isGenerator:=false,isCoroutine:=false }
abbrev CX0:CXT:=fun _ _ _ _ _ _=>False
abbrev E0:XK:=fun _ _ _=>False
theorem Zb6 {X:Cx}:Zbu CX0 X E0:=fun _ _ _ _ _ _ _ h=>h.elim
structure Fun (K:W.Frag)(x qual:Str)(st:Stmt)(f:Addr)(fd:FuncData):Prop where
 ex:∃ (oc:Value) (od:Option Addr) (kV doc pm:Value) (an:Option Addr) (ad ct:Value) (osl:Array (Option Value)),
  fd=W.fnOf x qual (Za3 st) (Zaq st) (Zad st) .none kV doc pm an ad ct/\K.lookup f=some ⟨oc,od,.func fd,osl⟩/\PySem.W.codeIn K ad qual=true
 kp:W.keepIn K (.ref f)=true
theorem Fun.ok {x qual:Str}{st:Stmt}{f:Addr}{fd:FuncData}{N ps:List Str}{k:Nat}{sp:Sp}(F:Fun K x qual st f fd)(S:Zak N ps (Zad st))(len:∀ vs H Q E,sp vs H Q E->vs.length=ps.length)
 (ah:∀ (ad:Value)(A:Around)(outer:List Env)(s:Shared)(H:Hp)(vs:List V)(Q:VK)(E:XK),Room k (A.deeper (envOfC qual (Zad st) s.heap.objs.size f ad))->sp vs H Q E->
  ∃ t,PSs (Zc1 CX0 P w K mg base N qual (Zad st) f ad A outer s H E).nox (Zaq st) t/\t { nx:=fun _ H'=>Q .non H',rt:=Q } (Zce N vs) H):FnOk P w K mg base CX0 (k+1) f fd ps sp:=by
 obtain⟨oc,od,kV,doc,pm,an,ad,ct,osl,rfl,lk,hcd⟩:=F.ex;refine Zhf lk hcd S len fun A outer s H vs Q E hr hsp=>?_;obtain⟨t,h,q⟩:=ah ad A outer s H vs Q E hr hsp;exact⟨t,h.nox,q⟩
theorem Fun.binds {x qual:Str}{st:Stmt}{f:Addr}{fd:FuncData}{ps:List Str}(F:Fun K x qual st f fd)
 (h:∀ (kV doc pm:Value)(an:Option Addr)(ad ct:Value)(us:List Value),us.length=ps.length->bindArgs (W.fnOf x qual (Za3 st) (Zaq st) (Zad st) .none kV doc pm an ad ct) ⟨us,[]⟩=pure (ps.zip us)):Binds K fd ps []:=by
 obtain⟨oc,od,kV,doc,pm,an,ad,ct,osl,rfl,lk,hcd⟩:=F.ex;exact .all (h kV doc pm an ad ct)
theorem Zs5 {x qual:Str}{st:Stmt}{f:Addr}{oc:Value}{od an:Option Addr}{osl:Array (Option Value)}{kV doc pm ad ct:Value}(l:K.lookup f=some ⟨oc,od,.func (W.fnOf x qual (Za3 st) (Zaq st) (Zad st) .none kV doc pm an ad ct),osl⟩)
 (c:PySem.W.codeIn K ad qual=true)(k:W.keepIn K (.ref f)=true):Fun K x qual st f (W.fnOf x qual (Za3 st) (Zaq st) (Zad st) .none kV doc pm an ad ct):=⟨⟨oc,od,kV,doc,pm,an,ad,ct,osl,rfl,l,c⟩,k⟩
theorem Zjz {A:Around}{k:Nat}(hr:Room k A):A.units+1<cLine:=Xbm (Xbo (by decide:1<=64) _) hr.units
section
variable {X:Cx}
theorem pv (i:Nat){x:Str}{pos:Pos}(hN:X.N[i]? = some x:=by rfl)(hv:Vis X.env.scope x:=by first | exact Or.inl rfl | exact Or.inr (Or.inl rfl) | exact Or.inr (Or.inr rfl))(hd:(x == ("__debug__" : Str))=false:=by decide)
 (hcd:(x == ("__classdict__" : Str))=false:=by decide):PE X (.Name x pos) (Zyn i):=Zs0 hN hv hd hcd
end
theorem Zby {A B:Prop}(h:B):if false=true then A else B:=by
 rw[if_neg Xap];exact h
theorem Zbz {A B:Prop}(h:A):if true=true then A else B:=by
 rw[if_pos rfl];exact h
theorem Zcl {c A B:Prop} [Decidable c] (h1:c->A)(h2:¬ c->B):if c then A else B:=by
 by_cases h:c
 . rw[if_pos h];exact h1 h
 . rw[if_neg h];exact h2 h
section
variable {κ:Type} [DecidableEq κ]
theorem Zr8 {kvs:List (κ×V)}{k:κ}(h:Zcf kvs k=none):¬ k∈kvs.map (·.1):=by
 intro m;obtain⟨p,hp,e⟩:=List.mem_map.mp m;have q:(kvs.any fun kv=>decide (kv.1=k))=true:=List.any_eq_true.mpr ⟨p,hp,Xah e⟩;rw[Zef,h] at q;exact absurd q (by simp)
theorem Zpv:∀ {l:List κ}{k:κ},l.Nodup->¬ k∈l->(l++[k]).Nodup
 | [],k,_,_=>by simp
 | a :: r,k,h,hk=>by
  obtain⟨h1,h2⟩:=List.nodup_cons.mp h;show(a :: (r++[k])).Nodup;refine List.nodup_cons.mpr ⟨fun m=>?_,Zpv h2 fun m=>hk (List.mem_cons.mpr (Or.inr m))⟩;rcases List.mem_append.mp m with q | q
  . exact h1 q
  . exact hk (List.mem_cons.mpr (Or.inl (List.mem_singleton.mp q).symm))
theorem Zty {kvs:List (κ×V)}{k:κ}(v:V)(hn:(kvs.map (·.1)).Nodup)(h:Zcf kvs k=none):((Ze4 kvs k v).map (·.1)).Nodup:=by
 rw[Zfg v h,Xbk];exact Zpv hn (Zr8 h)
theorem Zop {p:κ×V}{r:List (κ×V)}{k:κ}(e:p.1=k):Zc0 (p :: r) k=Zc0 r k:=by
 unfold Zc0;rw[List.filter_cons,if_neg (by simp[e])]
theorem Zpf {p:κ×V}{r:List (κ×V)}{k:κ}(e:¬ p.1=k):Zc0 (p :: r) k=p :: Zc0 r k:=by
 unfold Zc0;rw[List.filter_cons,if_pos (by simp[e])]
theorem Zfs {kvs:List (κ×V)}{k:κ}{p:κ×V}(h:p∈Zc0 kvs k):p∈kvs:=(List.mem_filter.mp h).1
theorem Zg5:∀ {kvs:List (κ×V)}{k:κ},(kvs.map (·.1)).Nodup->((Zc0 kvs k).map (·.1)).Nodup
 | [],_,_=>List.nodup_nil
 | p :: r,k,h=>by
  have h:(p.1 :: r.map (·.1)).Nodup:=h;obtain⟨h1,h2⟩:=List.nodup_cons.mp h;by_cases e:p.1=k
  . rw[Zop e];exact Zg5 h2
  . rw[Zpf e];show(p.1 :: (Zc0 r k).map (·.1)).Nodup;refine List.nodup_cons.mpr ⟨fun m=>h1 ?_,Zg5 h2⟩;obtain⟨q,hq,eq⟩:=List.mem_map.mp m;exact List.mem_map.mpr ⟨q,Zfs hq,eq⟩
end
end L2
namespace Gb
noncomputable def spl (n:Nat):Nat:=2 ^ Nat.log2 (n - 1)
theorem spl_pos (n:Nat):1<=spl n:=Nat.one_le_two_pow
theorem spl_lt {n:Nat}(h:2<=n):spl n<n:=by
 have:=Nat.log2_self_le (n:=n - 1) (by omega);unfold spl;omega
theorem spl_ge {n:Nat}(h:2<=n):n<=2 * spl n:=by
 have:=Nat.lt_log2_self (n:=n - 1);unfold spl;rw[Nat.pow_succ] at this;omega
theorem spl_unique {n j:Nat}(h1:2 ^ j<n)(h2:n<=2 * 2 ^ j):2 ^ j=spl n:=by
 unfold spl;have hp:1<=2 ^ j:=Nat.one_le_two_pow;have e:Nat.log2 (n - 1)=j:=(Nat.log2_eq_iff (by omega)).mpr ⟨by omega,by rw[Nat.pow_succ];omega⟩;rw[e]
section
variable {α:Type}(nl:α)(pr:α->α->α)
noncomputable def topT (ts:List α):α:=
 if h:ts.length<2 then ts.headD nl
 else pr (topT (ts.take (spl ts.length))) (topT (ts.drop (spl ts.length)))
termination_by ts.length
decreasing_by
 . have:=spl_lt (n:=ts.length) (by omega);simp;omega
 . have:=spl_pos ts.length;simp;omega
theorem topT_nil:topT nl pr []=nl:=by unfold topT;rfl
theorem topT_one (t:α):topT nl pr [t]=t:=by unfold topT;rfl
theorem topT_more {ts:List α}(h:2<=ts.length):topT nl pr ts=pr (topT nl pr (ts.take (spl ts.length))) (topT nl pr (ts.drop (spl ts.length))):=by
 rw[topT,dif_neg (by omega)]
noncomputable def growT (ts:List α) (old:Nat):List α:=
 if old=0 then []
 else if h:ts.length<=old then [topT nl pr ts]
 else if old<=spl ts.length then growT (ts.take (spl ts.length)) old++[topT nl pr (ts.drop (spl ts.length))]
 else growT (ts.drop (spl ts.length)) (old - spl ts.length)++[topT nl pr (ts.take (spl ts.length))]
termination_by ts.length
decreasing_by
 . have:=spl_lt (n:=ts.length) (by omega);simp;omega
 . have:=spl_pos ts.length;simp;omega
theorem growT_zero (ts:List α):growT nl pr ts 0=[]:=by rw[growT,if_pos rfl]
theorem growT_all {ts:List α}{old:Nat}(h0:old≠0)(h:ts.length<=old):growT nl pr ts old=[topT nl pr ts]:=by rw[growT,if_neg h0,dif_pos h]
theorem growT_low {ts:List α}{old:Nat}(h0:old≠0)(h:old<ts.length)(h2:old<=spl ts.length):growT nl pr ts old=growT nl pr (ts.take (spl ts.length)) old++[topT nl pr (ts.drop (spl ts.length))]:=by
 rw[growT,if_neg h0,dif_neg (by omega),if_pos h2]
theorem growT_high {ts:List α}{old:Nat}(h0:old≠0)(h:old<ts.length)(h2:¬ old<=spl ts.length):growT nl pr ts old=growT nl pr (ts.drop (spl ts.length)) (old - spl ts.length)++[topT nl pr (ts.take (spl ts.length))]:=by
 rw[growT,if_neg h0,dif_neg (by omega),if_neg h2]
theorem growT_len:∀ (j:Nat)(ts:List α)(old:Nat),ts.length<=2 ^ j->(growT nl pr ts old).length<=j+1
 | j,ts,old,h=>by
  by_cases h0:old=0
  . subst h0;rw[growT_zero];simp
  by_cases h1:ts.length<=old
  . rw[growT_all nl pr h0 h1];simp
  have h2:2<=ts.length:=by omega
  have a:=spl_lt h2;have b:=spl_ge h2
  match j,h with
  | 0,h=>simp at h;omega
  | j+1,h=>
   have c:spl ts.length<=2 ^ j:=by
    unfold spl;refine Nat.pow_le_pow_right (by omega) ?_;have:2 ^ Nat.log2 (ts.length - 1)<2 ^ (j+1):=Nat.lt_of_lt_of_le (spl_lt h2) h;have:=(Nat.pow_lt_pow_iff_right (by omega:1<2)).mp this;omega
   by_cases h3:old<=spl ts.length
   . rw[growT_low nl pr h0 (by omega) h3];have:=growT_len j (ts.take (spl ts.length)) old (by simp;omega);simp;omega
   . rw[growT_high nl pr h0 (by omega) h3];have:=growT_len j (ts.drop (spl ts.length)) (old - spl ts.length) (by simp;omega);simp;omega
noncomputable def pathT (ts:List α) (place:Nat):List α:=
 if h:ts.length<2 then []
 else if place<spl ts.length then pathT (ts.take (spl ts.length)) place++[topT nl pr (ts.drop (spl ts.length))]
 else pathT (ts.drop (spl ts.length)) (place - spl ts.length)++[topT nl pr (ts.take (spl ts.length))]
termination_by ts.length
decreasing_by
 . have:=spl_lt (n:=ts.length) (by omega);simp;omega
 . have:=spl_pos ts.length;simp;omega
theorem pathT_few {ts:List α}{place:Nat}(h:ts.length<2):pathT nl pr ts place=[]:=by rw[pathT,dif_pos h]
theorem pathT_low {ts:List α}{place:Nat}(h:2<=ts.length)(h2:place<spl ts.length):pathT nl pr ts place=pathT nl pr (ts.take (spl ts.length)) place++[topT nl pr (ts.drop (spl ts.length))]:=by
 rw[pathT,dif_neg (by omega),if_pos h2]
theorem pathT_high {ts:List α}{place:Nat}(h:2<=ts.length)(h2:¬ place<spl ts.length):pathT nl pr ts place=pathT nl pr (ts.drop (spl ts.length)) (place - spl ts.length)++[topT nl pr (ts.take (spl ts.length))]:=by
 rw[pathT,dif_neg (by omega),if_neg h2]
end
end Gb
namespace Gb
section
variable {α:Type}(nl:α)(pr:α->α->α)
noncomputable def hp (n:Nat):Nat:=2 ^ Nat.log2 n
noncomputable def fr:List α->α
 | []=>nl
 | [x]=>x
 | x :: y :: r=>pr x (fr (y :: r))
end
end Gb
namespace L2
open PySem PySem.Spec PyProof.Rows
variable {P:Program}{w:World}{K:W.Frag}{mg:Str->Option Value}{base:Heap}
def Zch (P:Program)(w:World)(K:W.Frag)(mg:Str->Option Value)(base:Heap)(CX:CXT)(k:Nat)(sp:Addr->Sp):Prop:=
 ∀ (f:Addr) (A:Around) (outer:List Env) (s:Shared) (H:Hp) (us:List Value) (vs:List V) (Q:VK) (E:XK),Room k A->Env0 P w K mg base A outer s H->Vals vs us->sp f vs H Q E->
  codeAny (model P w) A (.call (.ref f) ⟨us,[]⟩) (CR CX outer P w H s Q E) s
theorem FnOk.called {CX:CXT}{k:Nat}{f:Addr}{fd:FuncData}{ps:List Str}{sp:Sp}(F:FnOk P w K mg base CX k f fd ps sp)(hb:Binds K fd ps [])
 {A:Around}{outer:List Env}{s:Shared}{H:Hp}{us:List Value}{vs:List V}{Q:VK}{E:XK}(hr:Room k A) (e0:Env0 P w K mg base A outer s H) (r:Vals vs us) (h:sp vs H Q E) :
 codeAny (model P w) A (.call (.ref f) ⟨us,[]⟩) (CR CX outer P w H s Q E) s:=by
 have KX:K.In s.heap:=e0.mod.kin.keeps fun b o e=>(e0.bs b o e).1;have hl:(us++[]).length=ps.length:=by rw[Xba,<- r.length];exact F.len _ _ _ _ h
 have b:=hb s us KX hl;rw[Xba] at b;exact F.run A outer s H ⟨us,[]⟩ us vs Q E hr e0 b r h
def Fny (K:W.Frag)(H:Hp)(f:Addr):Prop:=
 (∃ oc od fd sl,K.lookup f=some ⟨oc,od,.func fd,sl⟩)\/∃ oc od fd sl u,H f=some (.frz ⟨oc,od,.func fd,sl⟩ u)
section
variable {X:Cx}{CX:CXT}{k:Nat}{f:Addr}{sp:Addr->Sp}{E:XK}{x:Str}{p pos:Pos}{e:Expr}{es:List Expr}{t:TA}{i:Nat}
theorem Inv.fnAt {aa:List (Addr×Obj)}{σ:St}{H:Hp}{s:Shared}(I:Inv X aa σ H s)(h:Fny X.K H f):PySem.W.FnAt f s.heap:=by
 rcases h with⟨oc,od,fd,sl,e⟩ | ⟨oc,od,fd,sl,u,e⟩
 . exact⟨oc,od,fd,sl,I.kIn _ _ e⟩
 . exact⟨oc,od,fd,sl,(I.hok _ _ e).1⟩
theorem Zvb {aa:List (Addr×Obj)}{σ:St}{H:Hp}{s:Shared}{Q:VK}{us:List Value}{vs:List V}(F:Zch X.prog X.w X.K X.mg X.base CX k sp)(hr:Room k X.A)(hx:Zbu CX X E)
 (I:Inv X aa σ H s)(r:Vals vs us)(h:sp f vs H Q E):wpAny (model X.prog X.w) X.A (call (.ref f) us) (EP X aa σ Q) X.xe s:=by
 refine Xb5 (codeAny_mono (F f X.A X.stack s H us vs Q E hr I.env0 r h) fun r s' hq=>?_);cases r with
 | error e=>exact hx aa σ H s e s' I hq
 | ok fl=>
  cases fl with
  | ret u=>exact I.after hq
  | next=>exact False.elim hq
  | brk=>exact False.elim hq
  | cont=>exact False.elim hq
def Zs3 (K:W.Frag)(i:Nat)(sp:Addr->Sp)(E:XK)(t:TA):TE:=fun σ H Q=>∃ f,σ[i]? = some (some (.ref f))/\Fny K H f/\t σ H fun vs H1=>Fny K H1 f/\sp f vs H1 Q E
theorem Zbd (F:Zch X.prog X.w X.K X.mg X.base CX k sp)(hr:Room k X.A)(hx:Zbu CX X E)(hN:X.N[i]? = some x)(hv:Vis X.env.scope x)(ha:PA X (e :: es) t)
 (hdb:NDa x:=by decide)(hcd:(x == ("__classdict__" : Str))=false:=by decide)
 (he:SEa X e es:=by rfl)(hpl:SPa X es pos:=by rfl) :
 PE X (.Call (.Name x p) (e :: es) [] pos) (Zs3 X.K i sp E t):=by
 intro aa s σ H Q I h;obtain⟨f,ef,hf,h⟩:=h;refine Xbp (thn (Zs0 (i:=i) hN hv hdb hcd aa s σ H (fun v H'=>v = .ref f/\H'=H) I ⟨_,ef,rfl,rfl⟩) fun u s1 hz=>?_);obtain⟨v,H1,I1,r1,e1,e2⟩:=hz;subst e1 e2;obtain rfl:u=Value.ref f:=r1;refine PySem.W.callWith_F (first:=[]) (I1.fnAt hf) (thn (ha pos aa s1 σ H1 _ I1 h) fun us s2 ⟨vs,H2,I2,r,hf2,q⟩=>⟨I2.fnAt hf2,?_⟩) he hpl;exact Zvb F hr hx I2 r q
end
section
variable {X:Cx}
theorem Zih:MtR X "int.bit_length" (fun x vs H Q=>∃ i,x = .int i/\vs=[]/\Q (.int (Builtin.Int.intBits i:Nat)) H):=by
 intro aa s σ H x vs v us Q I rx rv h;obtain⟨i,rfl,rfl,q⟩:=h;obtain⟨t,rfl⟩:=rx;cases rv.zero
 exact call_int_bit_length ⟨.int _,H,I.tok _,⟨_,rfl⟩,q⟩
theorem Zcq:Zd8 X (.builtin "isinstance") (fun xs H Q=>∃ x t c b,xs=[x,.ty c]/\Zma X.K H x t/\W.kitOne X.K t (.type c)=some b/\Q (.bl b) H):=by
 intro aa s σ H xs us Q I r h;obtain⟨x,t,c,b,rfl,ty,e,q⟩:=h;obtain⟨u,w',rfl,rx,rc⟩:=Znn r;obtain rfl:w'=Value.type c:=rc;exact Zow I rx ty e fun tk=>⟨.bl b,H,I.tok tk,rfl,q⟩
def Scr (K:W.Frag)(H:Hp)(a:Addr)(xs:List V):Prop:=
 ∃ (its:List Value) (n:Nat),Vals xs its/\xs.length<=sizeLine/\((∃ u,H a=some (.frz { cls:=.type "list",data:=.seq its.toArray n } u))\/K.lookup a=some { cls:=.type "list",data:=.seq its.toArray n })
end
def EqV (H:Hp):Nat->V->V->Prop
 | 0,x,y=>x=y/\Zd4 x=true
 | n+1,x,y=>(x=y/\Zd4 x=true)\/∃ a b xs ys,x = .ref a/\y = .ref b/\H a=some (.tup xs)/\H b=some (.tup ys)/\xs.length=ys.length/\∀ (i:Nat) u v,xs[i]? = some u->ys[i]? = some v->EqV H n u v
theorem Zb4 {x:V}(h:Zd4 x=true):eqV x x=true:=by
 cases x <;> first | rfl | exact beq_self_eq_true _ | cases h
theorem Zcx (n:Nat):(List.range n).all (fun _=>true)=true:=by simp
theorem Vals.at {xs:List V}{its:List Value}(r:Vals xs its){j:Nat}(h:j<its.toArray.size):∃ x,xs[j]? = some x/\RelV x its.toArray[j]:=by
 have hl:=r.length;have hj:j<xs.length:=by simp at h;omega
 obtain⟨u,hu,ru⟩:=r.get (i:=j) (x:=xs[j]) (by simp[hj]);refine⟨xs[j],by simp[hj],?_⟩;have:its.toArray[j]=u:=by
  have h2:j<its.length:=by simpa using h
  rw[List.getElem_toArray];rw[Xab h2] at hu;exact Option.some.inj hu
 rw[this];exact ru
theorem Zm3 {P:Program}{w:World}{H:Hp}{s:Shared}(ok:HOk P w H s.heap):∀ (n:Nat)(x y:V)(u v:Value)(A:Around),EqV H n x y->RelV x u->RelV y v->A.units+n<cLine->SeqAt.EqAt A s u v true
 | 0,x,y,u,v,A,h,rx,ry,_=>by
  obtain⟨rfl,f⟩:=h;have:=Zo6 (A:=A) (s:=s) rx ry f f;rw[Zb4 f] at this;exact this
 | n+1,x,y,u,v,A,h,rx,ry,hu=>by
  rcases h with⟨rfl,f⟩ | ⟨a,b,xs,ys,rfl,rfl,ha,hb,hl,hi⟩
  . have:=Zo6 (A:=A) (s:=s) rx ry f f;rw[Zb4 f] at this;exact this
  . obtain rfl:u=Value.ref a:=rx;obtain rfl:v=Value.ref b:=ry;by_cases e:a=b
    . subst e;exact SeqAt.EqAt.same _
    obtain⟨za,its,r,pa⟩:=ok _ _ ha;obtain⟨zb,its2,r2,pb⟩:=ok _ _ hb;have q:=SeqAt.RcAt.tuples (A:=A) (s:=s) (e:=fun _=>true) (show s.heap.IsTuple a its.toArray from pa) (show s.heap.IsTuple b its2.toArray from pb) om fun j h1 h2=>by
     obtain⟨x1,e1,q1⟩:=r.at h1;obtain⟨y1,e2,q2⟩:=r2.at h2;exact Zm3 ok n x1 y1 _ _ A.in1 (hi j x1 y1 e1 e2) q1 q2 (by show A.units+1+n<cLine;omega)
    have e3:((List.range (min its.toArray.size its2.toArray.size)).all (fun _=>true) && its.toArray.size == its2.toArray.size)=true:=by
     have h1:=r.length;have h2:=r2.length
     rw[Zcx,Bool.true_and];simp;omega
    rw[e3] at q;exact SeqAt.EqAt.of_refs e q
section
variable {X:Cx}
def rEqL (K:W.Frag)(un:Nat)(b:Bool):R2:=fun x y H Q=>∃ p q xs ys n,x = .ref p/\y = .ref q/\SqL K H p xs/\SqL K H q ys/\xs.length=ys.length/\(∀ (i:Nat) u v,xs[i]? = some u->ys[i]? = some v->EqV H n u v)/\un+n+1<cLine/\Q (.bl b) H
theorem Zt4:OpR X (compareOp .Eq) (rEqL X.K X.A.units true):=by
 intro aa s σ H x y v u Q I rx ry h;obtain⟨a,b,xs,ys,n,rfl,rfl,ha,hb,hl,hi,hu,q⟩:=h;obtain rfl:v=Value.ref a:=rx;obtain rfl:u=Value.ref b:=ry;obtain⟨its,r,pa,za⟩:=I.list ha;obtain⟨its2,r2,pb,zb⟩:=I.list hb;have h1:=r.length;have h2:=r2.length
 have q2:=SeqAt.RcAt.lists (A:=X.A) (s:=s) (e:=fun _=>true) pa.isList pb.isList (by simp;omega) om fun j h1 h2=>by
  obtain⟨x1,e1,q1⟩:=r.at h1;obtain⟨y1,e2,q2⟩:=r2.at h2;exact Zm3 I.hok n x1 y1 _ _ X.A.in1 (hi j x1 y1 e1 e2) q1 q2 (by show X.A.units+1+n<cLine;omega)
 rw[Zcx] at q2;exact q2 X.prog X.w X.xe _ ⟨.bl true,H,I,rfl,q⟩
end
theorem Zl8 {prog:Program}{w:World}{d:Addr}(hd:(d == sysModules)=false) :
 MeetsIn prog w (Builtin.«dict.__len__» ⟨[.ref d],[]⟩) (fun _ R s=>∃ o es ep,s.heap.get? d=some o/\o.data = .dict es ep/\R (.ok (.ret (.int es.size s.toks))) { s with toks:=s.toks+1 }):=
 .of_wp fun A R s ⟨o,es,ep,ho,hdat,h⟩=>by
  show wpAny _ _ (dictSize d >>= _) _ _ s;unfold dictSize;refine Xaa (Xaa (wpAny_dictEntries ho hdat (Xak ?_)));show wpAny _ _ (Builtin.Dict.pendingCount d >>= _) _ _ s;refine Xaa (wpAny_pendingCount_other hd ?_);refine wpAny_ret_mkInt ?_;rw[Nat.add_zero];exact h
theorem Zfv {prog:Program}{w:World}{A:Around}{E:Value->Shared->Prop}{s:Shared}{d:Addr}{o:Obj}{es:Array DictEntry}{ep:Nat}{Q:Value->Shared->Prop}(hd:(d == sysModules)=false)(ho:s.heap.get? d=some o)
 (hx:o.ExactDict)(hdt:o.data = .dict es ep)(hfit:(es.size:Int)<2 ^ 63)(h:Q (.int es.size (s.toks+1)) { s with toks:=s.toks+1+1 }):wpAny (model prog w) A (call (.builtin "len") [.ref d]) Q E s:=by
 refine Calls.call_function_entry kind_len plain_len entry_len (args_len1 _) ?_;unfold Builtin.«len»;have ty:s.TypeIs (.ref d) "dict":=⟨o,ho,hx.1⟩
 refine Xaa (m:=oneArg "len" _) (Xak ?_);refine Xaa (m:=callSpecial? (.ref d) (Str.ofString "__len__")) (wpAny_callSpecial?_slot (name:=Str.ofString "__len__") ty F.slot_dict_len
  (call_meetsIn F.slot_dict_len ty F.entry_dict_len (F.args_dict_len_1 _) (Zl8 hd) ⟨o,es,ep,ho,hdt,?_⟩))
 show wpAny _ _ _ _ _ { s with toks:=s.toks+1 };refine Xaa (Xbi (Xak ?_));refine Xaa (wpAny_letGo ?_);show wpAny _ _ (if ((es.size:Nat):Int)<0 then _ else _) _ _ _;rw[if_neg om];show wpAny _ _ (if ((es.size:Nat):Int)>=2 ^ 63 then _ else _) _ _ _;rw[if_neg om];exact Xaa (wpAny_mkInt (Xak ⟨_,rfl,h⟩))
theorem Znw {X:Cx}:Zd8 X (.builtin "len") (fun xs H Q=>∃ a kvs,xs=[V.ref a]/\H a=some (.dT kvs)/\Q (.int kvs.length) H):=by
 intro aa s σ H xs us Q I r h;obtain⟨a,kvs,rfl,ha,q⟩:=h;obtain⟨u,rfl,ru⟩:=Zd7 r;cases ru
 obtain⟨z,hd,ys,rel,o,es,ep,ho,hx,hdt,hes,hnd⟩:=I.hok _ _ ha;have e:es.size=kvs.length:=by
  have h1:=congrArg List.length hes;have h2:=Paired.length rel;simp at h1;omega
 refine Zfv hd ho hx hdt (by rw[Xam] at z;omega) ?_;rw[e];exact⟨.int kvs.length,H,I.tok _,⟨_,rfl⟩,q⟩
noncomputable def cxCl (P:Program) (w:World) (K:W.Frag) (mg:Str->Option Value) (base:Heap) (N:List Str) (qual:Str) (scope:Scope) (f:Addr) (cd:Value) (cl:List (Str×Addr)) (A:Around) (outer:List Env) (s:Shared) (H:Hp):Cx where
 prog:=P
 w:=w
 K:=K
 mg:=mg
 base:=base
 A:=A.deeper (PySem.W.envX qual scope s.heap.objs.size f cd cl)
 N:=N
 s₀:=s
 H₀:=H
 env:=PySem.W.envX qual scope s.heap.objs.size f cd cl
 outer:=outer
 stack:=PySem.W.envX qual scope s.heap.objs.size f cd cl :: outer
 ex:=[]
 calm:=true
 fn:=fun _=>false
 pn:=[]
 xe:=fun _ _=>False
structure Zpz (ps:List Str)(y:Str)(sc:Scope):Prop where
 kind:sc.kind = .function
 co:sc.isCoroutine=false
 gen:sc.isGenerator=false
 nd:(ps++[y]).Nodup
 par:∀ x∈ps,sc.names.lookup x=some .local
 nocell:∀ z∈sc.names,z.2≠.cell
 free:∀ x,sc.names.lookup x=some .free->x=y
 isfree:sc.names.lookup y=some .free
theorem Zgc {ps:List Str}(hn:ps.Nodup):∀ {us:List Value}{i:Nat}{x:Str}{u:Value},ps[i]? = some x->us[i]? = some u->ps.length=us.length->(ps.zip us).reverse.lookup x=some u:=by
 intro us i x u h1 h2 hl;have key:∀ (l:List (Str×Value)),(l.map (·.1)).Nodup->(x,u)∈l->l.lookup x=some u:=by
  intro l
  induction l with
  | nil=>intro _ h;cases h
  | cons p r ih=>
   intro hn hm;obtain⟨a,b⟩:=p;have hn':=List.nodup_cons.mp hn;rw[List.lookup_cons];rcases List.mem_cons.mp hm with e | hm2
   . cases e;simp
   . have hne:(x == a)=false:=by
      rw[beq_eq_false_iff_ne];intro e;exact hn'.1 (List.mem_map.mpr ⟨(x,u),hm2,e⟩)
     rw[hne];exact ih hn'.2 hm2
 refine key _ ?_ ?_
 . rw[List.map_reverse];have e:(ps.zip us).map (·.1)=ps:=by rw[List.map_fst_zip om]
   rw[e];exact List.pairwise_reverse.mpr (hn.imp Ne.symm)
 . refine List.mem_reverse.mpr (Xa7 (i:=i) ?_);rw[List.getElem?_zip_eq_some];exact⟨h1,h2⟩
theorem Zrw {k:Nat}{f c c':Addr}{name qual y:Str}{params:Arguments}{body:List Stmt}{scope:Scope}{doc pm ct oc:Value}{od:Option Addr}{osl:Array (Option Value)}{ps:List Str}{ob co:Obj}{cvs:Array Value}{ctk:Tok}{cu:Value}{cv:V}
 {A:Around}{outer:List Env}{s:Shared}{H:Hp}{us:List Value}{vs:List V}{Q:VK}{E:XK}
 (S:Zpz ps y scope)(hr:Room (k+1) A)(e0:Env0 P w K mg base A outer s H)(r:Vals vs us)(hl:vs.length=ps.length)
 (hf:H f=some (.frz ⟨oc,od,.func (PySem.W.fnX name qual params body scope [(y,c)] .none .none doc pm none (.ref c') ct),osl⟩ (.own 0)))
 (hc':H c'=some (.frz ob (.own 0)))(hob:ob.data = .fields cvs)(hcq:cvs[1]? = some (.str qual ctk))
 (hc:H c=some (.frz co (.own 0)))(hco:co.data = .cell (some cu))(rc:RelV cv cu)
 (hbind:∀ us:List Value,us.length=ps.length->bindArgs (PySem.W.fnX name qual params body scope [(y,c)] .none .none doc pm none (.ref c') ct) ⟨us,[]⟩=pure (ps.zip us))
 (ah:Room k (A.deeper (PySem.W.envX qual scope s.heap.objs.size f (.ref c') [(y,c)]))->
  ∃ t,PSs (cxCl P w K mg base (ps++[y]) qual scope f (.ref c') [(y,c)] A outer s H) body t/\t { nx:=fun _ H'=>Q .non H',rt:=Q } (vs.map some++[some cv]) H) :
 codeAny (model P w) A (.call (.ref f) ⟨us,[]⟩) (CR CX0 outer P w H s Q E) s:=by
 have lim:s.heap.NoLimit:=e0.mod.nolimit.keeps fun b o e=>(e0.bs b o e).1;have of:=(e0.hok _ _ hf).1;have oc':=(e0.hok _ _ hc').1;have occ:=(e0.hok _ _ hc).1;have hul:us.length=ps.length:=by rw[<- r.length];exact hl
 refine codeAny_call_function hr.depth of rfl S.co S.gen rfl ⟨c',ob,cvs,ctk,rfl,oc',hob,hcq⟩ (BindsTo.of_eq (hbind us hul) _ _ _ _ ?_);refine wpAny_newFunctionEnv S.nocell (fun x hx=>S.par _ (List.of_mem_zip (show(x.1,x.2)∈ps.zip us from hx)).1) (fun h1 hns hsb=>?_) S.kind;have hk:∀ b o,s.heap.get? b=some o->h1.get? b=some o:=fun b o e=>hsb.extBut b o (Xaw (Xai e)) (Xac _ e);refine⟨lim.keeps hk,codeAny_func ?_⟩;obtain⟨t,ht,hq⟩:=ah (hr.deeper _);have noA:∀ b:Addr,b∉(cxCl P w K mg base (ps++[y]) qual scope f (.ref c') [(y,c)] A outer s H).ex:=fun b z=>absurd (show b∈([]:List Addr) from z) (by simp);have lk:∀ x a,([(y,c)]:List (Str×Addr)).lookup x=some a->x=y/\a=c:=fun x a e=>by
  rw[List.lookup_cons] at e;cases hb:x == y with
  | true=>rw[hb] at e;cases e;exact⟨eq_of_beq hb,rfl⟩
  | false=>rw[hb] at e;cases e
 have ly:([(y,c)]:List (Str×Addr)).lookup y=some c:=by simp[List.lookup_cons]
 have I:Inv (cxCl P w K mg base (ps++[y]) qual scope f (.ref c') [(y,c)] A outer s H) [] (vs.map some++[some cv]) H { s with heap:=h1,toks:=s.toks+(ps.zip us).length }:=by
  refine⟨⟨e0.mod,S.kind,rfl,rfl,Xae _,fun x z a h1 h2=>?_,fun x hx=>?_,fun x a q _=>?_,fun _=>hr.hd,Around.frames_deeper e0.frames,.inr ⟨rfl,rfl⟩,fun b z=>absurd z (noA b),e0.bs,e0.bsz,fun b _ _=>noA b,fun b z=>absurd z (noA b),e0.funs,e0.frf⟩,
   rfl,e0.bare,Un.kept hk,⟨_,hns,fun i x v h1 h2 h3=>?_⟩,fun x a h=>?_,e0.hok.fresh (Xae _),fun x a h=>?_,fun p hp=>absurd (show p∈([]:List (Addr×Obj)) from hp) (by simp),e0.hok.kept hk,?_⟩
  . rw[(lk x a h1).1,(lk z a h2).1]
  . have hx:scope.names.lookup x=some .cell\/scope.names.lookup x=some .free:=hx;rcases hx with hx | hx
    . exact absurd rfl (S.nocell _ (Xbg hx))
    . rw[S.free x hx];exact⟨c,ly⟩
  . exact absurd (show false=true from q) (by simp)
  . by_cases hi:i<ps.length
    . have h1':ps[i]? = some x:=by
       have h1:(ps++[y])[i]? = some x:=h1
       rwa [List.getElem?_append_left hi] at h1
      have h2':vs[i]? = some v:=by
       rw[List.getElem?_append_left (by simp;omega),Xas] at h2;cases e:vs[i]? with
       | none=>rw[e] at h2;cases h2
       | some a=>rw[e] at h2;cases h2;rfl
      obtain⟨u,hu,rv⟩:=r.get h2';refine⟨u,rv,.inl ⟨S.par x (Xa7 h1'),?_⟩⟩;have ndP:ps.Nodup:=S.nd.sublist (List.sublist_append_left _ _);exact Zgc ndP h1' hu hul.symm
    . have h1:(ps++[y])[i]? = some x:=h1;rw[Xbv om] at h1;rw[Xbv (by simp;omega)] at h2;have e1:i - ps.length=0:=by
       cases q:i - ps.length with
       | zero=>rfl
       | succ j=>rw[q] at h1;simp at h1
      have e2:i - (vs.map some).length=0:=by simp;omega
      rw[e1] at h1;rw[e2] at h2;simp at h1 h2;subst h1 h2;exact⟨cu,rc,.inr ⟨.inr S.isfree,c,ly,co,hk _ _ occ,hco⟩⟩
  . rw[(lk x a h).2];exact⟨_,co,hk _ _ occ,hco⟩
  . rw[(lk x a h).2];exact .inr ⟨rfl,co,hc⟩
  . show _=(ps++[y]).length;simp;exact hl
 refine Xaq (ht [] _ _ H _ I hq) (fun fl s' hs=>?_) fun e s' hs=>False.elim hs;have fin:∀ {σ':St}{H':Hp}{v:V}{u:Value},Inv (cxCl P w K mg base (ps++[y]) qual scope f (.ref c') [(y,c)] A outer s H) [] σ' H' s'->RelV v u->Q v H'->CE outer P w H s Q u s':=
  fun {σ' H' v u} J rv q=>⟨v,H',J.os,J.bare,J.base,J.hok,rv,q⟩
 cases fl with
 | ret u=>
  obtain⟨v,σ',H',J,rv,q⟩:=hs;exact fin J rv q
 | next=>
  obtain⟨σ',H',J,q⟩:=hs;exact fin (v:=V.non) (u:=Value.none) J rfl q
 | brk=>
  obtain⟨_,_,_,q⟩:=hs;exact False.elim q
 | cont=>
  obtain⟨_,_,_,q⟩:=hs;exact False.elim q
theorem HOk.track {P:Program}{w:World}{H:Hp}{h:Heap}{a:Addr}{o:Obj}(x:HOk P w H h)(ho:h.get? a=some o)(hn:H a=none):HOk P w (upd H a (.frz o (.own 0))) h:=fun b u e=>by
 by_cases hb:b=a
 . subst hb;rw[Zaa] at e;cases e;exact⟨ho,o,ho⟩
 . rw[Zaf hb] at e;exact(x b u e).stay (fun c v _ q=>q) (fun c q=>by rw[Zaf (Zac q hn)];exact q) fun c xs q=>by rw[Zaf (Zac q hn)];exact q
theorem Un.track {fs ex:List Addr}{H H1:Hp}{h h1:Heap}{a:Addr}{o:HO}(u:Un fs ex H H1 h h1)(hs:h.objs.size<=a)(hn:H1 a=none):Un fs ex H (upd H1 a o) h h1:=
 ⟨u.keep,u.slot,fun b o q n hx=>by rw[Zaf (Xaw (Xao (Xai q) hs))];exact u.free b o q n hx,u.there,
  fun b xs q=>by have z:=u.tups b xs q;rw[Zaf (Zac z hn)];exact z,fun b o v q=>by have z:=u.frzs b o v q;rw[Zaf (Zac z hn)];exact z,
  fun b ps q=>by obtain⟨m,z⟩:=u.tbls b ps q;exact⟨m,by rw[Zaf (Zac z hn)];exact z⟩⟩
theorem Inv.track {X:Cx}{aa:List (Addr×Obj)}{σ:St}{H:Hp}{s:Shared}{a:Addr}{o:Obj}(I:Inv X aa σ H s)(ho:s.heap.get? a=some o)(fp:Zo5 X aa H a)(hs:X.s₀.heap.objs.size<=a) :
 Inv X aa σ (upd H a (.frz o (.own 0))) s:=by
 obtain⟨f0,f1,f2,f3,f4,f5⟩:=fp;refine⟨I.ok,I.os,I.bare,I.base.track hs f0,I.loc,I.cell,?_,fun x c e=>?_,fun p hp=>?_,I.hok.track ho f0,I.len⟩
 . rw[Zaf (Ne.symm f1)];exact I.free
 . rcases I.freeC x c e with z | ⟨z1,ob,z⟩
   . left;rw[Zaf (f4 x c e)];exact z
   . right;exact⟨z1,ob,by rw[Zaf (f4 x c e)];exact z⟩
 . obtain⟨e,n,ne,nf,d⟩:=I.pin p hp;exact⟨e,by rw[Zaf (f5 p hp)];exact n,ne,nf,d⟩
theorem Zwh {k:Nat}{f:Addr}{name qual:Str}{params:Arguments}{body:List Stmt}{scope:Scope}{dV kV doc pm ad ct oc:Value}{an od:Option Addr}
 {osl:Array (Option Value)}{N ps:List Str}{sp:Sp}(lk:K.lookup f=some ⟨oc,od,.func (W.fnOf name qual params body scope dV kV doc pm an ad ct),osl⟩) (hcd:PySem.W.codeIn K ad qual=true) (S:Zak N ps scope)
 (len:∀ vs H Q E,sp vs H Q E->vs.length=ps.length)
 (ah:∀ (A:Around)(outer:List Env)(s s1:Shared)(H:Hp)(vs:List V)(Q:VK)(E:XK),Room k (A.deeper (envOfC qual scope s.heap.objs.size f ad))->sp vs H Q E->
  Inv (Zc1 CX0 P w K mg base N qual scope f ad A outer s H E) [] (Zce N vs) H s1->
  wpAny (model P w) (A.deeper (envOfC qual scope s.heap.objs.size f ad)) (execs body (envOfC qual scope s.heap.objs.size f ad)) (fun fl s'=>match fl with | .ret u=>CE outer P w H s Q u s' | .next=>CE outer P w H s Q .none s' | _=>False)
   (Zc1 CX0 P w K mg base N qual scope f ad A outer s H E).xe s1) :
 FnOk P w K mg base CX0 (k+1) f (W.fnOf name qual params body scope dV kV doc pm an ad ct) ps sp:=by
 refine⟨len,fun A outer s H args us vs Q E hr e0 hb r hsp=>?_⟩;have hl:=len _ _ _ _ hsp;have KX:K.In s.heap:=e0.mod.kin.keeps fun b o e=>(e0.bs b o e).1;have lim:s.heap.NoLimit:=e0.mod.nolimit.keeps fun b o e=>(e0.bs b o e).1;have hkind:∀ y∈ps.zip us,scope.names.lookup y.1=some .local\/(scope.names.lookup y.1=some .cell/\((cellsFrom (s.heap.objs.size+1) scope.names []).lookup y.1).isSome=true):=fun⟨n,v⟩ hy=>by
  rcases S.par n (List.of_mem_zip hy).1 with q | q
  . exact .inl q
  . exact .inr ⟨q,PySem.W.cellsFrom_some _ _ _ (.inl q)⟩
 refine codeAny_call_function hr.depth (KX _ _ lk) rfl S.co S.gen rfl (PySem.W.codeRec_of KX hcd) (hb _ _ _ _ ?_);refine wpAny_newFunctionEnv_cells S.kind hkind fun env he s1 x=>?_;subst he;refine⟨lim.keeps x.toInCall.keep,codeAny_func ?_⟩;have I:Inv (Zc1 CX0 P w K mg base N qual scope f ad A outer s H E) [] (Zce N vs) H s1:=Zfp S hr.hd e0 hl r x;refine Xaq (ah A outer s s1 H vs Q E (hr.deeper _) hsp I) (fun fl s' hs=>?_) fun e s' hs=>hs;cases fl with
 | ret u=>exact hs
 | next=>exact hs
 | brk=>exact False.elim hs
 | cont=>exact False.elim hs
section
variable {X:Cx}{name:Str}{params:Arguments}{body:List Stmt}{scope:Scope}{pos:Pos}{i:Nat}{Pt c0:Addr}{clos:List (Str×Addr)}
def tDef (Pt:Addr)(i:Nat)(name qual:Str)(params:Arguments)(body:List Stmt)(scope:Scope)(clos:List (Str×Addr))(pos:Pos):TS:=fun D σ H=>∃ ps:Array Value,H Pt=some (.tbl ps)/\TriplesOk ps.toList/\codeAmong pos ps.toList=none/\
 ∀ (f c':Addr) (ob:Obj) (cvs:Array Value) (tk:Tok) (ctv doc pm:Value),H f=none->H c'=none->c'≠f->Pt≠f->Pt≠c'->ob.data = .fields cvs->cvs[1]? = some (.str qual tk)->
  D.nx (σ.set i (some (.ref f))) (upd (upd (upd H Pt (.tbl (ps++#[rawInt pos.line,rawInt pos.col,.ref c']))) c' (.frz ob (.own 0))) f (.frz (PySem.W.fnMade name qual params body scope clos doc pm c' ctv) (.own 0)))
theorem HOk.tbl {P:Program}{w:World}{H:Hp}{h h':Heap}{p:Addr}{ps more:Array Value}(x:HOk P w H h)(hp:H p=some (.tbl ps))(k:∀ b o,b≠p->h.get? b=some o->h'.get? b=some o)(hp':h'.get? p=some (PySem.W.tabObj (ps++more))) :
 HOk P w (upd H p (.tbl (ps++more))) h':=fun b u e=>by
 by_cases hb:b=p
 . subst hb;rw[Zaa] at e;cases e;exact hp'
 . rw[Zaf hb] at e;refine(x b u e).stay (fun c v hc q=>k c v ?_ q) (fun c q=>?_) fun c xs q=>?_
   . rcases hc with rfl | hc
     . exact hb
     . rintro rfl;rw[hp] at hc;cases hc
   . rw[Zaf (by rintro rfl;rw[hp] at q;cases q)];exact q
   . rw[Zaf (by rintro rfl;rw[hp] at q;cases q)];exact q
theorem Zxa {qual:Str}(hd0:params.defaults=[])(hk0:params.kw_defaults=[])(ha:PySem.annTrees params none X.env=[])(hqual:qualnameIn X.env name name=qual)(hcl:closureFor scope X.env=pure clos)(hcode:X.env.code = .ref c0)
 (C:PySem.W.CodeHd X.base c0 Pt)(hbm:∃ bm ob,X.mg "__builtins__" = some (.ref bm)/\bm≠builtinsNs/\X.base.get? bm=some ob/\ob.cls = .type "module"/\ob.dict=some builtinsNs/\ob.data = .plain)
 (hN:X.N.Nodup)(hi:X.N[i]? = some name)(hx:Loc X.env.scope name)(hf:X.fn name=true\/X.env.scope.names.lookup name=some .local) :
 PS X (.FunctionDef name params body [] none [] scope none name pos) (tDef Pt i name qual params body scope clos pos):=by
 intro aa s σ H D I h;obtain⟨ps,hP,ht,hnf,h⟩:=h;have hPo:s.heap.get? Pt=some (PySem.W.tabObj ps):=I.hok _ _ hP;have hgs:=I.mod.glob.keeps I.bk;obtain⟨bm,ob,b1,b2,b3,b4,b5,b6⟩:=hbm;have b3':=I.bk _ _ b3;have hgP:mainGlobals≠Pt:=fun q=>by
  obtain⟨o,es,ep,e,hd,_⟩:=hgs;rw[q,hPo] at e;cases e;cases hd
 have hbP:bm≠Pt:=fun q=>by rw[q,hPo] at b3';cases b3';cases b4
 have hbG:bm≠mainGlobals:=fun q=>by
  obtain⟨o,es,ep,e,hd,_⟩:=hgs;rw[q,e] at b3';cases b3';rw[hd] at b6;cases b6
 refine PySem.W.nestDef_K hd0 hk0 ha ?_;rw[hqual];refine PySem.W.makeFunction_K (mg:=X.mg) hcl I.ok.glob hgs hcode (C.keeps I.bk) hPo ht hnf hgP ⟨bm,ob,b1,b2,hbG,hbP,b3',b4,b5,b6⟩ fun c' ctv doc h' tk hx' hge hlt hrec htb=>?_;obtain⟨c2,oc,vs,t,e2,hoc,hd,hv⟩:=hrec;cases e2
 have hszle:s.heap.objs.size<=h'.objs.size:=Nat.le_of_lt (Xbm hge hlt);have hPlt:Pt<s.heap.objs.size:=Xai hPo;have hPm:∀ x a,X.env.cells.lookup x=some a->a≠Pt:=fun x a e z=>by
  obtain⟨v,o,ho,hd⟩:=I.cell x a e;rw[z,hPo] at ho;cases ho;cases hd
 have Un1:Un X.fs [] H (upd H Pt (.tbl (ps++#[rawInt pos.line,rawInt pos.col,.ref c']))) s.heap h':=by
  refine⟨fun b o q n _ _=>hx' b o (by rintro rfl;rw[hP] at n;cases n) q,fun b o q n _ _=>⟨o.slots,hx' b o (by rintro rfl;rw[hP] at n;cases n) q⟩,fun b o q n _=>?_,fun b o q _=>?_,fun b xs q=>?_,fun b o u q=>?_,fun b qs q=>?_⟩
  . rw[Zaf (by rintro rfl;rw[hP] at n;cases n)];exact n
  . by_cases hb:b=Pt
    . subst hb;exact⟨_,htb⟩
    . exact⟨o,hx' b o hb q⟩
  . rw[Zaf (by rintro rfl;rw[hP] at q;cases q)];exact q
  . rw[Zaf (by rintro rfl;rw[hP] at q;cases q)];exact q
  . by_cases hb:b=Pt
    . subst hb;rw[hP] at q;cases q;exact⟨_,Zaa⟩
    . exact⟨#[],by rw[Zaf hb,q];simp⟩
 have I1:Inv X aa σ (upd H Pt (.tbl (ps++#[rawInt pos.line,rawInt pos.col,.ref c']))) { s with heap:=h',toks:=tk }:=
  I.un Un1 (I.hok.tbl hP (fun b o hb q=>hx' b o hb q) htb)
 have hcn:upd H Pt (.tbl (ps++#[rawInt pos.line,rawInt pos.col,.ref c'])) c'=none:=by
  rw[Zaf (Nat.ne_of_gt (Xao hPlt hge))];exact I.hok.fresh hge
 have I2:Inv X aa σ (upd (upd H Pt (.tbl (ps++#[rawInt pos.line,rawInt pos.col,.ref c']))) c' (.frz oc (.own 0))) { s with heap:=h',toks:=tk }:=by
  have f2:=I.fpOk (H':=upd H Pt (.tbl (ps++#[rawInt pos.line,rawInt pos.col,.ref c']))) hge hcn;exact I1.track hoc f2 (Xan I.sz hge)
 have hfn:(upd (upd H Pt (.tbl (ps++#[rawInt pos.line,rawInt pos.col,.ref c']))) c' (.frz oc (.own 0))) h'.objs.size=none:=I2.hok.fresh (Xae _);have I3:=I2.laid (a:=h'.objs.size) (o:=.frz (PySem.W.fnMade name qual params body scope clos doc ((X.mg "__name__").getD .none) c' ctv) (.own 0)) (t':=tk)
  (fun b o q=>Xac (PySem.W.fnMade name qual params body scope clos doc ((X.mg "__name__").getD .none) c' ctv) q) (Xae _) ⟨Xau _ rfl,_,Xau _ rfl⟩
 refine Zcy I3 hN hi hx (v:=.ref h'.objs.size) rfl (fun s' I'=>⟨_,_,I',?_⟩) hf;exact h h'.objs.size c' oc vs t ctv doc _ (I.hok.fresh hszle) (I.hok.fresh hge) (Xaw hlt) (Xaw (Xao hPlt hszle)) (Xaw (Xao hPlt hge)) hd hv
end
noncomputable def Zcc (X:Cx) (s₂:Shared) (H₂:Hp) (fp:List Addr) (sc:Scope) (cl:List (Str×Addr)) (N':List Str):Cx:=
 { X with N:=N',s₀:=s₂,H₀:=H₂,env:=compEnvC sc cl s₂.heap.objs.size X.env,outer:=X.stack,stack:=X.stack,ex:=fp,fn:=fun _=>false,pn:=[],xe:=fun _ _=>False }
def PTs (X:Cx)(ifs:List Expr)(tt:TT):Prop:=
 ∀ (aa:List (Addr×Obj)) (s:Shared) (σ:St) (H:Hp) (Q:Bool->Hp->Prop) (E:Value->Shared->Prop),X.xe=(fun _ _=>False)->Inv X aa σ H s->tt σ H Q->
  wpAny (model X.prog X.w) X.A (forIn ifs true fun c r=>if r=true then do let ok <- isTrue c X.env (eval c X.env);pure (ForInStep.yield ok) else pure (ForInStep.yield r)) (TP X aa σ Q) E s
theorem Zd2 {X:Cx}:PTs X [] (fun _ H Q=>Q true H):=fun aa s σ H Q E _ I h=>wpAny_tests_nil ⟨H,I,h⟩
theorem Zfj {X:Cx}{c:Expr}{t:TT}(h:PT X c t):PTs X [c] t:=fun aa s σ H Q E hx I q=>wpAny_tests_one (Xaq (h aa s σ H Q I q) (fun _ _ x=>x) fun e s' x=>by rw[hx] at x;exact x.elim)
noncomputable def Zh3 (js:List Nat) (σ:St):St:=js.map fun j=>(σ[j]?).join
def Zvc (wi:TI)(js:List Nat)(tt:TT)(te:TE):TE:=fun σ H Q=>wi σ H fun J H1=>∀ D,H1 D=none->∃ W:Nat->Nat->List V->Hp->Prop,(∃ m,W 0 m [] (upd H1 D (.lst [])))/\∀ i m ys H,W i m ys H->
 (J.stop i H/\Q (.ref D) H)\/(J.go i H/\∀ x H',J.yld i H x H'->tt (some x :: Zh3 js σ) H' fun b H2=>if b=true then te (some x :: Zh3 js σ) H2 fun y H3=>H3 D=some (.lst ys)/\ys.length<sizeLine/\∃ m',m'<m/\W (i+1) m' (ys++[y]) (upd H3 D (.lst (ys++[y])))
  else ∃ m',m'<m/\W (i+1) m' ys H2)
structure Zod (X:Cx)(x:Str)(ys:List Str)(js:List Nat)(sc:Scope)(cl:List (Str×Addr)):Prop where
 calm:X.calm=true
 clos:closureFor sc X.env=pure cl
 kind:sc.kind = .function
 names:∀ z∈sc.names,z.2 = .local->sc.names.lookup z.1=some .local
 nocell:∀ z∈sc.names,z.2≠.cell
 own:sc.names.lookup x=some .local
 nd:(x :: ys).Nodup
 same:∀ z c,cl.lookup z=some c->X.env.cells.lookup z=some c
 has:(relabel sc X.env).names.all (fun p=>!(p.2 == .cell || p.2 == .free) || (cl.lookup p.1).isSome)=true
 cap:∀ (i:Nat) y,ys[i]? = some y->∃ j,js[i]? = some j/\X.N[j]? = some y/\X.env.scope.names.lookup y=some .cell/\(relabel sc X.env).names.lookup y=some .cell
 len:ys.length=js.length
theorem Ziu {X:Cx}{x:Str}{px:Pos}{ys:List Str}{js:List Nat}{sc:Scope}{cl:List (Str×Addr)}{elt iter:Expr}{ifs:List Expr}{pos:Pos}{wi:TI}{tt:TT}{te:TE}{use:Option (Value->Sem Unit)}{QQ:Value->Shared->Prop}
 (ok:Zod X x ys js sc cl)(hi:PI X (.Name x px) iter wi)
 (ht:∀ s₂ H₂ fp,PTs (Zcc X s₂ H₂ fp sc cl (x :: ys)) ifs tt)(he:∀ s₂ H₂ fp,PE (Zcc X s₂ H₂ fp sc cl (x :: ys)) elt te)
 {aa:List (Addr×Obj)}{s:Shared}{σ:St}{H:Hp}{Q:VK}(I:Inv X aa σ H s) (h:Zvc wi js tt te σ H Q)
 (fin:∀ (D C:Addr)(H':Hp)(s':Shared),Inv X aa σ H' s'->Q (.ref D) H'->Zo5 X aa H' C->(∃ m,s'.heap.Ns C m)->compPost (model X.prog X.w) X.A X.xe use QQ (.ref D) C (.ok .next) s')
 (hs:∀ x,foldedSetIterable iter X.env x=pure x){p2:Pos} :
 wpAny (model X.prog X.w) X.A (comprehension (.ListComp elt [⟨.Name x px,iter,ifs,0⟩] sc pos) sc X.env p2 (newList []) false (eval iter X.env) use) QQ X.xe s:=by
 refine wpAny_comprehension_free (use:=use) rfl hs ok.clos ok.kind ok.names (thn (hi aa s σ H _ I h) fun v s0 h0=>thn h0 fun itv s1 h1=>?_);obtain⟨it,fp,tn,J,H1,e,I1,T,st1,f1,h1⟩:=h1;subst e;refine wpAny_newObj_type ?_;have I2:=I1.lnew (ys:=[]) (its:=[]) (t':=s1.toks) .nil (by simp);obtain⟨W,⟨m0,w0⟩,turn⟩:=h1 s1.heap.objs.size I1.fresh;generalize hs2:({ s1 with heap:=s1.heap.push { cls:=.type "list",data:=.seq ([]:List Value).toArray },toks:=s1.toks }:Shared)=s2 at I2;have es2:s2.heap=s1.heap.push { cls:=.type "list",data:=.seq ([]:List Value).toArray }:=by rw[<- hs2]
 have hD:s1.heap.objs.size<s2.heap.objs.size:=by rw[es2,Heap.size_push];exact Nat.lt_succ_self _
 generalize hH2:upd H1 s1.heap.objs.size (.lst [])=H2 at I2 w0;have k12:∀ b o,s1.heap.get? b=some o->s2.heap.get? b=some o:=fun b o e=>by rw[es2];exact Xac _ e
 have st2:tn 0 s2.heap:=T.keep _ _ _ st1 fun b hb o e=>k12 b o e;have fplt:∀ b∈fp,b<s1.heap.objs.size:=fun b hb=>by obtain⟨o,e,_⟩:=T.obj _ _ st1 b hb;exact Xai e
 have f2:∀ b∈fp,Zo5 X aa H2 b:=fun b hb=>⟨by rw[<- hH2,Zaf (Xaw (fplt b hb))];exact(f1 b hb).1,(f1 b hb).2⟩
 refine wpAny_newFunctionEnv ok.nocell (by intro z hz;simp at hz) (fun h3 hns hsb=>?_) ok.kind;have k23:∀ b o,s2.heap.get? b=some o->h3.get? b=some o:=fun b o e=>hsb.extBut b o (Xaw (Xai e)) (Xac _ e);generalize hs3:({ s2 with heap:=h3,toks:=s2.toks+([]:List (Str×Value)).length }:Shared)=s3;have es3:s3.heap=h3:=by rw[<- hs3]
 have os3:s3.os=s2.os:=by rw[<- hs3]
 have gs3:s3.gens=s2.gens:=by rw[<- hs3]
 have hX:(Zcc X s2 H2 fp sc cl (x :: ys)).Ok:=by
  refine⟨I2.mod,ok.kind,I2.ok.glob,I2.ok.blt,Xae _,fun a b c e1 e2=>I2.ok.inj a b c (ok.same a c e1) (ok.same b c e2),fun z hz=>?_,fun z c q _=>absurd (show false=true from q) (by simp),I2.ok.hd,I2.ok.frames,.inl rfl,
   fun b hb=>?_,I2.bs,?_,fun b o e hb=>?_,fun b hb hf=>?_,I2.stack,I2.stkFree⟩
  . have hz:(relabel sc X.env).names.lookup z=some .cell\/(relabel sc X.env).names.lookup z=some .free:=hz;have go:∀ k,(relabel sc X.env).names.lookup z=some k->(k == .cell || k == .free)=true->∃ c,cl.lookup z=some c:=fun k hk hb=>by
     have q:=List.all_eq_true.mp ok.has (z,k) (Xbg hk);rw[hb] at q;exact Option.isSome_iff_exists.mp q
    rcases hz with hz | hz
    . exact go _ hz rfl
    . exact go _ hz rfl
  . refine⟨?_,fun z c e=>(f2 b hb).2.2.2.2.1 z c (ok.same z c e)⟩;show b≠s2.heap.objs.size;exact Xaw (Nat.lt_trans (fplt b hb) hD)
  . show X.base.objs.size<=s2.heap.objs.size;exact Xan I2.ok.bsz I2.sz
  . rcases(f2 b hb).2.2.2.1 with z | z
    . exact I2.ok.noex b o e z
    . exact absurd (Xao (Xai e) (Xan I2.ok.bsz z)) (Xbl _)
  . rcases List.mem_cons.mp (I2.stkSub b hf) with z | z
    . exact(f2 b hb).2.1 z
    . exact(f2 b hb).2.2.1 z
 have hlt2:∀ z c,X.env.cells.lookup z=some c->c<s2.heap.objs.size:=fun z c e=>by obtain⟨v,q⟩:=I2.cell z c e;exact q.lt
 have I3:∀ o:Option V,Inv (Zcc X s2 H2 fp sc cl (x :: ys)) [] (none :: Zh3 js σ) H2 s3:=fun _=>by
  refine⟨hX,os3,by rw[gs3];exact I2.bare,Un.kept (by rw[es3];exact k23),⟨_,by rw[es3];exact hns,fun i y v e1 e2 e3=>?_⟩,fun z c e=>?_,I2.hok.fresh (Xae _),fun z c e=>?_,fun p hp=>absurd (show p∈([]:List (Addr×Obj)) from hp) (by simp),by rw[es3];exact I2.hok.kept k23,?_⟩
  . cases i with
    | zero=>simp at e2
    | succ i=>
     have e1:ys[i]? = some y:=by simpa [Zcc] using e1
     obtain⟨j,hj,hN,hk,hk2⟩:=ok.cap i y e1;have e2:(Zh3 js σ)[i]? = some (some v):=by simpa using e2
     unfold Zh3 at e2;rw[Xas,hj] at e2;have e2':(σ[j]?).join=some v:=by simpa using e2
     have e4:σ[j]? = some (some v):=by
      cases q:σ[j]? with
      | none=>rw[q] at e2';cases e2'
      | some w=>rw[q] at e2';simp at e2';rw[e2']
     obtain⟨m,hn,hl⟩:=I2.loc;obtain⟨u,r,l⟩:=hl j y v hN e4 (.inr (.inl hk));refine⟨u,r,?_⟩;rcases l with⟨k,_⟩ | ⟨_,c,hc,z⟩
     . exact absurd ((show X.env.scope.names.lookup y=some .local from k).symm.trans hk) (by simp)
     . have q:=List.all_eq_true.mp ok.has (y,.cell) (Xbg hk2);obtain⟨c',hc'⟩:∃ c',cl.lookup y=some c':=Option.isSome_iff_exists.mp (by simpa using q);have e5:=ok.same y c' hc';rw[hc] at e5;cases e5
       refine .inr ⟨.inl hk2,c,hc',?_⟩;rw[es3];exact z.keeps k23
  . obtain⟨v,q⟩:=I2.cell z c (ok.same z c e);exact⟨v,by rw[es3];exact q.keeps k23⟩
  . rcases I2.freeC z c (ok.same z c e) with q | ⟨_,ob,q⟩
    . exact .inl q
    . exact .inr ⟨rfl,ob,q⟩
  . show _=(x :: ys).length;unfold Zh3;simp;exact ok.len.symm
 have stat:∀ {H':Hp},(∀ b∈fp,H' b=none)->∀ b∈fp,Zo5 (Zcc X s2 H2 fp sc cl (x :: ys)) [] H' b:=fun {H'} hn b hb=>by
  refine⟨hn b hb,Xaw (Nat.lt_trans (fplt b hb) hD),fun hf=>?_,.inl hb,fun z c e=>(f2 b hb).2.2.2.2.1 z c (ok.same z c e),fun p hp=>absurd (show p∈([]:List (Addr×Obj)) from hp) (by simp)⟩;rcases List.mem_cons.mp (I2.stkSub b hf) with z | z
  . exact(f2 b hb).2.1 z
  . exact(f2 b hb).2.2.1 z
 have loop:codeAny (model X.prog X.w) X.A (.compLoop (.ListComp elt [⟨.Name x px,iter,ifs,0⟩] sc pos) 0 (.ref it) (.ref s1.heap.objs.size) (compEnvC sc cl s2.heap.objs.size X.env)) (compPost (model X.prog X.w) X.A X.xe use QQ (.ref s1.heap.objs.size) s2.heap.objs.size) s3:=by
  refine codeAny_compLoop_tests (fun n s'=>∃ i o zs H',Inv (Zcc X s2 H2 fp sc cl (x :: ys)) [] (o :: Zh3 js σ) H' s'/\tn i s'.heap/\(∀ b∈fp,H' b=none)/\W i n zs H') ?_ m0 ⟨0,none,[],H2,I3 none,T.keep _ _ _ st2 fun b hb o e=>by rw[es3];exact k23 b o e,fun b hb=>(f2 b hb).1,w0⟩;rintro n s4 ⟨i,o,zs,H4,I4,st4,fr4,w4⟩;rcases turn i n zs H4 w4 with⟨stop,qn⟩ | ⟨go,step⟩
  . refine Xaq (T.done (Zcc X s2 H2 fp sc cl (x :: ys)) rfl rfl rfl ok.calm i [] s4 _ H4 (fun _ _=>False) I4 (stat fr4) st4 stop) (fun r s5 ⟨hr,I5⟩=>?_) fun _ _ e=>e.elim;subst hr;have I6:Inv X aa σ H4 s5:=I2.call' (ch:=fp) I5.os I5.base I5.hok I5.bare fun b hb=>⟨(f2 b hb).2.2.2.1,(f2 b hb).2.1,(f2 b hb).2.2.2.2.1,(f2 b hb).2.2.2.2.2⟩
    obtain⟨m,hn,_⟩:=I5.loc;exact fin _ _ H4 s5 I6 qn (I2.fpOk (Xae _) I5.free) ⟨m,hn⟩
  . refine Xaq (T.item (Zcc X s2 H2 fp sc cl (x :: ys)) rfl rfl rfl ok.calm i [] s4 _ H4 (fun _ _=>False) I4 (stat fr4) st4 go) (fun r s5 hz=>?_) fun _ _ e=>e.elim;obtain⟨u,hr,h5⟩:=hz;subst hr;have asg:∀ (Q2:Unit->Shared->Prop),(∀ s6 v H6,Inv (Zcc X s2 H2 fp sc cl (x :: ys)) ([]++Zgy fp s6.heap) (some v :: Zh3 js σ) H6 s6->J.yld i H4 v H6->tn (i+1) s6.heap->(∀ b∈fp,H6 b=none)->Q2 () s6)->
     wpAny (model X.prog X.w) X.A (assign (.Name x px) (compEnvC sc cl s2.heap.objs.size X.env) u) Q2 (fun _ _=>False) s5:=fun Q2 hQ2=>by
     have z:wpAny (model X.prog X.w) X.A (letOwnedTupleGo (.Name x px) (.ref it) u >>= fun _=>assign (.Name x px) (compEnvC sc cl s2.heap.objs.size X.env) u) Q2 (fun _ _=>False) s5:=by
      refine Xaa (Xaq h5 (fun _ s6 hz=>?_) fun _ _ e=>e);obtain⟨v,H6,I6,r6,y6,st6,fr6⟩:=hz;have I6':=I6.pinned (stat fr6) (T.obj _ _ st6);refine wpAny_assign_Name (Zcy (X:=Zcc X s2 H2 fp sc cl (x :: ys)) (i:=0) I6' ok.nd rfl (.inl (lookup_relabel_local ok.own)) r6 (fun s7 I7=>?_) (.inr (lookup_relabel_local ok.own)));have e7:∀ b∈fp,∀ o,s6.heap.get? b=some o->s7.heap.get? b=some o:=fun b hb o e=>(I7.pin (b,o) (Xa2 _ (Xa2 _ (Zc3 hb e)))).1;have st7:tn (i+1) s7.heap:=T.keep _ _ _ st6 e7;refine hQ2 s7 v H6 ?_ y6 st7 fr6;have I8:=I7.unpinned;exact I8.pinned (stat fr6) (T.obj _ _ st7)
     have e:letOwnedTupleGo (.Name x px) (.ref it) u=pure ():=rfl;rw[e,pure_bind] at z;exact z
    refine Xaq (asg _ fun s6 v H6 I6 y6 st6 fr6=>?_) (fun _ _ q=>q) fun _ _ e=>e.elim;have keepI:∀ {H7:Hp}{s7:Shared}{σ7:St},Inv (Zcc X s2 H2 fp sc cl (x :: ys)) ([]++Zgy fp s6.heap) σ7 H7 s7->tn (i+1) s7.heap/\∀ b∈fp,H7 b=none:=fun {H7 s7 σ7} I7=>
     ⟨T.keep _ _ _ st6 fun b hb o e=>(I7.pin (b,o) (Xa2 _ (Xa2 _ (Zc3 hb e)))).1,fun b hb=>by
      obtain⟨o,e,d⟩:=T.obj _ _ st6 b hb;exact(I7.pin (b,o) (Xa2 _ (Xa2 _ (Zc3 hb e)))).2.1⟩
    refine Xaq (ht s2 H2 fp _ s6 _ H6 _ (fun _ _=>False) rfl I6 (step v H6 y6)) (fun b s7 hz=>?_) fun _ _ e=>e.elim;obtain⟨H7,I7,q7⟩:=hz;cases b with
    | false=>
     rw[if_neg Xap] at q7 ⊢;obtain⟨m',hm,w7⟩:=q7;obtain⟨st7,fr7⟩:=keepI I7;exact⟨m',hm,i+1,some v,zs,H7,I7.unpinned,st7,fr7,w7⟩
    | true=>
     rw[if_pos rfl] at q7 ⊢;refine Xaq (he s2 H2 fp _ s7 _ H7 _ I7 q7) (fun y s8 hz=>?_) fun _ _ (e:False)=>e.elim;obtain⟨yv,H8,I8,r8,hD8,hz8,m',hm,w8⟩:=hz;refine Xaq (Zbp (X:=Zcc X s2 H2 fp sc cl (x :: ys)) _ s8 _ H8 (.ref s1.heap.objs.size) [yv] (.ref s1.heap.objs.size) [y] (fun v H9=>H9=upd H8 s1.heap.objs.size (.lst (zs++[yv]))) I8 rfl (.cons r8 .nil) ⟨_,zs,yv,rfl,rfl,hD8,hz8,rfl⟩)
      (fun _ s9=>ex5 fun _ H9 I9 _ e9=>?_) fun _ _ (e:False)=>e.elim
     subst e9;obtain⟨st9,fr9⟩:=keepI I9;exact⟨m',hm,i+1,some v,zs++[yv],_,I9.unpinned,st9,fr9,w8⟩
 have self3:tn 0 s3.heap:=T.keep _ _ _ st2 fun b hb o e=>by rw[es3];exact k23 b o e
 exact codeAny_compStart_list loop (T.self X.A 0 _ _ _ self3 loop)
theorem Zet {X:Cx}{x:Str}{px:Pos}{ys:List Str}{js:List Nat}{sc:Scope}{cl:List (Str×Addr)}{elt iter:Expr}{ifs:List Expr}{pos:Pos}{wi:TI}{tt:TT}{te:TE}(ok:Zod X x ys js sc cl)(hi:PI X (.Name x px) iter wi)
 (ht:∀ s₂ H₂ fp,PTs (Zcc X s₂ H₂ fp sc cl (x :: ys)) ifs tt)(he:∀ s₂ H₂ fp,PE (Zcc X s₂ H₂ fp sc cl (x :: ys)) elt te)(hs:∀ x,foldedSetIterable iter X.env x=pure x:=by intro _;rfl) :
 PE X (.ListComp elt [⟨.Name x px,iter,ifs,0⟩] sc pos) (Zvc wi js tt te):=by
 intro aa s σ H Q I h;rw[eval_ListComp];refine Ziu (use:=none) ok hi ht he I h (fun D C H' s' I' q fc ⟨m,hn⟩=>⟨m,hn,fun h' hs'=>?_⟩) hs;obtain⟨f0,f1,f2,f3,f4,f5⟩:=fc;exact⟨.ref D,H',I'.turned (t':=s'.toks) (fun b o hb e=>(hs'.2 b hb).trans e) f0 f1 f3 f4 f5,rfl,q⟩
theorem Zcj {X:Cx}{x z:Str}{px pz:Pos}{iz:Nat}{ys:List Str}{js:List Nat}{sc:Scope}{cl:List (Str×Addr)}{elt iter:Expr}{ifs:List Expr}{pos spos:Pos}{wi:TI}{tt:TT}{te:TE}(ok:Zod X x ys js sc cl)(hi:PI X (.Name x px) iter wi)
 (ht:∀ s₂ H₂ fp,PTs (Zcc X s₂ H₂ fp sc cl (x :: ys)) ifs tt)(he:∀ s₂ H₂ fp,PE (Zcc X s₂ H₂ fp sc cl (x :: ys)) elt te)
 (hN:X.N.Nodup)(hiz:X.N[iz]? = some z)(hz:Loc X.env.scope z)(hf:X.fn z=true\/X.env.scope.names.lookup z=some .local)
 (hsw:swapsWith (.ListComp elt [⟨.Name x px,iter,ifs,0⟩] sc pos) (some (.Name z pz)) spos.line X.env=pure true)(hs:∀ x,foldedSetIterable iter X.env x=pure x:=by intro _;rfl) :
 PS X (.Assign [.Name z pz] (.ListComp elt [⟨.Name x px,iter,ifs,0⟩] sc pos) spos) (tAsg (Zvc wi js tt te) (Zbk iz)):=by
 intro aa s σ H D I h;rw[exec_Assign_Name_used _ _ _ _ hsw];refine Xaa (wpAny_standAt (Xaa ?_));show wpAny _ X.A (do let _ <- comprehension (.ListComp elt [⟨.Name x px,iter,ifs,0⟩] sc pos) sc X.env _ (newList []) false (eval iter X.env) (some (assign (.Name z pz) X.env))) _ _ s;refine Xaa (Xaq (Ziu (use:=some (assign (.Name z pz) X.env)) (QQ:=fun _ s'=>SP X aa D .next s') ok hi ht he I h (fun d C H' s' I' q fc ⟨m,hn⟩=>?_) hs) (fun _ s' hq=>Xak (Xak hq)) fun _ _ e=>e);obtain⟨f0,f1,f2,f3,f4,f5⟩:=fc;show wpAny _ _ (assign (.Name z pz) X.env (.ref d)) _ _ s';refine wpAny_assign_Name (Zh4 I' hN hiz hz (v:=.ref d) rfl (fun s2 I2 hz=>?_) hf);obtain⟨a,hsb,ha⟩:=hz;have hCa:C≠a:=by
  rcases ha with rfl | ha
  . exact f1
  . exact fun e=>f4 z a ha e.symm
 refine⟨m,hn.sameBut hsb hCa,fun h' hs'=>⟨_,H',I2.turned (t':=s2.toks) (fun b o hb e=>(hs'.2 b hb).trans e) f0 f1 f3 f4 f5,q⟩⟩
inductive Tm where
 | int (i:Int) | str (x:Str) | nd (m:Str) (a b:Tm)
noncomputable def Tm.dep:Tm->Nat
 | .nd _ a b=>max a.dep b.dep+1
 | _=>0
inductive Sl where
 | plain | turned | num (d:Addr)
noncomputable def Sl.d:Sl->Option Addr
 | .num d=>some d
 | _=>none
def isT (S:Sl)(H:Hp):Tm->V->Prop
 | .int i,v=>v = .int i
 | .str x,v=>v = .str x
 | .nd m a b,v=>match S with
  | .plain=>∃ p va vb,v = .ref p/\H p=some (.tup [.str m,va,vb])/\isT S H a va/\isT S H b vb
  | .turned=>∃ p va vb,v = .ref p/\H p=some (.tup [.str "seal of",vb,va,.str m])/\isT S H a va/\isT S H b vb
  | .num d=>∃ kvs ka kb n,H d=some (.dT kvs)/\isT S H a (kV ka)/\isT S H b (kV kb)/\Zcf kvs [.inr m,ka,kb]=some (.int n)/\v = .int n
abbrev Zdc (S:Sl)(H:Hp):List Tm->List V->Prop:=Paired (isT S H)
noncomputable def imm:HO->Bool
 | .tup _=>true
 | .frz _ _=>true
 | .rng _ _=>true
 | _=>false
def Ints (l:List (List Key×V)):Prop:=∀ (j:Nat) p,l[j]? = some p->p.2=V.int (j:Nat)
theorem Ints.nil:Ints []:=fun j p h=>by simp at h
theorem Ints.snoc {l:List (List Key×V)}(x:Ints l)(k:List Key):Ints (l++[(k,V.int l.length)]):=fun j p h=>by
 by_cases hj:j<l.length
 . rw[List.getElem?_append_left hj] at h;exact x j p h
 . rw[Xbv om] at h;have e:j - l.length=0:=by
    cases q:j - l.length with
    | zero=>rfl
    | succ m=>rw[q] at h;simp at h
   rw[e] at h;simp at h;rw[<- h,show j=l.length by omega]
theorem Zln {l:List (List Key×V)}{k:List Key}{v:V}(h:Zcf l k=some v):∃ (j:Nat)(p:List Key×V),l[j]? = some p/\p.1=k/\p.2=v:=by
 induction l with
 | nil=>cases h
 | cons p r ih=>
  by_cases e:p.1=k
  . rw[Zca e] at h;exact⟨0,p,rfl,e,Option.some.inj h⟩
  . rw[Zb9 e] at h;obtain⟨j,q,e1,e2,e3⟩:=ih h;exact⟨j+1,q,by simpa using e1,e2,e3⟩
theorem Ints.val {l:List (List Key×V)}(x:Ints l){k:List Key}{v:V}(h:Zcf l k=some v):∃ i,v=V.int i:=by
 obtain⟨j,p,e1,_,e3⟩:=Zln h;exact⟨_,e3.symm.trans (x j p e1)⟩
structure Gn (S:Sl)(n:Nat)(H H':Hp):Prop where
 keep:∀ b o,H b=some o->imm o=true->H' b=some o
 told:∀ d,S.d=some d->∃ kvs more,H d=some (.dT kvs)/\H' d=some (.dT (kvs++more))/\more.length<=n/\(Ints kvs->Ints (kvs++more))
structure Gr (S:Sl)(n:Nat)(H H':Hp):Prop where
 gn:Gn S n H H'
 all:∀ b o,H b=some o->S.d≠some b->H' b=some o
def Zgn (S:Sl)(H:Hp):Prop:=∀ d,S.d=some d->∃ kvs,H d=some (.dT kvs)
theorem Gn.told2 {S:Sl}{n:Nat}{H H':Hp}(g:Gn S n H H'):Zgn S H':=fun d e=>by obtain⟨kvs,more,_,h,_,_⟩:=g.told d e;exact⟨_,h⟩
theorem Gn.refl {S:Sl}{H:Hp}(t:Zgn S H):Gn S 0 H H:=⟨fun _ _ h _=>h,fun d e=>by obtain⟨kvs,h⟩:=t d e;exact⟨kvs,[],h,by simpa using h,Xae _,fun z=>by simpa using z⟩⟩
theorem Gr.refl {S:Sl}{H:Hp}(t:Zgn S H):Gr S 0 H H:=⟨.refl t,fun _ _ h _=>h⟩
theorem Gn.trans {S:Sl}{a b:Nat}{H H1 H2:Hp}(g:Gn S a H H1)(g2:Gn S b H1 H2):Gn S (a+b) H H2:=
 ⟨fun c o h i=>g2.keep c o (g.keep c o h i) i,fun d e=>by
  obtain⟨kvs,more,h1,h2,h3,h4⟩:=g.told d e;obtain⟨kvs',more',h1',h2',h3',h4'⟩:=g2.told d e;rw[h2] at h1';cases h1';exact⟨kvs,more++more',h1,by rw[h2',List.append_assoc],by rw[Xay];omega,fun z=>by rw[<- List.append_assoc];exact h4' (h4 z)⟩⟩
theorem Gr.trans {S:Sl}{a b:Nat}{H H1 H2:Hp}(g:Gr S a H H1)(g2:Gr S b H1 H2):Gr S (a+b) H H2:=⟨g.gn.trans g2.gn,fun c o h n=>g2.all c o (g.all c o h n) n⟩
theorem Gn.up {S:Sl}{a b:Nat}{H H1:Hp}(g:Gn S a H H1)(h:a<=b):Gn S b H H1:=⟨g.keep,fun d e=>by obtain⟨k,m,h1,h2,h3,h4⟩:=g.told d e;exact⟨k,m,h1,h2,Xan h3 h,h4⟩⟩
theorem Gr.up {S:Sl}{a b:Nat}{H H1:Hp}(g:Gr S a H H1)(h:a<=b):Gr S b H H1:=⟨g.gn.up h,g.all⟩
theorem Gr.new {S:Sl}{H:Hp}{p:Addr}{o:HO}(t:Zgn S H)(h:H p=none):Gr S 0 H (upd H p o):=
 ⟨⟨fun b u q _=>by rw[Zaf (Zac q h)];exact q,fun d e=>by
  obtain⟨kvs,q⟩:=t d e;exact⟨kvs,[],q,by rw[Zaf (Zac q h)];simpa using q,Xae _,fun z=>by simpa using z⟩⟩,fun b u q _=>by rw[Zaf (Zac q h)];exact q⟩
theorem Gn.chg {S:Sl}{H:Hp}{p:Addr}{o o':HO}(t:Zgn S H)(h:H p=some o)(hi:imm o=false)(hd:∀ kvs,o≠.dT kvs):Gn S 0 H (upd H p o'):=
 ⟨fun b u q i=>by
  rw[Zaf (by rintro rfl;rw[h] at q;cases q;rw[hi] at i;cases i)];exact q,fun d e=>by
  obtain⟨kvs,q⟩:=t d e;exact⟨kvs,[],q,by rw[Zaf (by rintro rfl;rw[h] at q;exact hd _ (Option.some.inj q))];simpa using q,Xae _,fun z=>by simpa using z⟩⟩
theorem Gr.own {S:Sl}{n:Nat}{H H':Hp}{p:Addr}{o:HO}(g:Gr S n H H')(h:H p=none):Gr S n H (upd H' p o):=
 ⟨⟨fun b u q i=>by rw[Zaf (Zac q h)];exact g.gn.keep b u q i,fun d e=>by
  obtain⟨kvs,more,h1,h2,h3,h4⟩:=g.gn.told d e;exact⟨kvs,more,h1,by rw[Zaf (Zac h1 h)];exact h2,h3,h4⟩⟩,fun b u q hd=>by rw[Zaf (Zac q h)];exact g.all b u q hd⟩
theorem Gr.free {S:Sl}{n:Nat}{H H':Hp}(g:Gr S n H H'){p:Addr}(h:H' p=none):H p=none:=by
 cases q:H p with
 | none=>rfl
 | some o=>
  by_cases hd:S.d=some p
  . obtain⟨kvs,more,h1,h2,_,_⟩:=g.gn.told p hd;rw[h2] at h;cases h
  . rw[g.all p o q hd] at h;cases h
theorem Gr.lst {S:Sl}{n:Nat}{H H':Hp}(g:Gr S n H H'){p:Addr}{xs:List V}(h:H p=some (.lst xs)):H' p=some (.lst xs):=g.all p _ h fun e=>by
 obtain⟨kvs,more,h1,_,_,_⟩:=g.gn.told p e;rw[h] at h1;cases h1
theorem Gr.same {S:Sl}{n:Nat}{H H':Hp}(g:Gr S n H H'){p:Addr}{o:HO}(h:H p=some o)(hd:∀ kvs,o≠.dT kvs):H' p=some o:=g.all p _ h fun e=>by
 obtain⟨kvs,more,h1,_,_,_⟩:=g.gn.told p e;rw[h] at h1;exact hd _ (Option.some.inj h1)
theorem Gr.sq {S:Sl}{n:Nat}{H H':Hp}(g:Gr S n H H'){K:W.Frag}{p:Addr}{xs:List V}(h:SqL K H p xs):SqL K H' p xs:=by
 rcases h with(h | ⟨o,h⟩) | h
 . exact .inl (.inl (g.lst h))
 . exact .inl (.inr ⟨o,g.same h (fun _ e=>nomatch e)⟩)
 . exact .inr h
theorem Zr4 {κ:Type} [DecidableEq κ] {kvs more:List (κ×V)}{k:κ}{v:V}(h:Zcf kvs k=some v):Zcf (kvs++more) k=some v:=by
 induction kvs with
 | nil=>cases h
 | cons p r ih=>
  rw[List.cons_append];by_cases e:p.1=k
  . rw[Zca e] at h ⊢;exact h
  . rw[Zb9 e] at h ⊢;exact ih h
theorem Zaz {S:Sl}{n:Nat}{H H':Hp}(g:Gn S n H H'):∀ {t:Tm}{v:V},isT S H t v->isT S H' t v
 | .int _,_,h=>h
 | .str _,_,h=>h
 | .nd m a b,v,h=>by
  cases S with
  | plain=>obtain⟨p,va,vb,e,hp,ha,hb⟩:=h;exact⟨p,va,vb,e,g.keep _ _ hp rfl,Zaz g ha,Zaz g hb⟩
  | turned=>obtain⟨p,va,vb,e,hp,ha,hb⟩:=h;exact⟨p,va,vb,e,g.keep _ _ hp rfl,Zaz g ha,Zaz g hb⟩
  | num d=>
   obtain⟨kvs,ka,kb,n,hd,ha,hb,hv,e⟩:=h;obtain⟨kvs',more,h1,h2,_,_⟩:=g.told d rfl;rw[hd] at h1;cases h1;exact⟨_,ka,kb,n,h2,Zaz g ha,Zaz g hb,Zr4 hv,e⟩
theorem Paired.imp2 {α β:Type}{F G:α->β->Prop}(f:∀ a b,F a b->G a b):∀ {l₁:List α}{l₂:List β},Paired F l₁ l₂->Paired G l₁ l₂
 | _,_,.nil=>.nil
 | _,_,.cons r t=>.cons (f _ _ r) (Paired.imp2 f t)
theorem Zap {S:Sl}{n:Nat}{H H':Hp}(g:Gn S n H H'){ts:List Tm}{vs:List V}(h:Zdc S H ts vs):Zdc S H' ts vs:=Paired.imp2 (fun _ _ q=>Zaz g q) h
theorem Za0 {α β:Type}{F:α->β->Prop}:∀ {l₁:List α}{l₂:List β},Paired F l₁ l₂->l₁.length=l₂.length
 | _,_,.nil=>rfl
 | _,_,.cons _ t=>by simp[Za0 t]
theorem Zb5 {α β:Type}{F:α->β->Prop}:∀ {l₁:List α}{l₂:List β}(n:Nat),Paired F l₁ l₂->Paired F (l₁.take n) (l₂.take n)
 | _,_,0,_=>.nil
 | _,_,_+1,.nil=>.nil
 | _,_,n+1,.cons r t=>.cons r (Zb5 n t)
theorem Zcr {α β:Type}{F:α->β->Prop}:∀ {l₁:List α}{l₂:List β}(n:Nat),Paired F l₁ l₂->Paired F (l₁.drop n) (l₂.drop n)
 | _,_,0,r=>r
 | _,_,_+1,.nil=>.nil
 | _,_,n+1,.cons _ t=>Zcr n t
theorem Zdp {α β:Type}{F:α->β->Prop}:∀ {l₁ l₂:List α}{m₁ m₂:List β},Paired F l₁ m₁->Paired F l₂ m₂->Paired F (l₁++l₂) (m₁++m₂)
 | _,_,_,_,.nil,s=>s
 | _,_,_,_,.cons r t,s=>.cons r (Zdp t s)
theorem Zkp {α β:Type}{F:α->β->Prop}:∀ {l₁:List α}{l₂:List β}{i:Nat}{a:α}{b:β},Paired F l₁ l₂->l₁[i]? = some a->l₂[i]? = some b->F a b
 | _,_,0,_,_,.cons r _,h1,h2=>by simp at h1 h2;subst h1 h2;exact r
 | _,_,i+1,_,_,.cons _ t,h1,h2=>Zkp (i:=i) t (by simpa using h1) (by simpa using h2)
theorem Znh {α β:Type}{F:α->β->Prop}:∀ {l₁:List α}{l₂:List β}{i:Nat}{b:β},Paired F l₁ l₂->l₂[i]? = some b->∃ a,l₁[i]? = some a/\F a b
 | _,_,0,_,.cons r _,h2=>by simp at h2;subst h2;exact⟨_,rfl,r⟩
 | _,_,i+1,_,.cons _ t,h2=>by
  obtain⟨a,h1,h3⟩:=Znh (i:=i) t (by simpa using h2);exact⟨a,by simpa using h1,h3⟩
theorem Zi8 {d:Addr}{H:Hp}:∀ {t:Tm}{v v':V},isT (.num d) H t v->isT (.num d) H t v'->v=v'
 | .int _,_,_,h,h'=>(show _=_ from h).trans (show _=_ from h').symm
 | .str _,_,_,h,h'=>(show _=_ from h).trans (show _=_ from h').symm
 | .nd m a b,v,v',h,h'=>by
  obtain⟨kvs,ka,kb,n,hd,ha,hb,hv,e⟩:=h;obtain⟨kvs',ka',kb',n',hd',ha',hb',hv',e'⟩:=h';rw[hd] at hd';cases hd';have e1:=Zsz (Zi8 ha ha');have e2:=Zsz (Zi8 hb hb');subst e1 e2;rw[hv] at hv';cases hv';rw[e,e']
theorem Zjj {d:Addr}{H:Hp}:∀ {t:Tm}{v:V},isT (.num d) H t v->∃ k,v=kV k
 | .int i,_,h=>⟨.inl i,h⟩
 | .str x,_,h=>⟨.inr x,h⟩
 | .nd m a b,v,h=>by
  obtain⟨kvs,ka,kb,n,hd,ha,hb,hv,e⟩:=h;exact⟨.inl n,e⟩
theorem Zhu (k:Key):Zd4 (kV k)=true:=by cases k <;> rfl
def Cap (S:Sl)(H:Hp)(n:Nat):Prop:=∀ d kvs,S.d=some d->H d=some (.dT kvs)->kvs.length+n<=10000000
theorem Cap.dn {S:Sl}{H:Hp}{a b:Nat}(c:Cap S H a)(h:b<=a):Cap S H b:=fun d kvs e q=>Xan (Xbo h _) (c d kvs e q)
theorem Cap.go {S:Sl}{H H':Hp}{a b n:Nat}(c:Cap S H n)(g:Gn S a H H')(h:a+b<=n):Cap S H' b:=fun d kvs e q=>by
 obtain⟨k,m,h1,h2,h3,_⟩:=g.told d e;rw[h2] at q;cases q;have:=c d k e h1;rw[Xay];omega
noncomputable abbrev nlT:Tm:=.nd "none" (.int 0) (.int 0)
noncomputable abbrev prT:Tm->Tm->Tm:=.nd "pair"
noncomputable abbrev tpT:List Tm->Tm:=Gb.topT nlT prT
noncomputable abbrev gwT:List Tm->Nat->List Tm:=Gb.growT nlT prT
noncomputable abbrev paT:List Tm->Nat->List Tm:=Gb.pathT nlT prT
theorem Zfx:∀ (n:Nat)(ts:List Tm)(B:Nat),ts.length<=n->(∀ t∈ts,t.dep<=B)->(tpT ts).dep<=B+n+1
 | n,[],B,_,_=>by show(Gb.topT nlT prT []).dep<=_;rw[Gb.topT_nil];simp[Tm.dep]
 | n,[t],B,_,h=>by show(Gb.topT nlT prT [t]).dep<=_;rw[Gb.topT_one];have:=h t (by simp);omega
 | 0,a :: b :: r,B,hl,_=>by simp at hl
 | n+1,a :: b :: r,B,hl,h=>by
  generalize hts:a :: b :: r=ts at hl h ⊢;have h2:2<=ts.length:=by rw[<- hts];simp
  have e:=Gb.topT_more nlT prT h2;have x1:=Gb.spl_lt h2;have x2:=Gb.spl_pos ts.length;show(Gb.topT nlT prT ts).dep<=_;rw[e];have i1:=Zfx n (ts.take (Gb.spl ts.length)) B (by simp;omega) fun t ht=>h t (List.mem_of_mem_take ht);have i2:=Zfx n (ts.drop (Gb.spl ts.length)) B (by simp;omega) fun t ht=>h t (Xbs ht);show max _ _+1<=_;have i1':(Gb.topT nlT prT (ts.take (Gb.spl ts.length))).dep<=B+n+1:=i1;have i2':(Gb.topT nlT prT (ts.drop (Gb.spl ts.length))).dep<=B+n+1:=i2;omega
theorem Zoi:∀ (n:Nat)(ts:List Tm)(old B:Nat),ts.length<=n->(∀ t∈ts,t.dep<=B)->∀ t∈gwT ts old,t.dep<=B+n+1
 | n,ts,old,B,hl,h=>by
  intro t ht;have ht:t∈Gb.growT nlT prT ts old:=ht;by_cases h0:old=0
  . subst h0;rw[Gb.growT_zero] at ht;cases ht
  by_cases h1:ts.length<=old
  . rw[Gb.growT_all nlT prT h0 h1] at ht;rw[List.mem_singleton.mp ht];exact Zfx n ts B hl h
  have h2:2<=ts.length:=by omega
  have x1:=Gb.spl_lt h2;have x2:=Gb.spl_pos ts.length;cases n with
  | zero=>omega
  | succ n=>
   have a1:=fun t ht=>h t (List.mem_of_mem_take (i:=Gb.spl ts.length) ht);have a2:=fun t ht=>h t (Xbs (i:=Gb.spl ts.length) ht);by_cases h3:old<=Gb.spl ts.length
   . rw[Gb.growT_low nlT prT h0 om h3] at ht;rcases List.mem_append.mp ht with ht | ht
     . have:=Zoi n _ old B (by simp;omega) a1 t ht;omega
     . rw[List.mem_singleton.mp ht];have:=Zfx n (ts.drop (Gb.spl ts.length)) B (by simp;omega) a2;have this:(Gb.topT nlT prT (ts.drop (Gb.spl ts.length))).dep<=B+n+1:=this;omega
   . rw[Gb.growT_high nlT prT h0 om h3] at ht;rcases List.mem_append.mp ht with ht | ht
     . have:=Zoi n _ (old - Gb.spl ts.length) B (by simp;omega) a2 t ht;omega
     . rw[List.mem_singleton.mp ht];have:=Zfx n (ts.take (Gb.spl ts.length)) B (by simp;omega) a1;have this:(Gb.topT nlT prT (ts.take (Gb.spl ts.length))).dep<=B+n+1:=this;omega
def FunAt (K:W.Frag)(mg:Str->Option Value)(x:Str)(st:Stmt):Prop:=∃ f fd,mg x=some (.ref f)/\Fun K x x st f fd
theorem Zqd {K:W.Frag}{mg:Str->Option Value}{h:Heap}{x:Str}{st:Stmt}(X:K.In h)(G:h.Ns mainGlobals mg){f:Addr}{oc:Value}{od an:Option Addr}{osl:Array (Option Value)}{kV doc pm ad ct:Value}
 (a:W.nsIn K mainGlobals x=some (some (.ref f)))(l:K.lookup f=some ⟨oc,od,.func (W.fnOf x x (Za3 st) (Zaq st) (Zad st) .none kV doc pm an ad ct),osl⟩)
 (c:PySem.W.codeIn K ad x=true)(k:W.keepIn K (.ref f)=true):FunAt K mg x st:=⟨f,_,Xbx X G a,Zs5 l c k⟩
def FnP (P:Program)(w:World)(K:W.Frag)(mg:Str->Option Value)(base:Heap)(k:Nat)(x:Str)(ps:List Str)(sp:Sp):Prop:=
 ∃ f fd,mg x=some (.ref f)/\W.keepIn K (.ref f)=true/\Binds K fd ps []/\FnOk P w K mg base CX0 k f fd ps sp/\∃ oc od sl,K.lookup f=some ⟨oc,od,.func fd,sl⟩
theorem FnP.mono {j k:Nat}{x:Str}{ps:List Str}{sp:Sp}(F:FnP P w K mg base j x ps sp)(h:j<=k):FnP P w K mg base k x ps sp:=by
 obtain⟨f,fd,h1,h2,h3,h4,h5⟩:=F;exact⟨f,fd,h1,h2,h3,h4.mono h,h5⟩
theorem FunAt.ok {x:Str}{st:Stmt}{N ps:List Str}{k:Nat}{sp:Sp}(F:FunAt K mg x st)(S:Zak N ps (Zad st))
 (hb:∀ (kV doc pm:Value)(an:Option Addr)(ad ct:Value)(us:List Value),us.length=ps.length->bindArgs (W.fnOf x x (Za3 st) (Zaq st) (Zad st) .none kV doc pm an ad ct) ⟨us,[]⟩=pure (ps.zip us))
 (len:∀ vs H Q E,sp vs H Q E->vs.length=ps.length)
 (ah:∀ (f:Addr)(ad:Value)(A:Around)(outer:List Env)(s:Shared)(H:Hp)(vs:List V)(Q:VK)(E:XK),Room k (A.deeper (envOfC x (Zad st) s.heap.objs.size f ad))->sp vs H Q E->
  ∃ t,PSs (Zc1 CX0 P w K mg base N x (Zad st) f ad A outer s H E).nox (Zaq st) t/\t { nx:=fun _ H'=>Q .non H',rt:=Q } (Zce N vs) H):FnP P w K mg base (k+1) x ps sp:=by
 obtain⟨f,fd,h1,F⟩:=F;refine⟨f,fd,h1,F.kp,F.binds hb,F.ok S len fun ad A outer s H vs Q E=>ah f ad A outer s H vs Q E,?_⟩;obtain⟨oc,od,kV,doc,pm,an,ad,ct,osl,rfl,lk,hcd⟩:=F.ex;exact⟨_,_,_,lk⟩
section
variable {X:Cx}{k:Nat}{ps:List Str}{sp:Sp}{x:Str}{p pos:Pos}{e:Expr}{es:List Expr}{t:TA}
theorem Zag (F:FnP X.prog X.w X.K X.mg X.base k x ps sp)(hr:Room k X.A)(hg:Gl X x)(ha:PA X (e :: es) t)(hdb:NDa x:=by decide)
 (he:SEa X e es:=by rfl)(hpl:SPa X es pos:=by rfl):PE X (.Call (.Name x p) (e :: es) [] pos) (Zl5 sp [] E0 t):=by
 obtain⟨f,fd,h1,h2,h3,h4,_⟩:=F;exact Zj0 h4 hr hg h1 h2 h3 .nil Zb6 ha hdb he hpl
theorem Zpi (F:FnP X.prog X.w X.K X.mg X.base k x ps sp)(hr:Room k X.A)(hg:Gl X x)(hdb:NDa x:=by decide):PE X (.Call (.Name x p) [] [] pos) (Zl5 sp [] E0 Zl4):=by
 obtain⟨f,fd,h1,h2,h3,h4,_⟩:=F;exact Zq5 h4 hr hg h1 h2 h3 .nil Zb6 hdb
end
theorem Zl1 {X:Cx}{x:Str}{T:String}{pos:Pos}(hg:Gl X x)(hm:X.mg x=none)(hv:bootBuiltins x=some (.type T))(hn:x≠"__name__":=by decide)(hd:(x == ("__debug__" : Str))=false:=by decide):PE X (.Name x pos) (tC (.ty T)):=
 Zt3 (v:=.ty T) hg hm hv rfl hn hd
def SealAt (K:W.Frag)(mg:Str->Option Value)(st:Stmt)(S:Sl)(H:Hp)(f:Addr):Prop:=match S with
 | .plain=>mg "_law_plain" = some (.ref f)/\∃ oc od fd sl,K.lookup f=some ⟨oc,od,.func fd,sl⟩
 | .turned=>mg "_law_turned" = some (.ref f)/\∃ oc od fd sl,K.lookup f=some ⟨oc,od,.func fd,sl⟩
 | .num d=>∃ (c c':Addr) (doc pm ct:Value) (ob co:Obj) (cvs:Array Value) (tk:Tok) (kvs:List (List Key×V)),
  H f=some (.frz (PySem.W.fnMade "_law_numbered" "_law_numbering.<locals>._law_numbered" (Za3 st) (Zaq st) (Zad st) [("_law_told",c)] doc pm c' ct) (.own 0))/\
  H c'=some (.frz ob (.own 0))/\ob.data = .fields cvs/\cvs[1]? = some (.str "_law_numbering.<locals>._law_numbered" tk)/\H c=some (.frz co (.own 0))/\co.data = .cell (some (.ref d))/\H d=some (.dT kvs)/\Ints kvs
section
variable {K:W.Frag}{mg:Str->Option Value}{st:Stmt}{S:Sl}{H H':Hp}{f:Addr}
theorem SealAt.told (h:SealAt K mg st S H f):Zgn S H:=fun d e=>by
 cases S with
 | plain=>cases e
 | turned=>cases e
 | num d'=>
  obtain rfl:d'=d:=Option.some.inj e;obtain⟨c,c',doc,pm,ct,ob,co,cvs,tk,kvs,_,_,_,_,_,_,h,_⟩:=h;exact⟨kvs,h⟩
theorem SealAt.up {n:Nat}(h:SealAt K mg st S H f)(g:Gn S n H H'):SealAt K mg st S H' f:=by
 cases S with
 | plain=>exact h
 | turned=>exact h
 | num d=>
  obtain⟨c,c',doc,pm,ct,ob,co,cvs,tk,kvs,h1,h2,h3,h4,h5,h6,h7,h8⟩:=h;obtain⟨k,m,e1,e2,_,e4⟩:=g.told d rfl;rw[h7] at e1;cases e1;exact⟨c,c',doc,pm,ct,ob,co,cvs,tk,_,g.keep _ _ h1 rfl,g.keep _ _ h2 rfl,h3,h4,g.keep _ _ h5 rfl,h6,e2,e4 h8⟩
theorem SealAt.fny (h:SealAt K mg st S H f):Fny K H f:=by
 cases S with
 | plain=>exact .inl h.2
 | turned=>exact .inl h.2
 | num d=>
  obtain⟨c,c',doc,pm,ct,ob,co,cvs,tk,kvs,h1,_⟩:=h;exact .inr ⟨_,_,_,_,_,h1⟩
end
def Zc9 (K:W.Frag)(mg:Str->Option Value)(st:Stmt):Addr->Sp:=fun f vs H Q _=>∃ S m t1 t2 v1 v2,SealAt K mg st S H f/\Cap S H 1/\vs=[.str m,v1,v2]/\isT S H t1 v1/\isT S H t2 v2/\
 ∀ v H',Gr S 1 H H'->isT S H' (.nd m t1 t2) v->Q v H'
def Znv:Sp:=fun vs H Q _=>∃ m v1 v2,vs=[.str m,v1,v2]/\∀ p,H p=none->Q (.ref p) (upd H p (.tup [.str m,v1,v2]))
def Zk8:Sp:=fun vs H Q _=>∃ m v1 v2,vs=[.str m,v1,v2]/\∀ p,H p=none->Q (.ref p) (upd H p (.tup [.str "seal of",v2,v1,.str m]))
noncomputable abbrev mot:List Str:=["_law_mark","_law_one","_law_two"]
def Zwd (mg:Str->Option Value)(h:Heap):Prop:=∃ bm ob,mg "__builtins__" = some (.ref bm)/\bm≠builtinsNs/\h.get? bm=some ob/\ob.cls = .type "module"/\ob.dict=some builtinsNs/\ob.data = .plain
theorem Zne {P:Program}{w:World}{K:W.Frag}{mg mb:Str->Option Value}{k:Nat}{fa a c0 Pt:Addr}{fd:FuncData}{x:Str}{sp:Sp}{s₁:Shared}{vs:List Value}{ns:List Int}
 (KX:K.In s₁.heap)(hns:s₁.heap.Ns mainGlobals mg)(hb:s₁.heap.Ns builtinsNs mb)(hbb:∀ x:Str,x≠"__name__"->mb x=bootBuiltins x)(hlim:s₁.heap.NoLimit)(hg:s₁.gens = #[])
 (ha:s₁.heap.get? a=some { cls:=.type "list",data:=.seq vs.toArray })(hi:IntsAre vs ns)(hl:ns.length<=sizeLine)(hr:Room k callerA)
 (hC:PySem.W.CodeHd s₁.heap c0 Pt)(hT:s₁.heap.get? Pt=some (PySem.W.tabObj #[]))(hnt:PySem.W.noTabs K=true)(hbm:Zwd mg s₁.heap)
 (F:∀ base:Heap,K.In base->base.Ns mainGlobals mg->PySem.W.CodeHd base c0 Pt->Zwd mg base->FnOk P w K mg base CX0 k fa fd [x] sp)(hbind:∀ (s:Shared)(u:Value),BindsTo s fd ⟨[u],[]⟩ [(x,u)])
 (hsp:∀ H:Hp,SqL K H a (ns.map V.int)->Scr K H a (ns.map V.int)->H Pt=some (.tbl #[])->sp [.ref a] H (fun v _=>v = .bl true) fun _ _ _=>False) :
 codeAny (model P w) callerA (.call (.ref fa) ⟨[.ref a],[]⟩) (fun r s'=>r = .ok (.ret (.bool true))/\OldK s₁.heap s'.heap/\s'.os=s₁.os/\AllBare s'.gens) s₁:=by
 have rv:=Zio hi;have lenV:=hi.length;have hKP:K.lookup Pt=none:=by
  cases q:K.lookup Pt with
  | none=>rfl
  | some o=>
   have e:=KX _ _ q;rw[hT] at e;cases e;have h2:=List.all_eq_true.mp hnt (Pt,PySem.W.tabObj #[]) (PySem.W.mem_of_lookupK q);exact absurd (show false=true from h2) Xap
 have haP:a≠Pt:=by rintro rfl;rw[hT] at ha;cases ha
 have core:∀ H:Hp,SqL K H a (ns.map V.int)->Scr K H a (ns.map V.int)->H Pt=some (.tbl #[])->HOk P w H s₁.heap->(∀ b,H b≠none->b=Pt\/(b=a/\K.lookup a=none/\∃ o xs,H b=some (.frz o (.lst xs))))->
  codeAny (model P w) callerA (.call (.ref fa) ⟨[.ref a],[]⟩) (fun r s'=>r = .ok (.ret (.bool true))/\OldK s₁.heap s'.heap/\s'.os=s₁.os/\AllBare s'.gens) s₁:=by
  intro H hS hScr hP hok hA;have base_of:∀ {b:Addr}{o:Obj},s₁.heap.get? b=some o->H b=none->(Zo2 s₁.heap H).get? b=some o:=fun e n=>Zqc e n;have noT:∀ {b:Addr}{o:Obj},s₁.heap.get? b=some o->o.cls≠.none->o.cls≠.type "list"->H b=none:=fun {b o} e d1 d2=>by
   cases q:H b with
   | none=>rfl
   | some u=>
    rcases hA b (by rw[q];simp) with z | ⟨z,_⟩
    . subst z;rw[hT] at e;cases e;exact absurd rfl d1
    . subst z;rw[ha] at e;cases e;exact absurd rfl d2
  have noA:∀ {b:Addr}{o:Obj}{es:Array DictEntry}{ep:Nat},s₁.heap.get? b=some o->o.data = .dict es ep->H b=none:=fun {b o es ep} e d=>by
   cases q:H b with
   | none=>rfl
   | some u=>
    rcases hA b (by rw[q];simp) with z | ⟨z,_⟩
    . subst z;rw[hT] at e;cases e;cases d
    . subst z;rw[ha] at e;cases e;have d':Data.seq vs.toArray _=Data.dict es ep:=d;cases d'
  have nsK:∀ {b:Addr}{m:Str->Option Value},s₁.heap.Ns b m->(Zo2 s₁.heap H).Ns b m:=fun {b m} ⟨o,es,ep,e,d,r⟩=>⟨o,es,ep,base_of e (noA e d),d,r⟩
  have hKb:K.In (Zo2 s₁.heap H):=fun b o e=>base_of (KX b o e) (by
   cases q:H b with
   | none=>rfl
   | some u=>
    rcases hA b (by rw[q];simp) with z | ⟨z,z2,_⟩
    . subst z;rw[hKP] at e;cases e
    . subst z;rw[z2] at e;cases e)
  have hCb:PySem.W.CodeHd (Zo2 s₁.heap H) c0 Pt:=by
   obtain⟨o,vs',file,tf,flags,tg,inF,text,tt,e1,r1,r⟩:=hC;exact⟨o,vs',file,tf,flags,tg,inF,text,tt,base_of e1 (noT e1 (by rw[r1];nofun) (by rw[r1];decide)),r1,r⟩
  have hBb:Zwd mg (Zo2 s₁.heap H):=by
   obtain⟨bm,ob,b1,b2,b3,b4,r⟩:=hbm;exact⟨bm,ob,b1,b2,base_of b3 (noT b3 (by rw[b4];nofun) (by rw[b4];decide)),b4,r⟩
  have hM:Mod K mg (Zo2 s₁.heap H):=⟨hKb,nsK hns,⟨mb,nsK hb,hbb⟩,let ⟨mc,h1,h2⟩:=hlim;⟨mc,nsK h1,h2⟩⟩
  have e0:Env0 P w K mg (Zo2 s₁.heap H) callerA [] s₁ H:=⟨rfl,hM,fun b o e=>Zu2 e,Nat.le_of_eq (Zok _ _),trivial,fun b hb=>absurd (show b∈([]:List Addr) from hb) (by simp),hok,.of_eq hg⟩
  refine codeAny_mono ((F _ hKb (nsK hns) hCb hBb).run callerA [] s₁ H ⟨[.ref a],[]⟩ [.ref a] [.ref a] _ _ hr e0 (hbind s₁ (.ref a)) (.cons rfl .nil) (hsp H hS hScr hP)) fun r s' h=>?_;cases r with
  | error e=>exact(show False from h).elim
  | ok fl=>
   cases fl with
   | next=>exact False.elim h
   | brk=>exact False.elim h
   | cont=>exact False.elim h
   | ret u=>
    obtain⟨v,H',os,bare,un,hok',r',q⟩:=h;have q':v = .bl true:=q;subst q';obtain rfl:u=Value.bool true:=r';have kp:∀ b o,s₁.heap.get? b=some o->b≠Pt->s'.heap.get? b=some o:=fun b o e hbP=>by
     cases q:H b with
     | none=>exact un.keep b o e q (by intro z;exact absurd (show b∈([]:List Addr) from z) (by simp)) (by simp)
     | some u=>
      rcases hA b (by rw[q];simp) with z | ⟨z,_,ob,xs,z2⟩
      . exact absurd z hbP
      . have z3:=un.frzs b ob _ z2;obtain⟨e1,_⟩:=hok b _ z2;obtain⟨e2,_⟩:=hok' b _ z3;rw[e] at e1;cases e1;exact e2
    obtain⟨more,hm⟩:=un.tbls Pt #[] hP;have hP':s'.heap.get? Pt=some (PySem.W.tabObj (#[]++more)):=hok' _ _ hm;refine⟨rfl,⟨fun b o e=>?_,fun b o e=>?_⟩,os,bare⟩
    . by_cases hbP:b=Pt
      . subst hbP;rw[hT] at e;cases e;exact .inr (.inl ⟨(hC.tab hT).isCodeTable,rfl,#[],more,rfl,hP'⟩)
      . exact .inl (kp b o e hbP)
    . by_cases hbP:b=Pt
      . subst hbP;exact⟨_,hP'⟩
      . exact⟨o,kp b o e hbP⟩
 cases hk:K.lookup a with
 | some o=>
  have e:=KX a o hk;rw[ha] at e;cases e
  refine core (fun b=>if b=Pt then some (.tbl #[]) else none) (.inr ⟨_,vs.toArray,_,hk,rfl,rfl,rfl,by rw[Xar,lenV];exact hl,by simpa using rv⟩)
   ⟨vs,_,rv,by rw[Xad];exact hl,.inr hk⟩ (if_pos rfl) (fun b u z=>?_) (fun b z=>?_)
  . by_cases hb:b=Pt
    . have z':=(if_pos hb).symm.trans z;cases z';subst hb;exact hT
    . have z':=(if_neg hb).symm.trans z;cases z'
  . by_cases hb:b=Pt
    . exact .inl hb
    . exact absurd (if_neg hb) z
 | none=>
  have eH:(fun b=>if b=Pt then some (.tbl #[]) else if b=a then some (.frz { cls:=.type "list",data:=.seq vs.toArray } (.lst (ns.map V.int))) else none:Hp) a=some (.frz { cls:=.type "list",data:=.seq vs.toArray } (.lst (ns.map V.int))):=by
   show(if a=Pt then _ else if a=a then _ else _)=_;rw[if_neg haP,if_pos rfl]
  refine core (fun b=>if b=Pt then some (.tbl #[]) else if b=a then some (.frz { cls:=.type "list",data:=.seq vs.toArray } (.lst (ns.map V.int))) else none) (.inl (.inr ⟨{ cls:=.type "list",data:=.seq vs.toArray },eH⟩))
   ⟨vs,_,rv,by rw[Xad];exact hl,.inl ⟨_,eH⟩⟩ (if_pos rfl) (fun b u z=>?_) (fun b z=>?_)
  . by_cases hb:b=Pt
    . have z':=(if_pos hb).symm.trans z;cases z';subst hb;exact hT
    . have z1:=(if_neg hb).symm.trans z;by_cases hb2:b=a
      . have z2:=(if_pos hb2).symm.trans z1;cases z2
        subst hb2;exact⟨ha,by rw[Xad];exact hl,vs,_,rv,ha⟩
      . have z2:=(if_neg hb2).symm.trans z1;cases z2
  . by_cases hb:b=Pt
    . exact .inl hb
    . by_cases hb2:b=a
      . exact .inr ⟨hb2,hk,_,_,by rw[if_neg hb,if_pos hb2]⟩
      . exact absurd (by rw[if_neg hb,if_neg hb2]) z
theorem Zrv {l:PySem.W.OpenLaw}{n k:Nat}{q:Program}{loose:List Str}{XP:(Str->Option Value)->Heap->Prop}{YP:World->Heap->Prop}{d dt:DefRec}{K:Params->W.Frag}{sp:W.Frag->(Str->Option Value)->Addr->Sp}{x xn:Str}{c0 Pt:Addr}
 (hn:l.most=some n)(hn2:n<=sizeLine)(hdf:d.params.defaults=[])(hr:Room k callerA)
 (hY:∀ (w:World)(h:Heap),YP w h->(K w.params).In h)(hrec:(recsOf q).find? (fun e=>e.name == xn)=some dt)
 (ht:∀ w:World,PySem.W.tabIn (K w.params) xn=some (c0,Pt))(hnt:∀ w:World,PySem.W.noTabs (K w.params)=true)
 (F:∀ (w:World)(mg:Str->Option Value)(fa:Addr)(h:Heap),(K w.params).In h->h.Ns mainGlobals mg->mg d.name=some (.ref fa)->PySem.W.tabIn (K w.params) xn=some (c0,Pt)->
  ∃ fd:FuncData,(∀ (s:Shared) (u:Value),BindsTo s fd ⟨[u],[]⟩ [(x,u)])/\
   ∀ base:Heap,(K w.params).In base->base.Ns mainGlobals mg->PySem.W.CodeHd base c0 Pt->Zwd mg base->FnOk l.prog w (K w.params) mg base CX0 k fa fd [x] (sp (K w.params) mg Pt))
 (hsp:∀ (K:W.Frag)(mg:Str->Option Value)(Pt:Addr)(H:Hp)(a:Addr)(ns:List Int),ns.length<=n->SqL K H a (ns.map V.int)->Scr K H a (ns.map V.int)->H Pt=some (.tbl #[])->sp K mg Pt [.ref a] H (fun v _=>v = .bl true) fun _ _ _=>False) :
 PySem.W.WalkO q loose XP YP l.row.toRowW d [] (fun f vs=>PySem.call f vs):=by
 refine Att.attach_call hn hdf fun w s₀ s₁ mg mb fa o pm cd doc a vs ns G Y ho hd hcd hmg hobj hints ai hg=>?_;have KX:=hY w _ Y;obtain⟨fd,hb,hF⟩:=F w mg fa _ KX G.T.g hmg (ht w);obtain⟨hC,hT⟩:=PySem.W.tab_of G.T KX hrec (ht w);exact Zne KX G.T.g G.T.b G.T.builtins G.T.nolimit hg hobj hints (Xan ai hn2) hr hC hT (hnt w) G.T.bmain hF hb fun H hS hScr hP=>hsp _ mg _ H a ns ai hS hScr hP
theorem Zwm {c0 Pt:Addr}{k:Nat}{sp:Sp}{x name:Str}{ps:List Str}{st:Stmt}{fa:Addr}(hmg:mg name=some (.ref fa))(F:FunAt K mg name st)
 (h:∀ base:Heap,K.In base->base.Ns mainGlobals mg->PySem.W.CodeHd base c0 Pt->Zwd mg base->FnP P w K mg base k name ps sp)
 (hps:ps=[x]:=by rfl)(hbind:∀ (kV doc pm:Value)(an:Option Addr)(ad ct u:Value),bindArgs (W.fnOf name name (Za3 st) (Zaq st) (Zad st) .none kV doc pm an ad ct) ⟨[u],[]⟩=pure [(x,u)]:=by intros;rfl) :
 ∃ fd:FuncData,(∀ (s:Shared) (u:Value),BindsTo s fd ⟨[u],[]⟩ [(x,u)])/\∀ base:Heap,K.In base->base.Ns mainGlobals mg->PySem.W.CodeHd base c0 Pt->Zwd mg base->FnOk P w K mg base CX0 k fa fd [x] sp:=by
 subst hps;obtain⟨f,fd,h1,F⟩:=F;have e:=hmg.symm.trans h1;cases e
 obtain⟨oc,od,kV,doc,pm,an,ad,ct,osl,rfl,lk,hcd⟩:=F.ex;refine⟨_,fun s u=>.of_eq (hbind kV doc pm an ad ct u),fun base kb nb hC hB=>?_⟩;obtain⟨f',fd',h1',h2',h3',h4',oc2,od2,sl2,lk2⟩:=h base kb nb hC hB;have e:=h1.symm.trans h1';cases e
 rw[lk] at lk2;cases lk2
 exact h4'
theorem Zr7 {K:W.Frag}{x:Str}{f c P:Addr}{oc o1:Value}{od o2:Option Addr}{fd:FuncData}{sl s2:Array (Option Value)}{vs:Array Value}(a:W.nsIn K mainGlobals x=some (some (.ref f)))(l:K.lookup f=some ⟨oc,od,.func fd,sl⟩)(hc:fd.code = .ref c)
 (lc:K.lookup c=some ⟨o1,o2,.fields vs,s2⟩)(v:vs[11]? = some (.ref P)):PySem.W.tabIn K x=some (c,P):=by
 unfold PySem.W.tabIn;rw[a];dsimp only;rw[l];dsimp only;rw[hc];dsimp only;rw[lc];dsimp only;rw[v]
theorem Zn8 {X:Cx}{CX:CXT}{k:Nat}{sp:Addr->Sp}{E:XK}{x:Str}{p pos:Pos}{e:Expr}{es:List Expr}{t:TA}{i:Nat}(K:W.Frag)(hK:X.K=K)(F:Zch X.prog X.w X.K X.mg X.base CX k sp)(hr:Room k X.A)(hx:Zbu CX X E)(hN:X.N[i]? = some x)(hv:Vis X.env.scope x)(ha:PA X (e :: es) t)
 (hdb:NDa x:=by decide)(hcd:(x == ("__classdict__" : Str))=false:=by decide)
 (he:SEa X e es:=by rfl)(hpl:SPa X es pos:=by rfl) :
 PE X (.Call (.Name x p) (e :: es) [] pos) (Zs3 K i sp E t):=by subst hK;exact Zbd F hr hx hN hv ha hdb hcd he hpl
theorem Zso {X:Cx}(K:W.Frag)(hK:X.K=K):IxR X (rIxL K):=by subst hK;exact Zax
theorem Zds {X:Cx}(K:W.Frag)(hK:X.K=K):IxR X (rIxT K):=by subst hK;exact Za7
def MethAt (K:W.Frag)(C:Addr)(m qual:Str)(st:Stmt):Prop:=∃ f fd,Zmq K C m f/\Fun K m qual st f fd
theorem Zeb {K:W.Frag}{C:Addr}{m qual:Str}{st:Stmt}{f:Addr}{oc:Value}{od an:Option Addr}{osl:Array (Option Value)}{kV doc pm ad ct:Value}(a:W.findIn K (.ref C) m=some (some (.ref f)))(i:PySem.W.isFn K (.ref f)=true)
 (l:K.lookup f=some ⟨oc,od,.func (W.fnOf m qual (Za3 st) (Zaq st) (Zad st) .none kV doc pm an ad ct),osl⟩)(c:PySem.W.codeIn K ad qual=true)(k:W.keepIn K (.ref f)=true):MethAt K C m qual st:=⟨f,_,⟨a,i,k⟩,Zs5 l c k⟩
def MtP (P:Program)(w:World)(K:W.Frag)(mg:Str->Option Value)(base:Heap)(C:Addr)(k:Nat)(m:Str)(ps:List Str)(sp:Sp):Prop:=∃ f fd,Zmq K C m f/\Binds K fd ps []/\FnOk P w K mg base CX0 k f fd ps sp
section
variable {C:Addr}
theorem MethAt.ok {m qual:Str}{st:Stmt}{N ps:List Str}{k:Nat}{sp:Sp}(F:MethAt K C m qual st)(S:Zak N ps (Zad st))
 (hb:∀ (kV doc pm:Value)(an:Option Addr)(ad ct:Value)(us:List Value),us.length=ps.length->bindArgs (W.fnOf m qual (Za3 st) (Zaq st) (Zad st) .none kV doc pm an ad ct) ⟨us,[]⟩=pure (ps.zip us))
 (len:∀ vs H Q E,sp vs H Q E->vs.length=ps.length)
 (ah:∀ (f:Addr)(ad:Value)(A:Around)(outer:List Env)(s:Shared)(H:Hp)(vs:List V)(Q:VK)(E:XK),Room k (A.deeper (envOfC qual (Zad st) s.heap.objs.size f ad))->sp vs H Q E->
  ∃ t,PSs (Zc1 CX0 P w K mg base N qual (Zad st) f ad A outer s H E).nox (Zaq st) t/\t { nx:=fun _ H'=>Q .non H',rt:=Q } (Zce N vs) H):MtP P w K mg base C (k+1) m ps sp:=by
 obtain⟨f,fd,h1,F⟩:=F;exact⟨f,fd,h1,F.binds hb,F.ok S len fun ad A outer s H vs Q E=>ah f ad A outer s H vs Q E⟩
end
section
variable {X:Cx}{C:Addr}{k:Nat}{ps:List Str}{sp:Sp}{m:Str}{o e:Expr}{es:List Expr}{ta:TE}{t:TA}{ae pos:Pos}
theorem Zq6 {pl:Sem Bool}(F:MtP X.prog X.w X.K X.mg X.base C k m ps sp)(he:PE X o ta)(c:Cls X.K C)(hr:Room k X.A)(ha:PA X (e :: es) t)
 (hst:SEa X e es:=by rfl)(hpl:SPa X es pos:=by rfl)
 (ht:MCa X o m (e :: es) pl ae pos:=by rfl) :
 PE X (.Call (.Attribute o m ae) (e :: es) [] pos) (Zge C m sp [] E0 ta t):=by
 obtain⟨f,fd,h1,h3,h4⟩:=F;exact Zf5 he c h1 h4 hr h3 .nil Zb6 ha hst hpl ht
theorem Zcn {pl:Sem Bool}(F:MtP X.prog X.w X.K X.mg X.base C k m ps sp)(he:PE X o ta)(c:Cls X.K C)(hr:Room k X.A)
 (ht:MCa X o m [] pl ae pos:=by rfl) :
 PE X (.Call (.Attribute o m ae) [] [] pos) (Zge C m sp [] E0 ta Zl4):=by
 obtain⟨f,fd,h1,h3,h4⟩:=F;exact Zla he c h1 h4 hr h3 .nil Zb6 ht
end
end L2
namespace Gb
section
variable {α:Type}(nl:α)(pr:α->α->α)
noncomputable def Zc8 (n p:Nat):List Bool:=
 if h:n<2 then [] else if p<spl n then true :: Zc8 (spl n) p else false :: Zc8 (n - spl n) (p - spl n)
termination_by n
decreasing_by
 . exact spl_lt (by omega)
 . have:=spl_pos n;omega
theorem Zgf {n p:Nat}(h:n<2):Zc8 n p=[]:=by rw[Zc8,dif_pos h]
theorem Zgp {n p:Nat}(h:2<=n)(h2:p<spl n):Zc8 n p=true :: Zc8 (spl n) p:=by rw[Zc8,dif_neg (by omega),if_pos h2]
theorem Zf4 {n p:Nat}(h:2<=n)(h2:¬ p<spl n):Zc8 n p=false :: Zc8 (n - spl n) (p - spl n):=by rw[Zc8,dif_neg (by omega),if_neg h2]
noncomputable def rise:List Bool->List α->α->α
 | u :: us,o :: os,x=>rise us os (if u then pr x o else pr o x)
 | _,_,x=>x
theorem Zfo:∀ {us:List Bool}{os:List α}{u:Bool}{o x:α},us.length=os.length->rise pr (us++[u]) (os++[o]) x=if u then pr (rise pr us os x) o else pr o (rise pr us os x)
 | [],[],u,o,x,_=>rfl
 | v :: us,p :: os,u,o,x,h=>by
  show rise pr (us++[u]) (os++[o]) _=_;rw[Zfo (by simpa using h)]
  rfl
theorem path_turns:∀ (n:Nat)(ts:List α)(p:Nat),ts.length=n->p<n->(pathT nl pr ts p).length=(Zc8 n p).length/\∀ x,ts[p]? = some x->rise pr (Zc8 n p).reverse (pathT nl pr ts p) x=topT nl pr ts:=by
 intro n
 induction n using Nat.strongRecOn with
 | ind n ih=>
  intro ts p hn hp;by_cases h:n<2
  . rw[pathT_few nl pr (by omega),Zgf h];refine⟨rfl,fun x hx=>?_⟩;have h1:n=1:=by omega
    subst h1;obtain⟨t,rfl⟩:=List.length_eq_one_iff.mp hn;have:p=0:=by omega
    subst this;simp at hx;rw[topT_one,<- hx];rfl
  . have h2:2<=ts.length:=by omega
    have a1:=spl_lt h2;have a2:=spl_pos ts.length;by_cases hq:p<spl n
    . have hq':p<spl ts.length:=by rw[hn];exact hq
      rw[pathT_low nl pr h2 hq',Zgp (by omega) hq,topT_more nl pr h2];obtain⟨i1,i2⟩:=ih (spl n) (by rw[<- hn];exact a1) (ts.take (spl ts.length)) p (by simp;rw[hn];rw[hn] at a1;omega) hq;refine⟨by simp[i1],fun x hx=>?_⟩;rw[List.reverse_cons,Zfo pr (by simp[i1])];rw[i2 x (by rw[List.getElem?_take_of_lt hq'];exact hx)]
      rfl
    . have hq':¬ p<spl ts.length:=by rw[hn];exact hq
      rw[pathT_high nl pr h2 hq',Zf4 (by omega) hq,topT_more nl pr h2];have e1:(ts.drop (spl ts.length)).length=n - spl n:=by simp;rw[hn]
      have b2:1<=spl n:=spl_pos n;have b1:spl n<n:=spl_lt (by omega);obtain⟨i1,i2⟩:=ih (n - spl n) (by omega) (ts.drop (spl ts.length)) (p - spl ts.length) e1 (by rw[hn];omega);rw[hn] at i1 i2 ⊢;refine⟨by simp[i1],fun x hx=>?_⟩;rw[List.reverse_cons,Zfo pr (by simp[i1])];rw[i2 x (by rw[List.getElem?_drop,show spl n+(p - spl n)=p by omega];exact hx)]
      rfl
theorem turns_len:∀ (j n p:Nat),n<=2 ^ j->(Zc8 n p).length<=j
 | j,n,p,h=>by
  by_cases h2:n<2
  . rw[Zgf h2];simp
  match j,h with
  | 0,h=>simp at h;omega
  | j+1,h=>
   have a1:=spl_lt (n:=n) (by omega);have a2:=spl_ge (n:=n) (by omega);have c:spl n<=2 ^ j:=by
    unfold spl;refine Nat.pow_le_pow_right (by omega) ?_;have:2 ^ Nat.log2 (n - 1)<2 ^ (j+1):=Nat.lt_of_lt_of_le (spl_lt (by omega)) h;have:=(Nat.pow_lt_pow_iff_right (by omega:1<2)).mp this;omega
   by_cases h3:p<spl n
   . rw[Zgp (by omega) h3];have:=turns_len j (spl n) p c;simp;omega
   . rw[Zf4 (by omega) h3];have:=turns_len j (n - spl n) (p - spl n) (by omega);simp;omega
end
end Gb
namespace L2
open PySem PySem.Spec PyProof.Rows
variable {P:Program}{w:World}{K:W.Frag}{mg:Str->Option Value}{base:Heap}
theorem ObjOk.there {P:Program}{w:World}{H:Hp}{h:Heap}{a:Addr}{o:HO}(x:ObjOk P w H h a o):∃ ob,h.get? a=some ob:=by
 cases o with
 | lst xs=>obtain⟨_,_,_,_,e⟩:=x;exact⟨_,e⟩
 | tup xs=>obtain⟨_,_,_,o,e,_⟩:=x;exact⟨_,e⟩
 | dK kvs=>obtain⟨_,_,_,_,o,_,_,e,_⟩:=x;exact⟨_,e⟩
 | dT kvs=>obtain⟨_,_,_,_,o,_,_,e,_⟩:=x;exact⟨_,e⟩
 | set S n=>obtain⟨o,_,_,_,e,_⟩:=x;exact⟨_,e⟩
 | ins C dx fs=>obtain⟨_,_,_,e,_⟩:=x;exact⟨_,e⟩
 | own y=>exact x
 | xd fs=>obtain⟨_,⟨_,_,_,e,_⟩,_⟩:=x;exact⟨_,e⟩
 | rng lo hi=>obtain⟨_,_,_,e⟩:=x;exact⟨_,e⟩
 | frz ob u=>obtain⟨e,_⟩:=x;exact⟨_,e⟩
 | tbl ps=>exact⟨_,(show h.get? a=some _ from x)⟩
 | met f y=>exact⟨_,(show h.get? a=some _ from x)⟩
 | ext φ=>obtain⟨_,e,_⟩:=x;exact e
noncomputable def quietIn (K:W.Frag) (N:Addr):Bool:=PySem.W.nsOkIn K N && quietNames.all fun n=>W.nsIn K N n == some none
noncomputable def tailQ (K:W.Frag) (bmB:List Value):List Value->Bool
 | []=>bmB == []
 | v :: r=>(v :: r == bmB) || match v with
  | .ref A=>(match List.lookup A K with
   | some ⟨_,_,.cls cd,_⟩=>quietIn K cd.ns && tailQ K bmB r
   | _=>false)
  | _=>false
theorem quietIn.ns {K:W.Frag}{N:Addr}{h:Heap}(X:K.In h)(q:quietIn K N=true):∃ mN,h.Ns N mN/\∀ n∈quietNames,mN n=none:=by
 have q:=Bool.and_eq_true_iff.mp q;have nsI:=Heap.Ns.of_isNs (PySem.W.isNs_of_in X q.1);refine⟨_,nsI,fun n hn=>?_⟩;have z:=List.all_eq_true.mp q.2 n hn;exact PySem.W.nsMap_none_of_in X q.1 (eq_of_beq z)
theorem tailQ.ok {K:W.Frag}{bmB:List Value}{h:Heap}(X:K.In h):∀ {l:List Value},tailQ K bmB l=true->OwnTailQ h bmB l
 | [],q=>by
  have e:bmB=[]:=eq_of_beq (show(bmB == [])=true from q);subst e;exact .base
 | v :: r,q=>by
  unfold tailQ at q;rcases Bool.or_eq_true_iff.mp q with q | q
  . have e:v :: r=bmB:=eq_of_beq q;subst e;exact .base
  . split at q
    . split at q
      . next A _ c0 dd cd sl lk=>
        have q:=Bool.and_eq_true_iff.mp q;obtain⟨mA,h1,h2⟩:=quietIn.ns X q.1;exact .own (X _ _ lk) h1 h2 (tailQ.ok X q.2)
      . cases q
    . cases q
structure Zq0 (K:W.Frag)(C:Addr):Prop where
 ex:∃ (nm q:Str) (N:Addr) (bs bm bmB:List Value) (hdct:Bool) (sn:List Str) (sub:List Value) (ab:Bool) (col:Option Bool) (dd:Option Addr) (k0 k1 k2 k3 k5:Option Value) (newId B nid initId Bn inN:String) (bmN:List Value),
  K.lookup C=some (excClassObj nm q C N bs bm hdct sn sub ab col dd k0 k1 k2 k3 k5 newId)/\quietIn K N=true/\tailQ K bmB bm=true/\bm.contains (Value.type "BaseException")=true/\
  ExcBaseFacts Bn newId inN bmN/\bmB.contains (Value.type Bn)=true/\ExcBaseFacts B nid initId bmB/\ExcAttrBase B bmB
 ga:W.findIn K (.ref C) "__getattribute__" = some (some (.builtin "BaseException.__getattribute__"))
 gn:W.findIn K (.ref C) "__getattr__" = some none
 fo:W.findIn K (.ref C) "__class__" = some (some (.builtin "object.__class__"))
 sp:PySem.W.specialIn K (.builtin "object.__class__") "__get__" = some (some (.builtin "getset_descriptor.__get__"))
 tk:PySem.W.takesIn K (.builtin "object.__class__")=some true
 mo:PySem.W.mroIn K C (.type "object")=some true
theorem Zud {K:W.Frag}{C:Addr}{nm q:Str}{N:Addr}{bs bm:List Value}{hdct:Bool}{sn:List Str}{sub:List Value}{ab:Bool}{col:Option Bool}{dd:Option Addr}{k0 k1 k2 k3 k5:Option Value}
 (a:K.lookup C=some (excClassObj nm q C N bs bm hdct sn sub ab col dd k0 k1 k2 k3 k5 "ValueError.__new__"))(b:quietIn K N=true)(c:tailQ K [Value.type "ValueError",Value.type "Exception",Value.type "BaseException",Value.type "object"] bm=true)
 (d:bm.contains (Value.type "BaseException")=true)(ga:W.findIn K (.ref C) "__getattribute__" = some (some (.builtin "BaseException.__getattribute__")))(gn:W.findIn K (.ref C) "__getattr__" = some none)
 (fo:W.findIn K (.ref C) "__class__" = some (some (.builtin "object.__class__")))(sp:PySem.W.specialIn K (.builtin "object.__class__") "__get__" = some (some (.builtin "getset_descriptor.__get__")))
 (tk:PySem.W.takesIn K (.builtin "object.__class__")=some true)(mo:PySem.W.mroIn K C (.type "object")=some true):Zq0 K C:=
 ⟨⟨nm,q,N,bs,bm,_,hdct,sn,sub,ab,col,dd,k0,k1,k2,k3,k5,_,_,_,_,_,_,_,a,b,c,d,F.excBase_ValueError,by decide,F.excBase_ValueError,F.attrBase_ValueError⟩,ga,gn,fo,sp,tk,mo⟩
theorem Zhk {K:W.Frag}{C e:Addr}{oe:Obj}{prog:Program}{w:World}{A:Around}{s:Shared}{R:Result->Shared->Prop}{tp:Value}(X:K.In s.heap)(he:s.heap.get? e=some oe)(hc:oe.cls = .ref C)
 (mo:PySem.W.mroIn K C (.type "object")=some true)(h:R (.ok (.ret (.ref C))) s)(htp:(tp == Value.none)=false) :
 codeAny (model prog w) A (.call (.builtin "getset_descriptor.__get__") { pos:=[.builtin "object.__class__",.ref e,tp] }) R s:=by
 refine codeAny_call_builtin PySem.W.KF.slot_gs.plain PySem.W.KF.entry_gs ?_;refine PySem.W.KF.slot_gs.check _ _ _ s _ _ _ _ PySem.W.KF.type_class (PySem.W.KF.args_gs _ _ _) ?_;unfold Builtin.«getset_descriptor.__get__» Builtin.Getset_descriptor.descrGet;refine Xaa ?_;show wpAny _ _ (pure (Value.builtin "object.__class__",some (Value.ref e),if (tp == Value.none)=true then none else some tp)) _ _ _;refine Xak ?_;show wpAny _ _ (Builtin.Getset_descriptor.descrGetter _ (some _)) _ _ _;unfold Builtin.Getset_descriptor.descrGetter;unfold Builtin.Getset_descriptor.descrCheckInstance;refine Xaa (Xaa ?_);have hnc:Builtin.Getset_descriptor.descrNameAndClass (Value.builtin "object.__class__")=pure (Str.ofString "__class__",Value.type "object"):=by
  show(match Builtin.Getset_descriptor.descrOwnerAndName "object.__class__" with | (o,n)=>(pure (Str.ofString n,Value.type o):Sem _))=_;rw[PySem.W.KF.owner_class]
 rw[hnc];refine Xak ?_;refine Xaa ?_;unfold isInstance;refine Xaa (wpAny_typeOf_ref he ?_);rw[hc];refine PySem.W.looks_mroIn X mo _ _ _ s (fun _ _ z=>z) ?_;refine Xak ?_;refine Xak ?_;refine⟨by kernel_rfl,codeAny_builtin PySem.W.KF.entry_class ?_⟩;unfold Builtin.«object.__class__» shownTypeOf;refine Xaa (Xaa (wpAny_typeOf_ref he ?_));rw[hc];refine Xak ?_;exact Xak h
theorem Zi0 {K:W.Frag}{C e:Addr}{oe:Obj}(x:Zq0 K C){prog:Program}{w:World}{A:Around}{E:Value->Shared->Prop}{Q:Option Value->Shared->Prop}{s:Shared}(X:K.In s.heap)
 (he:s.heap.get? e=some oe)(hc:oe.cls = .ref C)
 (h:Q (some (.ref C)) { s with toks:=s.toks+1 }):wpAny (model prog w) A (getAttr? (.ref e) "__class__") Q E s:=by
 have ty:∀ {A:Around}{Q:Value->Shared->Prop}{E:Value->Shared->Prop},Q (.ref C) { s with toks:=s.toks+1 }->wpAny (model prog w) A (typeOf (.ref e)) Q E { s with toks:=s.toks+1 }:=fun q=>wpAny_typeOf_ref (s:={ s with toks:=s.toks+1 }) he (by rw[hc];exact q);obtain⟨nm,q,N,bs,bm,bmB,hdct,sn,sub,ab,col,dd,k0,k1,k2,k3,k5,newId,B,nid,initId,Bn,inN,bmN,lk,qn,tl,has,F1,F2,F3,F4⟩:=x.ex;obtain⟨mN,hN,hq⟩:=quietIn.ns X qn;have TQ:=tailQ.ok X tl;have hC:=X _ _ lk;unfold getAttr?;refine Xaa (wpAny_mkText ?_);unfold getAttrBy?;refine Xaa (wpAny_attempt ?_);unfold getAttrBy;refine Xbi (Xaa (ty ?_));refine Xaa (Xb1 X x.ga A _ _ { s with toks:=s.toks+1 } (fun _ _ z=>z) ?_);show wpAny _ _ (getAttrByItsOwn _ _ _ _ _ _) _ _ _;unfold getAttrByItsOwn;refine Xaa (PySem.W.looks_hook X (r:=none) (by show W.findIn K (.ref C) _=_;exact x.gn) A _ _ { s with toks:=s.toks+1 } (fun _ _ z=>z) ?_);refine Xaa (wpAny_attempt (Xbi ?_));show wpAny _ _ (boundAndCalled _ _ _) _ _ _;unfold boundAndCalled;rw[F4.ga.bind];refine Xaa (Xak ?_);refine Xb5 (codeAny_call_builtin F4.ga.plain F.entry_bexc_ga ?_);refine wpAny_check_ga_own F4 hC TQ he hc ?_;unfold Builtin.«object.__getattribute__»;refine Xaa (Xak ?_);refine Xaa (Xak ?_);refine Xaa (ty ?_);refine Xaa ?_;unfold Builtin.ObjectAttr.find;refine Xaa (Xb1 X x.fo _ _ _ { s with toks:=s.toks+1 } (fun _ _ z=>z) ?_);refine Xaa (PySem.W.looks_specialIn X x.sp _ _ _ { s with toks:=s.toks+1 } (fun _ _ z=>z) ?_);refine Xaa ?_;unfold Builtin.ObjectAttr.dataDescriptor?;refine Xaa (PySem.W.looks_takesIn X x.tk _ _ _ { s with toks:=s.toks+1 } (fun _ _ z=>z) ?_)
 refine Xak ?_;refine Xaa (wpAny_rule ?_);refine Xak ?_;show wpAny _ _ (Builtin.ObjectAttr.bindTo _ _ _ _) _ _ _;refine Xaa (Xbi (Xb5 (Zhk (s:={ s with toks:=s.toks+1 }) X he hc x.mo ?_ rfl)));refine Xak ?_;refine Xak ?_;exact Xak h
structure Zpx (K:W.Frag)(C:Addr)(oe:Obj):Prop where
 x:Zq0 K C
 cls:oe.cls = .ref C
theorem Zr1 {K:W.Frag}{C e:Addr}{oe:Obj}(x:Zpx K C oe):PySem.W.KitX K (.ref e) (.ref C) fun h=>h.get? e=some oe where
 ty:=fun M h X he=>fun A Q E s k q=>wpAny_typeOf_ref (k _ _ he) (by rw[x.cls];exact q)
 it:=fun M h X he=>by
  obtain⟨nm,q,N,bs,bm,bmB,hdct,sn,sub,ab,col,dd,k0,k1,k2,k3,k5,newId,B,nid,initId,Bn,inN,bmN,lk,_⟩:=x.x.ex;intro A Q E s k q;exact ks_wpAny_isType_cls (k _ _ (X _ _ lk)) rfl q
 ne:=fun h tp dd its n sl X ht=>by
  obtain⟨nm,q,N,bs,bm,bmB,hdct,sn,sub,ab,col,dd,k0,k1,k2,k3,k5,newId,B,nid,initId,Bn,inN,bmN,lk,_⟩:=x.x.ex;have e:=X _ _ lk;rw[beq_eq_false_iff_ne];intro z;cases z
  rw[ht] at e;have e2:=congrArg Obj.data (Option.some.inj e);cases e2
 ca:=fun X he q=>Zi0 x.x X he x.cls q
theorem Zdr {X:Cx}{K:W.Frag}(hK:X.K=K:=by rfl):Zd8 X (.builtin "isinstance") (fun xs H Q=>∃ ea C oe c cv b,xs=[.ref ea,c]/\RelV c cv/\(∀ u,RelV c u->u=cv)/\H ea=some (.frz oe (.own 0))/\Zpx K C oe/\W.kitOne K (.ref C) cv=some b/\Q (.bl b) H):=by
 subst hK;intro aa s σ H xs us Q I r h;obtain⟨ea,C,oe,c,cv,b,rfl,rc,uq,ha,ix,e,q⟩:=h;obtain⟨u,w',rfl,rx,rc'⟩:=Znn r;obtain rfl:u=Value.ref ea:=rx;obtain rfl:=uq _ rc';exact Xbj (Zr1 ix) I.kIn (I.hok _ _ ha).1 e (fun z=>nomatch z) fun tk=>⟨.bl b,H,I.tok tk,rfl,q⟩
structure Fly (P:Program)(w:World)(outer:List Env)(H H':Hp)(s:Shared)(C ea t:Addr)(B:Heap)(s':Shared):Prop where
 os:s'.os=s.os
 bare:AllBare s'.gens
 fly:B.FlyingW outer ea (.ref C) (.ref t) s'.heap
 un:Un (frs outer) [] H H' s.heap s'.heap
 hok:HOk P w H' s'.heap
 old:∀ b o,s.heap.get? b=some o->H b=none->b∉frs outer->B.get? b=some o
 trk:∀ b u,H' b=some u->b∉frs outer/\∀ o,s'.heap.get? b=some o->B.get? b=some o
 all:∀ b o,s.heap.get? b=some o->b∈frs outer\/∃ o',B.get? b=some o'
def CXB (P:Program)(w:World):CXT:=fun outer H s E e s'=>∃ ea t C B H',e = .ref ea/\Fly P w outer H H' s C ea t B s'/\E (.ref C) none H'
theorem Zb0 {h b1 b2:Heap}:∀ {l:List Env},h.FunFrames b1 l->(∀ a∈frs l,b2.get? a=none)->h.FunFrames b2 l
 | [],_,_=>trivial
 | env :: r,x,k=>by
  obtain⟨hk,⟨L,o,hf,hn,ho,hd⟩,hr⟩:=x;refine⟨hk,⟨L,o,hf,k L (by unfold frs;rw[List.filterMap_cons,hf];exact Xaz),ho,hd⟩,Zb0 hr fun a ha=>k a ?_⟩;unfold frs;rw[List.filterMap_cons,hf];exact Xal _ ha
def Znj (X:Cx)(E:XK):Prop:=∀ (aa:List (Addr×Obj))(σ:St)(H:Hp)(s:Shared)(h':Heap)(e C:Addr)(vs:List Value),Inv X aa σ H s->s.heap.MadeExcOf h' e (.ref C) vs->E (.ref C) none H->X.xe (.ref e) { s with heap:=h' }
theorem Zf2 {N:List Str}{qual:Str}{scope:Scope}{f:Addr}{cd:Value}{A:Around}{outer:List Env}{s:Shared}{H:Hp}{E:XK} :
 Znj (Zc1 (CXB P w) P w K mg base N qual scope f cd A outer s H E) E:=by
 intro aa σ H1 s1 h' e C vs I M q;have hfr:∀ b∈frs (envOfC qual scope s.heap.objs.size f cd :: outer),H1 b=none:=I.stkFree;have hB:∀ {b o},s1.heap.get? b=some o->b∉frs (envOfC qual scope s.heap.objs.size f cd :: outer)->(W.hideAll s1.heap (frs (envOfC qual scope s.heap.objs.size f cd :: outer))).get? b=some o:=fun e n=>W.hideAll_get _ e n;have hsub:∀ b∈frs outer,b∈frs (envOfC qual scope s.heap.objs.size f cd :: outer):=fun b hb=>Xal _ hb;have hnew:∀ b o,s.heap.get? b=some o->b∉frs outer->b∉frs (envOfC qual scope s.heap.objs.size f cd :: outer):=fun b o e n z=>by
  rcases List.mem_cons.mp (show b∈s.heap.objs.size :: frs outer from z) with z | z
  . exact absurd (Xai e) (by rw[z];exact Xbl _)
  . exact n z
 obtain⟨t0,me,mt⟩:=M.there;refine wpAny_leaves_madeW (base:=W.hideAll s1.heap (frs (envOfC qual scope s.heap.objs.size f cd :: outer))) (h:=s1.heap) (outer:=outer) (L:=s.heap.objs.size) I.ok.frames rfl (fun b o z=>PySem.W.of_hideAll _ z)
  (Zb0 I.stack fun a ha=>Xbr _ ha) M fun h2 t fly tup tn up=>?_
 have keepT:∀ b u,H1 b=some u->b∉frs (envOfC qual scope s.heap.objs.size f cd :: outer):=fun b u e z=>by rw[hfr b z] at e;cases e
 have old:∀ b o,s.heap.get? b=some o->H b=none->b∉frs outer->(W.hideAll s1.heap (frs (envOfC qual scope s.heap.objs.size f cd :: outer))).get? b=some o:=fun b o e n nf=>
  hB (I.base.keep b o e n nf (fun z=>absurd (show b∈([]:List Addr) from z) (by simp))) (hnew b o e nf)
 have slot:∀ b o,s.heap.get? b=some o->b∈frs outer->∃ sl,h2.get? b=some { o with slots:=sl }:=fun b o e hb=>by
  have hn:H b=none:=I.ok.frf b hb;obtain⟨sl,e1⟩:=I.base.slot b o e hn hb (fun z=>absurd (show b∈([]:List Addr) from z) (by simp));obtain⟨_,o2,e2,d2⟩:=I.ok.funs.mem hb;have e2':s.heap.get? b=some o2:=e2;rw[e] at e2';cases e2';obtain⟨sl2,e3⟩:=up b _ (M.keeps _ _ e1) d2;exact⟨sl2,e3⟩
 have all:∀ b o,s.heap.get? b=some o->b∈frs outer\/∃ o',(W.hideAll s1.heap (frs (envOfC qual scope s.heap.objs.size f cd :: outer))).get? b=some o':=fun b o e=>by
  by_cases hb:b∈frs outer
  . exact .inl hb
  . obtain⟨o',e1⟩:=I.base.there b o e (fun z=>absurd (show b∈([]:List Addr) from z) (by simp));exact .inr ⟨o',hB e1 (hnew b o e hb)⟩
 refine⟨e,t,C,_,H1,rfl,⟨I.os,I.bare,fly,⟨fun b o e n nf _=>fly.1 _ _ (old b o e n nf),fun b o e n hb _=>slot b o e hb,I.base.free,fun b o e _=>?_,I.base.tups,I.base.frzs,I.base.tbls⟩,fun a u z=>?_,old,fun b u z=>⟨fun y=>keepT b u z (hsub b y),fun o zo=>?_⟩,all⟩,q⟩
 . rcases all b o e with hb | ⟨o',z⟩
   . obtain⟨sl,z⟩:=slot b o e hb;exact⟨_,z⟩
   . exact⟨o',fly.1 _ _ z⟩
 . refine(I.hok a u z).stay (fun b v hb hv=>fly.1 _ _ (hB hv ?_)) (fun _ y=>y) fun _ _ y=>y;rcases hb with rfl | hb
   . exact keepT _ _ z
   . exact keepT _ _ hb
 . obtain⟨o',e1⟩:=(I.hok b u z).there;have e2:=hB e1 (keepT b u z);have e3:=fly.1 _ _ e2;rw[zo] at e3;cases e3;exact e2
def Zx9 (C:Addr)(E:XK)(t:TA):TS:=fun D σ H=>t σ H fun vs H1=>vs.length<=sizeLine/\E (.ref C) none H1
section
variable {X:Cx}
theorem Zel {x:Str}{C:Addr}{E:XK}{e:Expr}{es:List Expr}{t:TA}{np af pos:Pos}(hx:Znj X E)(hr:X.A.handled=none)(xc:Zq0 X.K C)(hg:Gl X x)(hm:X.mg x=some (.ref C))(ha:PA X (e :: es) t)
 (hdb:NDa x:=by decide)(he:SEa X e es:=by rfl)(hpl:SPa X es af:=by rfl) :
 PS X (.Raise (some (.Call (.Name x np) (e :: es) [] af)) none pos) (Zx9 C E t):=by
 intro aa s σ H D I h;obtain⟨nm,q,N,bs,bm,bmB,hdct,sn,sub,ab,col,dd,k0,k1,k2,k3,k5,newId,B,nid,initId,Bn,inN,bmN,lk,qn,tl,has,F1,F2,F3,F4⟩:=xc.ex;obtain⟨mN,hN,hq⟩:=quietIn.ns I.ok.mod.kin qn;refine wpAny_Raise_call_subU (nm:=nm) (q:=q) (N:=N) (bs:=bs) (hdct:=hdct) (sn:=sn) (sub:=sub) (ab:=ab) (col:=col) (dd:=dd) (k0:=k0) (k1:=k1) (k2:=k2) (k3:=k3) (k5:=k5) F1 F2 F3 (mN:=mN) has hr ?_ (hq _ (by decide)) (Zcp I hg hm ⟨rfl,?_⟩ hdb)
 . rw[he];simpa [backTo] using hpl
 obtain⟨x0,hb⟩:∃ x0,backTo af (starEach (e :: es) X.env)=(false,x0) :: backTo af (starEach es X.env):=by rw[he];exact⟨_,rfl⟩
 rw[hb];refine Calls.evalArgs_plain ?_;rw[<- hb];refine thn (ha af aa s σ H _ I h) fun us s1 hz=>?_;obtain⟨vs,H1,I1,r,hl,q1⟩:=hz;have X1:=I1.kIn;exact⟨rfl,by show us.length<=_;rw[<- r.length];exact hl,X1 _ _ lk,hN.keeps I1.bk,(tailQ.ok X1 tl).tail,fun h' e' M=>hx aa σ H1 s1 h' e' C us I1 M q1⟩
end
section
variable {X:Cx}{aa:List (Addr×Obj)}{σ:St}{H H':Hp}{s s':Shared}{C ea t:Addr}{B h2:Heap}
theorem Inv.fly (I:Inv X aa σ H s)(F:Fly X.prog X.w X.stack H H' s C ea t B s')(f2:B.StaysIn h2)(up:s'.heap.UpToSlots h2):Inv X aa σ H' { s' with heap:=h2 }:=by
 have slot:∀ b o,s.heap.get? b=some o->H b=none->b∈frs X.stack->∃ sl,h2.get? b=some { o with slots:=sl }:=fun b o e hn hb=>by
  obtain⟨sl,e1⟩:=F.un.slot b o e hn hb (by simp);obtain⟨_,o2,e2,d2⟩:=I.stack.mem hb;rw[e] at e2;cases e2;obtain⟨sl2,e3⟩:=up b _ e1 d2;exact⟨sl2,e3⟩
 refine I.call' (s':={ s' with heap:=h2 }) (ch:=[]) F.os ⟨fun b o e n nf _=>f2 _ _ (F.old b o e n nf),fun b o e n hb _=>slot b o e n hb,F.un.free,fun b o e _=>?_,F.un.tups,F.un.frzs,F.un.tbls⟩ (fun a u z=>?_) F.bare (fun b z=>absurd z (by simp))
 . rcases F.all b o e with hb | ⟨o',z⟩
   . obtain⟨sl,z⟩:=slot b o e (I.stkFree b hb) hb;exact⟨_,z⟩
   . exact⟨o',f2 _ _ z⟩
 . refine(F.hok a u z).stay (fun b v hb hv=>f2 _ _ ?_) (fun _ y=>y) fun _ _ y=>y;rcases hb with rfl | hb
   . exact(F.trk _ _ z).2 _ hv
   . exact(F.trk _ _ hb).2 _ hv
end
abbrev XR:=St->Addr->Hp->Prop
def XQ (X:Cx)(aa:List (Addr×Obj))(R:XR)(e:Value)(s':Shared):Prop:=
 ∃ ea t C B H H' σ s,e = .ref ea/\Inv X aa σ H s/\Fly X.prog X.w X.stack H H' s C ea t B s'/\R σ C H'
abbrev TSx:=Zex->XR->St->Hp->Prop
def PSsx (X:Cx)(st:List Stmt)(t:TSx):Prop:=
 ∀ (aa:List (Addr×Obj)) (s:Shared) (σ:St) (H:Hp) (D:Zex) (R:XR),Inv X aa σ H s->t D R σ H->wpAny (model X.prog X.w) X.A (execs st X.env) (SP X aa D) (XQ X aa R) s
section
variable {X:Cx}{e:Expr}{es:List Expr}{st:Stmt}{rest:List Stmt}{pos:Pos}
def txIf (c:TT)(t u:TSx):TSx:=fun D R σ H=>c σ H fun b H1=>if b=true then t D R σ H1 else u D R σ H1
def FnX (P:Program)(w:World)(K:W.Frag)(mg:Str->Option Value)(base:Heap)(k:Nat)(x:Str)(ps:List Str)(sp:Sp):Prop:=
 ∃ f fd,mg x=some (.ref f)/\W.keepIn K (.ref f)=true/\Binds K fd ps []/\FnOk P w K mg base (CXB P w) k f fd ps sp/\∃ oc od sl,K.lookup f=some ⟨oc,od,.func fd,sl⟩
theorem FunAt.okX {x:Str}{st:Stmt}{N ps:List Str}{k:Nat}{sp:Sp}(F:FunAt K mg x st)(S:Zak N ps (Zad st))
 (hb:∀ (kV doc pm:Value)(an:Option Addr)(ad ct:Value)(us:List Value),us.length=ps.length->bindArgs (W.fnOf x x (Za3 st) (Zaq st) (Zad st) .none kV doc pm an ad ct) ⟨us,[]⟩=pure (ps.zip us))
 (len:∀ vs H Q E,sp vs H Q E->vs.length=ps.length)
 (ah:∀ (f:Addr)(ad:Value)(A:Around)(outer:List Env)(s:Shared)(H:Hp)(vs:List V)(Q:VK)(E:XK),Room k (A.deeper (envOfC x (Zad st) s.heap.objs.size f ad))->sp vs H Q E->
  ∃ t,PSs (Zc1 (CXB P w) P w K mg base N x (Zad st) f ad A outer s H E) (Zaq st) t/\t { nx:=fun _ H'=>Q .non H',rt:=Q } (Zce N vs) H):FnX P w K mg base (k+1) x ps sp:=by
 obtain⟨f,fd,h1,F⟩:=F;refine⟨f,fd,h1,F.kp,F.binds hb,?_,?_⟩
 . obtain⟨oc,od,kV,doc,pm,an,ad,ct,osl,rfl,lk,hcd⟩:=F.ex;exact Zhf lk hcd S len fun A outer s H vs Q E hr hsp=>ah f ad A outer s H vs Q E hr hsp
 . obtain⟨oc,od,kV,doc,pm,an,ad,ct,osl,rfl,lk,hcd⟩:=F.ex;exact⟨_,_,_,lk⟩
end
noncomputable abbrev Cx.hand (X:Cx) (e:Addr):Cx:={ X with A:=X.A.mark (some (.ref e)),calm:=false }
section
variable {X:Cx}{aa:List (Addr×Obj)}{σ:St}{H:Hp}{s:Shared}{ea:Addr}
theorem Cx.Ok.hand (ok:X.Ok)(e:Addr):(X.hand e).Ok:=
 ⟨ok.mod,ok.kind,ok.glob,ok.blt,ok.above,ok.inj,ok.has,ok.cab,(fun z=>by cases z),ok.frames,ok.stk,ok.exf,ok.bs,ok.bsz,ok.noex,ok.exfs,ok.funs,ok.frf⟩
theorem Inv.hand (I:Inv X aa σ H s)(e:Addr):Inv (X.hand e) aa σ H s:=⟨I.ok.hand e,I.os,I.bare,I.base,I.loc,I.cell,I.free,I.freeC,I.pin,I.hok,I.len⟩
theorem Inv.unhand (ok:X.Ok)(I:Inv (X.hand ea) aa σ H s):Inv X aa σ H s:=⟨ok,I.os,I.bare,I.base,I.loc,I.cell,I.free,I.freeC,I.pin,I.hok,I.len⟩
theorem Inv.track' {a:Addr}{o:Obj}(I:Inv X aa σ H s)(ho:s.heap.get? a=some o)(h0:H a=none)(h1:a≠X.env.locals)(h4:∀ x c,X.env.cells.lookup x=some c->c≠a)(h5:∀ p∈X.pn++aa,p.1≠a)(hs:X.s₀.heap.get? a=none) :
 Inv X aa σ (upd H a (.frz o (.own 0))) s:=by
 refine⟨I.ok,I.os,I.bare,⟨I.base.keep,I.base.slot,fun b ob e n hx=>?_,I.base.there,fun b xs e=>?_,fun b ob u e=>?_,fun b ps e=>?_⟩,I.loc,I.cell,?_,fun x c e=>?_,fun p hp=>?_,?_,I.len⟩
 . have z:b≠a:=fun z=>by rw[z,hs] at e;cases e
   rw[Zaf z];exact I.base.free b ob e n hx
 . have q:=I.base.tups b xs e;rw[Zaf (Zac q h0)];exact q
 . have q:=I.base.frzs b ob u e;rw[Zaf (Zac q h0)];exact q
 . obtain⟨more,q⟩:=I.base.tbls b ps e;exact⟨more,by rw[Zaf (Zac q h0)];exact q⟩
 . rw[Zaf (Ne.symm h1)];exact I.free
 . rcases I.freeC x c e with z | ⟨z1,ob,z⟩
   . left;rw[Zaf (h4 x c e)];exact z
   . right;exact⟨z1,ob,by rw[Zaf (h4 x c e)];exact z⟩
 . obtain⟨e,n,ne,nf,d⟩:=I.pin p hp;exact⟨e,by rw[Zaf (h5 p hp)];exact n,ne,nf,d⟩
 . exact I.hok.track ho h0
theorem Zcd {M:Model}{A:Around}{E:Value->Shared->Prop}{i:Nat}{n:Str}{pos:Pos}{Q:Unit->Shared->Prop}(I:Inv X aa σ H s)(hN:X.N.Nodup)(hi:X.N[i]? = some n)(hk:X.env.scope.names.lookup n=some .local)
 (h:∀ s',Inv X aa (σ.set i none) H s'->Q () s'):wpAny M A (do bindName X.env n Value.none;unbindBehindTheSuite X.env n pos) Q E s:=by
 have hcls:(X.env.scope.kind == .class || (X.env.scope.kind == .module && X.env.locals != X.env.globals))=false:=by rw[I.ok.kind];rfl
 refine Xaa ?_;unfold bindName;refine Xaa (Xbi (wpAny_point (Xaa (Zcy (v:=.non) I hN hi (.inl hk) rfl (fun s1 I1=>wpAny_point ?_) (.inr hk)))));unfold unbindBehindTheSuite;refine wpAny_onRaise ?_;have hiσ:i<σ.length:=by rw[I.len];exact(List.getElem?_eq_some_iff.mp hi).1
 obtain⟨m,hn,hl⟩:=id I1.loc;have hmn:∃ v,m n=some v:=by
  obtain⟨u,_,z⟩:=hl i n .non hi (by rw[List.getElem?_set_self hiσ]) (.inl hk);rcases z with⟨_,z⟩ | ⟨z,_⟩
  . exact⟨u,z⟩
  . rcases z with z | z <;> (rw[show X.env.kindOf n=some .local from hk] at z;cases z)
 obtain⟨v,hv⟩:=hmn;refine wpAny_unbindName_local hk hn hv hcls fun h' u hn' hs=>?_;have cne:=I1.cne;obtain⟨oL,_,_,hoL,_⟩:=id hn;refine h _ ⟨I1.ok,I1.os,I1.bare,⟨fun b o e n hb hx=>?_,fun b o e n hb hx=>?_,I1.base.free,fun b o e hx=>?_,I1.base.tups,I1.base.frzs,I1.base.tbls⟩,⟨_,hn',fun j y v' e1 e2 e3=>?_⟩,fun y c e=>?_,I1.free,I1.freeC,fun p hp=>?_,fun b ob e=>?_,by simpa using I.len⟩
 . exact(hs.2 b (Xaw (Xao (Xai e) I1.ok.above))).trans (I1.base.keep b o e n hb hx)
 . obtain⟨sl,e1⟩:=I1.base.slot b o e n hb hx;exact⟨sl,(hs.2 b (Xaw (Xao (Xai e) I1.ok.above))).trans e1⟩
 . obtain⟨o',e1⟩:=I1.base.there b o e hx;exact⟨o',(hs.2 b (Xaw (Xao (Xai e) I1.ok.above))).trans e1⟩
 . have hj:j≠i:=fun z=>by
    subst z;rw[List.getElem?_set_self hiσ] at e2;cases e2
   have e2':(σ.set i (some V.non))[j]? = some (some v'):=by
    rw[List.getElem?_set_ne (Ne.symm hj)] at e2 ⊢;exact e2
   obtain⟨u',r',q⟩:=hl j y v' e1 e2' e3;refine⟨u',r',?_⟩;rcases q with⟨k,e⟩ | ⟨k,c,e,z⟩
   . refine .inl ⟨k,?_⟩;have:y≠n:=fun e=>hj (Zhe hN e1 (e ▸ hi));simp[this,e]
   . exact .inr ⟨k,c,e,z.sameBut hs (cne y c e)⟩
 . obtain⟨w',z⟩:=I1.cell y c e;exact⟨w',z.sameBut hs (cne y c e)⟩
 . obtain⟨e,n,ne,nf,d⟩:=I1.pin p hp;exact⟨(hs.2 p.1 ne).trans e,n,ne,nf,d⟩
 . refine(I1.hok b ob e).stay (fun c w' hc q=>(hs.2 c ?_).trans q) (fun _ q=>q) fun _ _ q=>q;rintro rfl;rcases hc with rfl | hc
   . rw[I1.free] at e;cases e
   . rw[I1.free] at hc;cases hc
end
noncomputable def Zfc (i:Nat) (D:Zex):Zex:={ nx:=fun σ H=>D.nx (σ.set i none) H,rt:=D.rt,bk:=fun σ H=>D.bk (σ.set i none) H,ct:=fun σ H=>D.ct (σ.set i none) H }
def Zxy (K:W.Frag)(C:Addr)(i:Nat)(tb:TSx)(th:TS):TS:=fun D σ H=>tb D (fun σ' C' H'=>C'=C/\∀ ea oe,H' ea=none->Zpx K C oe->th (Zfc i D) (σ'.set i (some (.ref ea))) (upd H' ea (.frz oe (.own 0)))) σ H
theorem UpToSlots.trans {a b c:Heap}(x:a.UpToSlots b)(y:b.UpToSlots c):a.UpToSlots c:=fun p o e d=>by
 obtain⟨sl,e1⟩:=x p o e d;obtain⟨sl2,e2⟩:=y p _ e1 d;exact⟨sl2,e2⟩
section
variable {X:Cx}
theorem Zuz {aa:List (Addr×Obj)}{σ0:St}{H0 H':Hp}{s0 s1:Shared}{C ea t:Addr}{B:Heap}{x:Str}{np hpos:Pos}{rest:List ExceptHandler}{name:Option Str}{suite:List Stmt}{Q:Flow->Shared->Prop}
 (hex:X.ex=[])(hst:X.stack=X.env :: X.outer/\X.env.frame=some X.env.locals)(xc:Zq0 X.K C)(hg:Gl X x)(hm:X.mg x=some (.ref C))(hdb:(x == ("__debug__" : Str))=false)
 (I0:Inv X aa σ0 H0 s0)(F:Fly X.prog X.w X.stack H0 H' s0 C ea t B s1)
 (h:∀ (s3:Shared),(∀ {Q':Unit->Shared->Prop}{E':Value->Shared->Prop},(∀ s4 oe,Inv X aa σ0 H' s4->Inv X aa σ0 (upd H' ea (.frz oe (.own 0))) s4->H' ea=none->Zpx X.K C oe->Q' () s4)->wpAny (model X.prog X.w) (X.A.mark (some (.ref ea))) (setFlight (.ref ea) none) Q' E' s3)->
  codeAny (model X.prog X.w) (X.A.mark (some (.ref ea))) (.handlers (.ref ea) [.ExceptHandler none name suite hpos] X.env) (fun r s₂=>match r with
   | .ok f=>match name with
    | none=>Q f s₂
    | some n=>wpAny (model X.prog X.w) X.A (do bindName X.env n Value.none;unbindBehindTheSuite X.env n hpos) (fun _ s₃=>Q f s₃) X.xe s₂
   | .error x=>cameBackBy (model X.prog X.w) X.A X.env X.xe x s₂) s3) :
 wpAny (model X.prog X.w) X.A (noteFrame (.ref ea) X.env) (fun _ s₂=>wpAny (model X.prog X.w) X.A (setFlight (.ref ea) none) (fun _ s₃=>wpAny (model X.prog X.w) X.A (handleBy (.ref ea) X.env (.ExceptHandler (some (.Name x np)) name suite hpos :: rest)) Q X.xe s₃) X.xe s₂) X.xe s1:=by
 have hfl:B.FlyingW (X.env :: X.outer) ea (.ref C) (.ref t) s1.heap:=by rw[<- hst.1];exact F.fly
 refine wpAny_looks_onW (base:=B) (env:=X.env) (outer:=X.outer) (by rw[I0.ok.frames,hst.1]) hst.2 hfl fun h2 held up=>?_;refine wpAny_landsW (s:={ s1 with heap:=h2 }) held fun h3 fly3 up3=>?_;have up13:s1.heap.UpToSlots h3:=UpToSlots.trans up up3;have I3:Inv X aa σ0 H' { s1 with heap:=h3 }:=I0.fly F fly3.1 up13;obtain⟨st3,hne,ff3,tr3⟩:=id fly3;obtain⟨oe,vs,T,oT,ts,he,⟨hc,h0⟩,hd,_⟩:=id tr3;obtain⟨nm,q,N,bs,bm,bmB,hdct,sn,sub,ab,col,dd,k0,k1,k2,k3,k5,newId,B',nid,initId,Bn,inN,bmN,lk,qn,tl,has,F1,F2,F3,F4⟩:=xc.ex;refine wpAny_handleBy_cons (codeAny_handlers_test ?_) (by nofun);refine Zcp (X:=X.hand ea) (I3.hand ea) hg hm ?_ hdb;refine wpAny_excMatches_sub_self (I3.kIn _ _ lk) he hc has ?_;refine h { s1 with heap:=h3 } fun {Q' E'} k=>?_;refine wpAny_setFlight_noneW (s:={ s1 with heap:=h3 }) (base:=B) (l:=X.env :: X.outer) (fl:=.none) st3 ff3 tr3 fun h4 st4 ff4 tr4 k4=>?_;have up34:h3.UpToSlots h4:=fun b o e d=>⟨o.slots,k4 b o e d⟩
 have I4:Inv X aa σ0 H' { s1 with heap:=h4 }:=I0.fly F st4 (UpToSlots.trans up13 up34);obtain⟨oe4,vs4,T4,oT4,ts4,he4,⟨hc4,h04⟩,hd4,_⟩:=id tr4;have n0:H' ea=none:=by
  cases z:H' ea with
  | none=>rfl
  | some u=>
   obtain⟨_,y⟩:=F.trk ea u z;obtain⟨_,_,_,tr⟩:=F.fly;obtain⟨o1,_,_,_,_,e1,_⟩:=tr;have:=y _ e1;rw[F.fly.2.1] at this;cases this
 have nst:ea∉frs X.stack:=fun z=>by
  obtain⟨_,o,e,d⟩:=I4.stack.mem z;have e':h4.get? ea=some o:=e;rw[he4] at e';cases e';exact d _ hd4
 have nall:s0.heap.get? ea=none:=by
  cases z:s0.heap.get? ea with
  | none=>rfl
  | some o=>
   rcases F.all ea o z with y | ⟨o',y⟩
   . exact absurd y nst
   . rw[F.fly.2.1] at y;cases y
 refine k _ oe4 I4 (I4.track' he4 n0 (fun z=>?_) (fun y c e z=>?_) (fun p hp z=>?_) ?_) n0 ⟨xc,hc4⟩
 . obtain⟨m,⟨o,es,ep,e,d,_⟩,_⟩:=I4.loc;have e':h4.get? X.env.locals=some o:=e;rw[<- z,he4] at e';cases e';rw[hd4] at d;cases d
 . obtain⟨v,o,e',d⟩:=I4.cell y c e;have e':h4.get? c=some o:=e';rw[z,he4] at e';cases e';rw[hd4] at d;cases d
 . obtain⟨e,_⟩:=I0.pin p hp;rw[z,nall] at e;cases e
 . cases z:X.s₀.heap.get? ea with
   | none=>rfl
   | some o=>
    obtain⟨o',e⟩:=I0.base.there ea o z (by rw[hex];simp);rw[nall] at e;cases e
theorem Zqe {x n:Str}{C:Addr}{i:Nat}{body suite:List Stmt}{b₀:Stmt}{tb:TSx}{th:TS}{np hpos pos:Pos}(hex:X.ex=[])(hst:X.stack=X.env :: X.outer/\X.env.frame=some X.env.locals)(hN:X.N.Nodup)(hi:X.N[i]? = some n)(hk:X.env.scope.names.lookup n=some .local)
 (xc:Zq0 X.K C)(hg:Gl X x)(hm:X.mg x=some (.ref C))(hb:PSsx X body tb)(hh:∀ e,PSs (X.hand e).nox (b₀ :: suite) th)(hdb:NDa x:=by decide) :
 PS X (.Try body [.ExceptHandler (some (.Name x np)) (some n) (b₀ :: suite) hpos] [] [] pos) (Zxy X.K C i tb th):=by
 intro aa s σ H D I h;refine wpAny_Try_except (Xaq (hb aa s σ H D _ I h) (fun f s1 q=>?_) fun e s1 q=>?_)
 . cases f with
   | next=>exact Xb6 q
   | brk=>exact q
   | cont=>exact q
   | ret u=>exact q
 . obtain⟨ea,t,C',B,H0,H',σ',s0,rfl,I0,F,rfl,q⟩:=q;refine Zuz hex hst xc hg hm hdb I0 F fun s3 k=>codeAny_handlers_suite_as (k fun s4 oe I4 I5 n0 ix=>?_);refine Zcy (X:=X.hand ea) (I5.hand ea) hN hi (.inl hk) (v:=.ref ea) rfl (fun s6 I6=>?_) (.inr hk);refine Xaq (hh ea aa s6 _ _ (Zfc i D) (I6.wish _) (q ea oe n0 ix)) (fun f s7 q7=>?_) fun _ _ z=>z.elim;cases f with
   | next=>obtain⟨σ7,H7,I7,q⟩:=q7;exact Zcd (I7.unwish.unhand I0.ok) hN hi hk fun s8 I8=>⟨_,_,I8,q⟩
   | brk=>obtain⟨σ7,H7,I7,q⟩:=q7;exact Zcd (I7.unwish.unhand I0.ok) hN hi hk fun s8 I8=>⟨_,_,I8,q⟩
   | cont=>obtain⟨σ7,H7,I7,q⟩:=q7;exact Zcd (I7.unwish.unhand I0.ok) hN hi hk fun s8 I8=>⟨_,_,I8,q⟩
   | ret u=>obtain⟨v,σ7,H7,I7,r,q⟩:=q7;exact Zcd (I7.unwish.unhand I0.ok) hN hi hk fun s8 I8=>⟨v,_,_,I8,r,q⟩
end
noncomputable def Zqx (x:Str) (n:Int):Str:=if n<1 then Str.empty else if (n == 1 || x.length == 0)=true then x else { cps:=List.foldl (fun x1 x2=>x1++x2) #[] (List.replicate n.toNat x.cps) }
theorem Zlb (c:Array Nat):∀ (k:Nat)(a:Array Nat),(List.foldl (fun x1 x2=>x1++x2) a (List.replicate k c)).size=a.size+k * c.size
 | 0,a=>by simp
 | k+1,a=>by
  rw[List.replicate_succ,List.foldl_cons,Zlb c k (a++c),Array.size_append,Nat.succ_mul];omega
section
variable {X:Cx}
theorem Zoo:OpR X (binaryOp .Mult) (fun x y H Q=>∃ z n,x = .str z/\y = .int n/\0<=n/\n<=1000/\z.length<=1000/\Q (.str (Zqx z n)) H):=by
 intro aa s σ H x y v u Q I rx ry h;obtain⟨z,n,rfl,rfl,n0,n1,zl,q⟩:=h;obtain⟨t,rfl⟩:=rx;obtain⟨t2,rfl⟩:=ry;refine PySem.P.mul_str (by simp;omega) (fun a b=>?_) (fun a b=>?_) ?_
 . have:(1000:Int)<=(2 ^ 63 - 1) / n:=(Int.le_ediv_iff_mul_le om).mpr om;omega
 . unfold Builtin.Str.tooLong;have:z.length * n.toNat<=1000 * 1000:=Nat.mul_le_mul om om;have e:sizeLine=16777216:=by decide
   simp;omega
 . unfold Zqx at q;by_cases h1:n<1
   . rw[if_pos h1] at q ⊢;exact⟨by decide,.str _,H,I.tok _,⟨_,rfl⟩,q⟩
   . rw[if_neg h1] at q ⊢;by_cases h2:(n == 1 || z.length == 0)=true
     . rw[if_pos h2] at q ⊢;exact⟨.str _,H,I,⟨_,rfl⟩,q⟩
     . rw[if_neg h2] at q ⊢;refine⟨?_,.str _,H,I.tok _,⟨_,rfl⟩,q⟩;show(List.foldl (fun x1 x2=>x1++x2) #[] (List.replicate n.toNat z.cps)).size<=sizeLine;rw[Zlb];have:n.toNat * z.cps.size<=1000 * 1000:=Nat.mul_le_mul om zl;have e:sizeLine=16777216:=by decide
       simp;omega
def rEqL2 (K:W.Frag)(un:Nat)(b:Bool):R2:=fun x y H Q=>∃ p q xs ys,x = .ref p/\y = .ref q/\SqL K H p xs/\SqL K H q ys/\un+1<cLine/\
 ((xs.length≠ys.length/\Q (.bl !b) H)\/∃ n,xs.length=ys.length/\(∀ (i:Nat) u v,xs[i]? = some u->ys[i]? = some v->EqV H n u v)/\un+n+1<cLine/\Q (.bl b) H)
theorem Zuk:OpR X (compareOp .Eq) (rEqL2 X.K X.A.units true):=by
 intro aa s σ H x y v u Q I rx ry h;obtain⟨a,b,xs,ys,rfl,rfl,ha,hb,hu0,h⟩:=h;rcases h with⟨hne,q⟩ | ⟨n,hl,hi,hu,q⟩
 . obtain rfl:v=Value.ref a:=rx;obtain rfl:u=Value.ref b:=ry;obtain⟨its,r,pa,za⟩:=I.list ha;obtain⟨its2,r2,pb,zb⟩:=I.list hb;have h1:=r.length;have h2:=r2.length
   have q2:=SeqAt.RcAt.lists_lengths (A:=X.A) (s:=s) pa.isList pb.isList (by simp;omega) om;exact q2 X.prog X.w X.xe _ ⟨.bl false,H,I,rfl,q⟩
 . exact Zt4 aa s σ H _ _ v u Q I rx ry ⟨a,b,xs,ys,n,rfl,rfl,ha,hb,hl,hi,hu,q⟩
end
noncomputable abbrev Zqa:List Value:=[Value.type "ValueError",Value.type "Exception",Value.type "BaseException",Value.type "object"]
structure QuietAt (K:W.Frag)(N:Addr):Prop where
 ok:PySem.W.nsOkIn K N=true
 a:W.nsIn K N "__init__" = some none
 b:W.nsIn K N "__getattribute__" = some none
 c:W.nsIn K N "__getattr__" = some none
 d:W.nsIn K N "args" = some none
theorem QuietAt.q {K:W.Frag}{N:Addr}(x:QuietAt K N):quietIn K N=true:=by
 unfold quietIn quietNames;rw[x.ok];simp only[List.all_cons,List.all_nil,Bool.and_true,Bool.true_and];rw[x.a,x.b,x.c,x.d];simp
theorem Zjn {K:W.Frag}{N:Addr}{c:Value}{d:Option Addr}{es:Array DictEntry}{ep:Nat}{sl:Array (Option Value)}(l:K.lookup N=some ⟨c,d,.dict es ep,sl⟩)(h:(es.toList.all fun e=>match e.key with | .str _ _=>true | _=>false)=true):PySem.W.nsOkIn K N=true:=by
 unfold PySem.W.nsOkIn;rw[l];show(es.all fun e=>match e.key with | .str _ _=>true | _=>false)=true;rw[<- Array.all_toList];exact h
theorem Zpt {K:W.Frag}{B:Addr}{c:Value}{d:Option Addr}{cd:ClassData}{sl:Array (Option Value)}(l:K.lookup B=some ⟨c,d,.cls cd,sl⟩)(q:QuietAt K cd.ns):tailQ K Zqa (.ref B :: Zqa)=true:=by
 unfold tailQ;rw[Bool.or_eq_true_iff]
 right
 show(match List.lookup B K with | some ⟨_,_,.cls cd,_⟩=>quietIn K cd.ns && tailQ K Zqa Zqa | _=>false)=true;rw[show List.lookup B K=_ from l];show(quietIn K cd.ns && tailQ K Zqa Zqa)=true;rw[q.q];rfl
theorem Zp7 {K:W.Frag}{c C:Addr}{b:Bool}{d:Option Addr}{cd:ClassData}{sl:Array (Option Value)}(ne:c≠C)(l:K.lookup C=some ⟨.type "type",d,.cls cd,sl⟩)(m:PySem.W.mroIn K c (.ref C)=some b):W.kitOne K (.ref c) (.ref C)=some b:=by
 unfold W.kitOne;rw[if_neg (by simpa using ne)];have e1:PySem.W.clsIn K C=some cd:=by unfold PySem.W.clsIn;rw[show List.lookup C K=_ from l]
 have e2:PySem.W.typeIn K (.ref C)=some (.type "type"):=by show Option.map (fun x=>x.cls) (List.lookup C K)=_;rw[show List.lookup C K=_ from l];rfl
 show(if ((PySem.W.clsIn K C).isSome && PySem.W.typeIn K (.ref C) == some (.type "type"))=true then PySem.W.mroIn K c (.ref C) else none)=_;rw[e1,e2];rw[if_pos (by simp)];exact m
theorem Zyo {K:W.Frag}{c:Addr}{T:String}{b:Bool}(hm:PySem.W.kitMeta T=true)(m:PySem.W.mroIn K c (.type T)=some b):W.kitOne K (.ref c) (.type T)=some b:=by
 unfold W.kitOne;rw[if_neg (by simp)];show(if PySem.W.kitMeta T=true then PySem.W.mroIn K c (.type T) else none)=_;rw[if_pos hm];exact m
theorem Zmx:PySem.W.kitMeta "ValueError" = true:=by kernel_rfl
section
variable {α β:Type}{f:Nat->Nat->Bool}{n:Nat}
def wpT (f:Nat->Nat->Bool)(n:Nat):W.KasT α->(α->Prop)->Prop
 | .ret a,C=>C a
 | .ask i j k,C=>i<n/\j<n/\i≠j/\wpT f n (k (f i j)) C
theorem Zci {C D:α->Prop}(h:∀ a,C a->D a):∀ {T:W.KasT α},wpT f n T C->wpT f n T D
 | .ret a,q=>h a q
 | .ask i j k,q=>⟨q.1,q.2.1,q.2.2.1,Zci h q.2.2.2⟩
theorem Zdw {g:α->W.KasT β}{C:β->Prop}:∀ {T:W.KasT α},wpT f n T (fun a=>wpT f n (g a) C)->wpT f n (T.bind g) C
 | .ret a,q=>q
 | .ask i j k,q=>⟨q.1,q.2.1,q.2.2.1,Zdw q.2.2.2⟩
theorem Zll {cmp:Nat->Nat->(Bool->Shared->Prop)->Shared->Prop}{s:Shared}{D:α->Shared->Prop}(h:∀ i j (C:Bool->Shared->Prop),i<n->j<n->i≠j->C (f i j) s->cmp i j C s) :
 ∀ {T:W.KasT α},wpT f n T (fun a=>D a s)->W.KasT.kasWp cmp T D s
 | .ret a,q=>q
 | .ask i j k,q=>h i j _ q.1 q.2.1 q.2.2.1 (Zll h q.2.2.2)
end
noncomputable abbrev gd (p:Array Nat) (x:Nat):Nat:=p.getD x 0
theorem Zqn {p:Array Nat}{x v:Nat}(h:p[x]? = some v):gd p x=v:=by unfold gd;rw[Array.getD_eq_getD_getElem?,h];rfl
theorem Zpb {p q:Array Nat}{x y:Nat}(h:p[x]? = q[y]?):gd p x=gd q y:=by unfold gd;rw[Array.getD_eq_getD_getElem?,Array.getD_eq_getD_getElem?,h]
structure Gd (n:Nat)(p:Array Nat):Prop where
 sz:p.size=n
 pm:p.Perm (List.range n).toArray
theorem Gd.lt {n x:Nat}{p:Array Nat}(g:Gd n p)(h:x<n):gd p x<n:=by
 have hx:x<p.size:=by rw[g.sz];exact h
 have e:p[x]? = some p[x]:=Xb0 hx;rw[Zqn e];have m:p[x]∈(List.range n).toArray:=(g.pm.mem_iff).mp (Array.getElem_mem hx);simpa using m
theorem Gd.ne {n x y:Nat}{p:Array Nat}(g:Gd n p)(hx:x<n)(hy:y<n)(h:x≠y):gd p x≠gd p y:=by
 have hx':x<p.toList.length:=by rw[Xbu,g.sz];exact hx
 have hy':y<p.toList.length:=by rw[Xbu,g.sz];exact hy
 have nd:p.toList.Nodup:=(g.pm.toList.nodup_iff).mpr (by simpa using List.nodup_range);have e1:gd p x=p.toList[x]:=Zqn (by rw[Xb0 (by rw[g.sz];exact hx)];simp);have e2:gd p y=p.toList[y]:=Zqn (by rw[Xb0 (by rw[g.sz];exact hy)];simp);rw[e1,e2];intro e;exact h ((List.getElem_inj nd).mp e)
section
variable {key:Nat->Int}{n:Nat}
def Asc (key:Nat->Int)(p:Array Nat)(m:Nat):Prop:=∀ i j,i<j->j<m->key (gd p i)<key (gd p j)
def Dsc (key:Nat->Int)(p:Array Nat)(m:Nat):Prop:=∀ i j,i<j->j<m->key (gd p j)<key (gd p i)
noncomputable abbrev fK (key:Nat->Int):Nat->Nat->Bool:=fun i j=>decide (key i<key j)
def Inj (key:Nat->Int)(n:Nat):Prop:=∀ i j,i<n->j<n->key i=key j->i=j
theorem Zp3 (inj:Inj key n){p:Array Nat}(g:Gd n p):∀ (fuel m:Nat),1<=m->m+fuel<=n->Asc key p m->
 wpT (fK key) n (W.kas_asc p fuel m) fun r=>m<=r/\r<=m+fuel/\Asc key p r/\(r<m+fuel->key (gd p r)<key (gd p (r - 1)))
 | 0,m,h1,h2,a=>by rw[W.kas_asc.eq_1];exact⟨Xae _,Xae _,a,fun z=>absurd z (Xbl _)⟩
 | fuel+1,m,h1,h2,a=>by
  rw[W.kas_asc.eq_2];have ne:=g.ne (x:=m) (y:=m - 1) om om om;refine⟨g.lt om,g.lt om,ne,?_⟩;by_cases c:key (gd p m)<key (gd p (m - 1))
  . rw[show fK key (p.getD m 0) (p.getD (m - 1) 0)=true from Xah c];dsimp only;rw[if_pos rfl];exact⟨Xae _,om,a,fun _=>c⟩
  . rw[show fK key (p.getD m 0) (p.getD (m - 1) 0)=false from Xag c];dsimp only;rw[if_neg Xap];have hne:key (gd p m)≠key (gd p (m - 1)):=fun e=>ne (inj _ _ (g.lt om) (g.lt om) e);have a':Asc key p (m+1):=fun i j hij hj=>by
     by_cases hjm:j<m
     . exact a i j hij hjm
     . have e:j=m:=by omega
       subst e;by_cases hi:i=j - 1
       . subst hi;omega
       . have:=a i (j - 1) om om;omega
    refine Zci (fun r q=>⟨om,om,q.2.2.1,fun z=>q.2.2.2 om⟩) (Zp3 inj g fuel (m+1) om om a')
theorem Zpq (inj:Inj key n){p:Array Nat}(g:Gd n p):∀ (fuel m:Nat),1<=m->m+fuel<=n->Dsc key p m->
 wpT (fK key) n (W.kas_desc fuel p m 0) fun r=>r.1=p/\r.2.2=0/\m<=r.2.1/\r.2.1<=m+fuel/\Dsc key p r.2.1
 | 0,m,h1,h2,a=>by rw[W.kas_desc.eq_1];exact⟨rfl,rfl,Xae _,Xae _,a⟩
 | fuel+1,m,h1,h2,a=>by
  rw[W.kas_desc.eq_2];have ne:=g.ne (x:=m) (y:=m - 1) om om om;refine⟨g.lt om,g.lt om,ne,?_⟩;by_cases c:key (gd p m)<key (gd p (m - 1))
  . rw[show fK key (p.getD m 0) (p.getD (m - 1) 0)=true from Xah c];dsimp only;rw[if_pos rfl,if_neg om];have a':Dsc key p (m+1):=fun i j hij hj=>by
     by_cases hjm:j<m
     . exact a i j hij hjm
     . have e:j=m:=by omega
       subst e;by_cases hi:i=j - 1
       . subst hi;exact c
       . have:=a i (j - 1) om om;omega
    exact Zci (fun r q=>⟨q.1,q.2.1,om,om,q.2.2.2.2⟩) (Zpq inj g fuel (m+1) om om a')
  . rw[show fK key (p.getD m 0) (p.getD (m - 1) 0)=false from Xag c];dsimp only;rw[if_neg Xap];have hne:key (gd p m)≠key (gd p (m - 1)):=fun e=>ne (inj _ _ (g.lt om) (g.lt om) e);refine⟨g.lt om,g.lt om,Ne.symm ne,?_⟩;rw[show fK key (p.getD (m - 1) 0) (p.getD m 0)=true from Xah (by show key (gd p (m - 1))<key (gd p m);omega)];dsimp only;rw[if_pos rfl];exact⟨rfl,rfl,Xae _,by show m<=m+(fuel+1);omega,a⟩
theorem Zr6 (inj:Inj key n){p:Array Nat}(g:Gd n p)(h2:2<=n):wpT (fK key) n (W.kas_count n p) fun r=>Gd n r.2/\1<=r.1/\r.1<=n/\Asc key r.2 r.1:=by
 unfold W.kas_count;refine Zdw (Zci (fun r q=>?_) (Zp3 inj g (n - 1) 1 (Xae _) om (fun i j _ _=>by omega)));obtain⟨q1,q2,q3,q4⟩:=q;by_cases e:r=n
 . rw[if_pos (by simpa using e)];exact⟨g,q1,om,q3⟩
 rw[if_neg (by simpa using e)];by_cases e1:r > 1
 . rw[if_pos e1];refine⟨g.lt om,g.lt om,g.ne om om om,?_⟩;rw[show fK key (p.getD 0 0) (p.getD (r - 1) 0)=true from Xah (q3 0 (r - 1) om om)];dsimp only;rw[if_pos rfl];exact⟨g,q1,om,q3⟩
 rw[if_neg e1];have er:r=1:=by omega
 subst er;have q4:=q4 om;unfold W.kas_descPart;refine Zdw (Zci (fun r q=>?_) (Zpq inj g (n - (1+1)) (1+1) om om (fun i j hij hj=>by
  have:i=0:=by omega
  have:j=1:=by omega
  subst i j;exact q4)))
 obtain⟨d1,d2,d3,d4,d5⟩:=q;rw[d1,d2,if_neg om];unfold W.kas_tail3;have gm:∀ k,gd (W.kas_rev p 0 r.2.1) k=if k<r.2.1 then gd p (r.2.1 - 1 - k) else gd p k:=fun k=>by
  have z:=getElem?_mirror_all (xs:=p) (i:=0) (j:=r.2.1) (by rw[g.sz];omega) k;unfold W.kas_rev;by_cases hk:k<r.2.1
  . rw[if_pos hk];rw[if_pos ⟨Nat.zero_le _,hk⟩] at z;exact Zpb (by rw[z];congr 1;omega)
  . rw[if_neg hk];rw[if_neg (fun y=>hk y.2)] at z;exact Zpb z
 have g':Gd n (W.kas_rev p 0 r.2.1):=⟨by unfold W.kas_rev;rw[mirror_size,g.sz],by unfold W.kas_rev;exact(mirror_perm _ _ _ _).trans g.pm⟩
 have a':Asc key (W.kas_rev p 0 r.2.1) r.2.1:=fun i j hij hj=>by
  rw[gm,gm,if_pos om,if_pos hj];exact d5 _ _ om om
 refine Zdw (Zci (fun m q=>?_) (Zp3 inj g' (n - r.2.1) r.2.1 om om a'));exact⟨g',om,om,q.2.2.1⟩
theorem Zhd (inj:Inj key n){p:Array Nat}(g:Gd n p){k:Nat}(hk:k<n)(a:Asc key p k):∀ (fuel lo hi:Nat),hi - lo<=fuel->lo<=hi->hi<=k->(∀ i,i<lo->key (gd p i)<key (gd p k))->(∀ i,hi<=i->i<k->key (gd p k)<key (gd p i))->
 wpT (fK key) n (W.kas_place p k fuel lo hi) fun l=>l<=k/\(∀ i,i<l->key (gd p i)<key (gd p k))/\∀ i,l<=i->i<k->key (gd p k)<key (gd p i)
 | 0,lo,hi,h1,h2,h3,h4,h5=>by
  rw[W.kas_place.eq_1];have e:hi=lo:=by omega
  subst e;exact⟨h3,h4,h5⟩
 | fuel+1,lo,hi,h1,h2,h3,h4,h5=>by
  rw[W.kas_place.eq_2];by_cases e:lo>=hi
  . rw[if_pos e];have e:hi=lo:=by omega
    subst e;exact⟨h3,h4,h5⟩
  rw[if_neg e];have ne:=g.ne (x:=k) (y:=(lo+hi) / 2) hk om om;refine⟨g.lt hk,g.lt om,ne,?_⟩;by_cases c:key (gd p k)<key (gd p ((lo+hi) / 2))
  . rw[show fK key (p.getD k 0) (p.getD ((lo+hi) / 2) 0)=true from Xah c];dsimp only;rw[if_pos rfl];refine Zhd inj g hk a fuel lo ((lo+hi) / 2) om om om h4 fun i hi1 hi2=>?_;by_cases z:i=(lo+hi) / 2
    . rw[z];exact c
    . have:=a ((lo+hi) / 2) i om hi2;omega
  . rw[show fK key (p.getD k 0) (p.getD ((lo+hi) / 2) 0)=false from Xag c];dsimp only;rw[if_neg Xap];have hne:key (gd p k)≠key (gd p ((lo+hi) / 2)):=fun e=>ne (inj _ _ (g.lt hk) (g.lt om) e);refine Zhd inj g hk a fuel ((lo+hi) / 2+1) hi om om h3 (fun i hi1=>?_) h5;by_cases z:i=(lo+hi) / 2
    . rw[z];omega
    . have:=a i ((lo+hi) / 2) om om;omega
theorem Ztl (inj:Inj key n):∀ (fuel k:Nat)(p:Array Nat),Gd n p->k+fuel=n->Asc key p k->wpT (fK key) n (W.kas_bin fuel p k) fun p'=>Gd n p'/\Asc key p' n
 | 0,k,p,g,h,a=>by
  rw[W.kas_bin.eq_1];have e:k=n:=by omega
  rw[<- e];exact⟨by rw[e];exact g,a⟩
 | fuel+1,k,p,g,h,a=>by
  rw[W.kas_bin.eq_2];refine Zdw (Zci (fun l q=>?_) (Zhd inj g (k:=k) om a k 0 k om om (Xae _) (fun i z=>absurd z (Nat.not_lt_zero _)) (fun i z1 z2=>absurd z2 om)));obtain⟨q1,q2,q3⟩:=q;have gm:∀ j,gd (bubble p k (k - l)) j=if j=l then gd p k else if l<j/\j<=k then gd p (j - 1) else gd p j:=fun j=>by
   have z:=getElem?_bubble (xs:=p) (src:=k) (by rw[g.sz];omega) (k - l) om j;rw[show k - (k - l)=l by omega] at z;by_cases c1:j=l
   . rw[if_pos c1] at z ⊢;exact Zpb z
   . rw[if_neg c1] at z ⊢;by_cases c2:l<j/\j<=k
     . rw[if_pos c2] at z ⊢;exact Zpb z
     . rw[if_neg c2] at z ⊢;exact Zpb z
  refine Ztl inj fuel (k+1) _ ⟨by rw[bubble_size,g.sz],(bubble_perm _ _ _).trans g.pm⟩ om fun i j hij hj=>?_;rw[gm,gm];by_cases c1:i=l
  . rw[if_pos c1,if_neg om,if_pos om];exact q3 _ om om
  . rw[if_neg c1];by_cases c2:j=l
    . rw[if_pos c2,if_neg om];exact q2 i om
    . rw[if_neg c2];by_cases c3:l<i/\i<=k
      . rw[if_pos c3,if_pos om];exact a _ _ om om
      . rw[if_neg c3];by_cases c4:l<j/\j<=k
        . rw[if_pos c4];exact a _ _ om om
        . rw[if_neg c4];exact a _ _ hij om
theorem Zu8 (inj:Inj key n)(h2:2<=n):wpT (fK key) n (W.kas_sort n) fun p=>Gd n p/\Asc key p n:=by
 unfold W.kas_sort;have g0:Gd n (List.range n).toArray:=⟨by simp,.refl _⟩
 refine Zdw (Zci (fun r q=>?_) (Zr6 inj g0 h2));obtain⟨q1,q2,q3,q4⟩:=q;by_cases c:r.1<n
 . rw[if_pos c,show max r.1 1=r.1 by omega];exact Ztl inj _ _ _ q1 om q4
 . rw[if_neg c];have e:r.1=n:=by omega
   rw[e] at q4;exact⟨q1,q4⟩
end
theorem Zov {prog:Program}{w:World}{A:Around}{E:Value->Shared->Prop}{s:Shared}{a:Addr}{vs:List Value}{n:Nat}{key:Nat->Int}{P:PySem.Fin->Shared->Prop}
 (ha:s.heap.get? a=some (seqObj "list" vs.toArray n))(hl:vs.length<64)(inj:Inj key vs.length)
 (hk:∀ h':Heap,(∀ b o,b≠a->s.heap.get? b=some o->h'.get? b=some o)->2<=vs.length->∃ κ,(∀ {Q:SortKind->Shared->Prop}{E:Value->Shared->Prop},Q κ { s with heap:=h' }->wpAny (model prog w) A (keyKind' vs.toArray) Q E { s with heap:=h' })/\
  ∀ i j (C:Bool->Shared->Prop),i<vs.length->j<vs.length->i≠j->C (fK key i j) { s with heap:=h' }->W.kas_ask prog w A κ vs i j C { s with heap:=h' })
 (h:∀ (h':Heap)(p:Array Nat)(k:Nat),Gd vs.length p->Asc key p vs.length->(∀ b o,b≠a->s.heap.get? b=some o->h'.get? b=some o)->h'.get? a=some (seqObj "list" (p.toList.map fun i=>vs.getD i .none).toArray k)->P (.done (.ret .none)) { s with heap:=h' }) :
 wpAny (model prog w) A (Builtin.«list.sort» { pos:=[.ref a] }) P E s:=by
 unfold Builtin.«list.sort»;dsimp only;rw[if_neg (by simp),if_neg (by simp)];refine Xaa ?_;rw[List.forIn_nil];refine Xak ?_;refine Xaa (Xak ?_);refine Xaa (listItems_at ha rfl ?_);refine Xaa (listUpdate_at ha rfl ?_ (by simp;have:sizeLine=16777216:=(by decide);omega) (by simp));obtain⟨k1,gs⟩:∃ k1,(s.heap.update a (Obj.mapSeq fun _=>#[])).get? a=some (seqObj "list" #[] k1):=⟨_,Xa9 _ ha rfl⟩
 have kp1:∀ b o,b≠a->s.heap.get? b=some o->(s.heap.update a (Obj.mapSeq fun _=>#[])).get? b=some o:=fun b o n e=>by rw[Heap.get?_update_ne _ _ _ _ n];exact e
 generalize s.heap.update a (Obj.mapSeq fun _=>#[])=h1 at gs kp1 ⊢;have hsz:sizeLine=16777216:=by decide
 refine Xaa (seqEpoch_at gs rfl ?_);refine Xaa (wpAny_newTuple ?_ (by simp;omega));refine Xaa (wpAny_newList ?_ (by simp));refine Xbi ?_;have kp3:∀ b o,b≠a->s.heap.get? b=some o->((h1.push { cls:=.type "tuple",data:=.seq vs.toArray.toList.toArray }).push { cls:=.type "list",data:=.seq ([]:List Value).toArray }).get? b=some o:=fun b o n e=>Xac _ (Xac _ (kp1 b o n e));have gs3:((h1.push { cls:=.type "tuple",data:=.seq vs.toArray.toList.toArray }).push { cls:=.type "list",data:=.seq ([]:List Value).toArray }).get? a=some (seqObj "list" #[] k1):=Xac _ (Xac _ gs);generalize (h1.push { cls:=.type "tuple",data:=.seq vs.toArray.toList.toArray }).push { cls:=.type "list",data:=.seq ([]:List Value).toArray }=h3 at kp3 gs3 ⊢;have hkf:((List.lookup (Str.ofString "key") ([]:List (Str×Value))).getD Value.none != Value.none)=false:=by decide
 have fin:∀ (st:SortSt) (p:Array Nat) (s':Shared),s'={ s with heap:=h3 }->Gd vs.length p->Asc key p vs.length->arrOf st=Array.map (W.kas_item (vs.toArray.zip vs.toArray)) p->failedOf st=none->
  wpAny (model prog w) A (do
   let __do_lift <- seqEpoch a
   Builtin.List.listUpdate (.ref a) fun x=>Array.map (fun x=>x.snd) (arrOf st)
   match failedOf st with
    | some e=>do
     rule "list.sort.comparison-raised"
     throw e
     if (__do_lift != k1)=true then do
      rule "list.sort.modified"
      raiseErrorWords "ValueError" "list modified during sort"
      ret Value.none
      else ret Value.none
    | x=>
     if (__do_lift != k1)=true then do
      rule "list.sort.modified"
      raiseErrorWords "ValueError" "list modified during sort"
      ret Value.none
     else ret Value.none) P E s':=fun st p s' es g as har hf=>by
  subst es;refine Xaa (seqEpoch_at gs3 rfl ?_);have em:Array.map (fun x=>x.snd) (arrOf st)=(p.toList.map fun i=>vs.getD i .none).toArray:=by
   rw[har];apply Array.ext'
   simp only[Array.toList_map,Xbt];refine List.map_congr_left fun i _=>?_;show(W.kas_item (pairsOf vs) i).2=_;rw[W.kas_item_eq]
  refine Xaa (listUpdate_at gs3 rfl ?_ (by simp) (by rw[em];simp;rw[g.sz];omega));rw[hf];show wpAny _ _ (if (k1 != k1)=true then _ else _) _ _ _;rw[if_neg (by simp)];refine Xak ?_;obtain⟨k2,z⟩:∃ k2,(h3.update a (Obj.mapSeq fun x=>Array.map (fun x=>x.snd) (arrOf st))).get? a=some (seqObj "list" (Array.map (fun x=>x.snd) (arrOf st)) k2):=⟨_,Xa9 _ gs3 rfl⟩
  have z:(h3.update a (Obj.mapSeq fun x=>Array.map (fun x=>x.snd) (arrOf st))).get? a=some (seqObj "list" (p.toList.map fun i=>vs.getD i .none).toArray k2):=by rw[z,em]
  exact h _ p k2 g as (fun b o n e=>by
   show(h3.update a _).get? b=some o;rw[Heap.get?_update_ne _ _ _ _ n];exact kp3 b o n e) z
 simp only[hkf,Bool.false_eq_true,if_false];refine Xaa (Xak ?_);by_cases h2:vs.length<2
 . simp only[show(vs.toArray.size<2)=True from eq_true (by simpa using h2),if_true];refine Xaa (Xak ?_);refine Xaa (Xak ?_);refine fin _ (List.range vs.length).toArray _ rfl ⟨by simp,.refl _⟩ (fun i j z1 z2=>absurd z2 om) ?_ rfl;show vs.toArray.zip vs.toArray=_;have:=W.kas_range (vs.toArray.zip vs.toArray);rw[show(vs.toArray.zip vs.toArray).size=vs.length by simp] at this;exact this.symm
 . simp only[show(vs.toArray.size<2)=False from eq_false (by simpa using h2),if_false];obtain⟨κ,hk1,hk2⟩:=hk h3 kp3 om;refine Xaa (hk1 ?_);refine Xaa ?_;refine thn (W.kat_run (vs:=vs) (ks:=vs) (κ:=κ) (Q:=fun st s'=>∃ p,s'={ s with heap:=h3 }/\Gd vs.length p/\Asc key p vs.length/\arrOf st=Array.map (W.kas_item (vs.toArray.zip vs.toArray)) p/\failedOf st=none) (G:=fun p s'=>s'={ s with heap:=h3 }/\Gd vs.length p/\Asc key p vs.length) rfl om hl (fun p st' s' hp ha' hf hg=>⟨p,hg.1,hg.2.1,hg.2.2,ha',hf⟩) ?_) fun r s' ⟨p,e1,e2,e3,e4,e5⟩=>?_
   . exact Zll (f:=fK key) (n:=vs.length) hk2 (Zci (fun p q=>⟨rfl,q⟩) (Zu8 inj om))
   . exact fin r.2 p s' e1 e2 e3 e4 e5
theorem Zfu {prog:Program}{w:World}{A:Around}{E:Value->Shared->Prop}{s:Shared}{v:Value}{Q:Value->Shared->Prop}
 (hc:∀ {R:List Value->Shared->Prop}{E':Value->Shared->Prop},(∀ (vs:List Value)(s1:Shared),(∃ key,vs.length<64/\Inj key vs.length/\(∀ b o,s.heap.get? b=some o->s1.heap.get? b=some o)/\s1.gens=s.gens/\s1.drawn=s.drawn/\s1.os=s.os/\
  (∀ h':Heap,(∀ b o,s1.heap.get? b=some o->h'.get? b=some o)->2<=vs.length->∃ κ,(∀ {Q:SortKind->Shared->Prop}{E:Value->Shared->Prop},Q κ { s1 with heap:=h' }->wpAny (model prog w) A.in1.in1 (keyKind' vs.toArray) Q E { s1 with heap:=h' })/\
   ∀ i j (C:Bool->Shared->Prop),i<vs.length->j<vs.length->i≠j->C (fK key i j) { s1 with heap:=h' }->W.kas_ask prog w A.in1.in1 κ vs i j C { s1 with heap:=h' })/\
  (∀ (h':Heap)(l:Addr)(p:Array Nat)(k:Nat),Gd vs.length p->Asc key p vs.length->s1.heap.objs.size<=l->(∀ b o,s1.heap.get? b=some o->h'.get? b=some o)->h'.get? l=some (seqObj "list" (p.toList.map fun i=>vs.getD i .none).toArray k)->Q (.ref l) { s1 with heap:=h' }))->R vs s1)->
  wpAny (model prog w) A.in1 (collect v) R E' s) :
 wpAny (model prog w) A (call (.builtin "sorted") [v]) Q E s:=by
 refine Calls.call_function_entry kind_sorted plain_sorted entry_sorted (args_sorted1 _) ?_;unfold Builtin.sorted;refine Xaa (Xak ?_);refine Xaa (hc fun vs s1 h=>?_);obtain⟨key,hl,inj,kp,e1,e2,e3,hk,h⟩:=h;have hsz:sizeLine=16777216:=by decide
 refine Xaa (wpAny_newList ?_ om);refine Xaa (Xbi ?_);have ty:Shared.TypeIs { s1 with heap:=s1.heap.push { cls:=.type "list",data:=.seq vs.toArray } } (.ref s1.heap.objs.size) "list":=⟨_,Xau _ rfl,rfl⟩
 refine Xb5 (codeAny_call_builtin PySem.F.slot_list_sort.plain PySem.F.entry_list_sort ?_);refine PySem.F.slot_list_sort.check _ _ _ _ _ _ _ _ ty (PySem.F.args_list_sort_1 _) ?_;have gl:(s1.heap.push { cls:=.type "list",data:=.seq vs.toArray }).get? s1.heap.objs.size=some (seqObj "list" vs.toArray 0):=Xau _ rfl;have nl:∀ b o,s1.heap.get? b=some o->b≠s1.heap.objs.size:=fun b o e=>Xaw (Xai e);refine Zov (s:={ s1 with heap:=s1.heap.push { cls:=.type "list",data:=.seq vs.toArray } }) (key:=key) gl hl inj (fun h' k' h2=>?_) (fun h' p k g as k' gl'=>?_)
 . exact hk h' (fun b o e=>k' b o (nl b o e) (Xac _ e)) h2
 . exact Xak ⟨_,rfl,h h' _ p k g as (Xae _) (fun b o e=>k' b o (nl b o e) (Xac _ e)) gl'⟩
section
variable {X:Cx}{aa:List (Addr×Obj)}{σ:St}{H H':Hp}{s:Shared}{h':Heap}
theorem Inv.more {t':Nat}(I:Inv X aa σ H s)(k:∀ b o,s.heap.get? b=some o->h'.get? b=some o)(e:∀ b o,H b=some o->H' b=some o)(f:∀ b o,H' b=some o->H b=none->s.heap.get? b=none)
 (hok:∀ b o,H b=none->H' b=some o->ObjOk X.prog X.w H' h' b o):Inv X aa σ H' { s with heap:=h',toks:=t' }:=by
 refine I.un ⟨fun b o q _ _ _=>k b o q,fun b o q _ _ _=>⟨o.slots,k b o q⟩,fun b o q n _=>?_,fun b o q _=>⟨o,k b o q⟩,fun b xs q=>e b _ q,fun b o u q=>e b _ q,fun b ps q=>⟨#[],by rw[Array.append_empty];exact e b _ q⟩⟩ (fun b o q=>?_)
 . cases z:H' b with
   | none=>rfl
   | some u=>rw[f b u z n] at q;cases q
 . cases z:H b with
   | none=>exact hok b o z q
   | some u=>
    have:=e b u z;rw[q] at this;cases this;exact(I.hok b o z).stay (fun c v _ y=>k c v y) (fun c y=>e c _ y) fun c xs y=>e c _ y
end
def IntK (kvs:List (Key×V)):Prop:=∀ p∈kvs,∃ i,p.1 = .inl i
noncomputable def Zga:Key->Int
 | .inl i=>i
 | .inr _=>0
theorem Zfr {kvs:List (Key×V)}(hi:IntK kvs)(nd:(kvs.map (·.1)).Nodup):Inj (fun j=>Zga ((kvs.map (·.1)).getD j (.inl 0))) kvs.length:=fun i j h1 h2 e=>by
 have l:(kvs.map (·.1)).length=kvs.length:=by simp
 have e1:(kvs.map (·.1)).getD i (.inl 0)=(kvs.map (·.1))[i]'om:=by rw[Xat,Xab om];rfl
 have e2:(kvs.map (·.1)).getD j (.inl 0)=(kvs.map (·.1))[j]'om:=by rw[Xat,Xab om];rfl
 have e:Zga ((kvs.map (·.1)).getD i (.inl 0))=Zga ((kvs.map (·.1)).getD j (.inl 0)):=e;rw[e1,e2] at e;obtain⟨a,ha⟩:=hi kvs[i] (Xbh h1);obtain⟨b,hb⟩:=hi kvs[j] (Xbh h2);have f1:(kvs.map (·.1))[i]'om = .inl a:=by rw[List.getElem_map];exact ha
 have f2:(kvs.map (·.1))[j]'om = .inl b:=by rw[List.getElem_map];exact hb
 rw[f1,f2] at e;have e:a=b:=e;refine(List.getElem_inj nd (h₀:=by omega) (h₁:=by omega)).mp ?_;rw[f1,f2,e]
theorem KV.at {kvs:List (Key×V)}{vs:List (Key×Value)}(r:KV kvs vs):∀ {j:Nat}{k:Key}{x:Value},vs[j]? = some (k,x)->∃ v,kvs[j]? = some (k,v)/\RelV v x:=by
 induction r with
 | nil=>intro j k x h;simp at h
 | cons h t ih=>
  intro j k x e;cases j with
  | zero=>
   simp only[List.getElem?_cons_zero,Option.some.injEq] at e;rename_i a b _ _;refine⟨a.2,?_,?_⟩
   . simp only[List.getElem?_cons_zero,Option.some.injEq];have:=h.1;rw[e] at this;exact Prod.ext this rfl
   . have:=h.2;rw[e] at this;exact this
  | succ j=>exact ih (by simpa using e)
theorem KV.len {kvs:List (Key×V)}{vs:List (Key×Value)}(r:KV kvs vs):kvs.length=vs.length:=Paired.length r
theorem KV.fsts {kvs:List (Key×V)}{vs:List (Key×Value)}(r:KV kvs vs):kvs.map (·.1)=vs.map (·.1):=by
 induction r with
 | nil=>rfl
 | cons h t ih=>rw[Xbf,Xbf,ih,h.1]
noncomputable abbrev kAt (kvs:List (Key×V)) (j:Nat):Int:=Zga ((kvs.map (·.1)).getD j (.inl 0))
theorem Zs8 {kvs:List (Key×V)}{j:Nat}{i:Int}{v:V}(h:kvs[j]? = some (.inl i,v)):kAt kvs j=i:=by
 unfold kAt;rw[Xat,Xas,h];rfl
theorem Zsv {P:Program}{w:World}{i:Int}{v:Value}(h:(Zbm P w).is (.inl i) v=true):∃ t,v = .int i t:=by
 rw[Zmp] at h;have h:Value.isInt i v=true:=h;cases v <;> first
  | (simp[Value.isInt] at h;done)
  | (simp only[Value.isInt,beq_iff_eq] at h;exact⟨_,by rw[h]⟩)
theorem Zng {kvs:List (Key×V)}{p:Array Nat}(g:Gd kvs.length p):(p.toList.map (kAt kvs)).Perm (kvs.map fun q=>Zga q.1):=by
 have h1:(p.toList.map (kAt kvs)).Perm ((List.range kvs.length).map (kAt kvs)):=by
  have:=g.pm.toList;exact List.Perm.map _ (by simpa using this)
 refine h1.trans (List.Perm.of_eq ?_);apply List.ext_getElem?
 intro j;rw[Xas,Xas];by_cases h:j<kvs.length
 . rw[List.getElem?_range h,Xab h];show some (kAt kvs j)=some (Zga kvs[j].1);unfold kAt;rw[Xat,Xas,Xab h];rfl
 . rw[List.getElem?_eq_none (by simp;omega),List.getElem?_eq_none om];rfl
theorem Zew {key:Nat->Int}{n:Nat}{p:Array Nat}(g:Gd n p)(a:Asc key p n):(p.toList.map key).Pairwise (· < ·):=by
 rw[List.pairwise_iff_getElem];intro i j hi hj hij;rw[Xad,Xbu,g.sz] at hi hj;have z:=a i j hij hj;have e:∀ k,(hk:k<n)->gd p k=p.toList[k]'(by rw[Xbu,g.sz];exact hk):=fun k hk=>Zqn (by rw[Xb0 (by rw[g.sz];exact hk)];simp);rw[e i hi,e j hj] at z;simpa using z
section
variable {X:Cx}
theorem Ze0 (hcm:X.calm=true):Zd8 X (.builtin "sorted") (fun xs H Q=>∃ d kvs,xs=[.ref d]/\H d=some (.dK kvs)/\IntK kvs/\kvs.length<64/\
 ∀ l (ks:List Int),H l=none->ks.Perm (kvs.map fun q=>Zga q.1)->ks.Pairwise (· < ·)->Q (.ref l) (upd H l (.lst (ks.map V.int)))):=by
 intro aa s σ H xs us Q I r h;obtain⟨d,kvs,rfl,hd,hi,hl,q⟩:=h;obtain⟨u,rfl,ru⟩:=Zd7 r;obtain rfl:u=Value.ref d:=ru;obtain⟨hz,hS,vs,rel,o,es,ep,dd⟩:=Zn6 I.hok hd;have ai:=rel.len;have nd:(kvs.map (·.1)).Nodup:=by rw[rel.fsts];exact dd.2.2.2.2.2
 have hh:X.A.in1.handled=none:=I.ok.hd hcm;refine Zfu fun {R E'} k=>W.kdu_collect (W.kdl_dict (knd:=Zbm X.prog X.w) (kvs:=vs) (ep:=ep) hS) hh ⟨o,es,dd⟩ (by rw[<- ai];exact hz) fun h1 tk acc kp it=>?_;obtain⟨hsz,hit⟩:=it;have at_:∀ j,j<kvs.length->∃ t,acc.toList.getD j Value.none = .int (kAt kvs j) t:=fun j hj=>by
  have e:acc[j]? = some acc[j]:=Xb0 (by rw[hsz,<- ai];exact hj);obtain⟨kk,x,e1,e2⟩:=hit j _ e;obtain⟨v,e3,_⟩:=rel.at e1;obtain⟨i,e4⟩:=hi _ (Xa7 e3);have e4:kk = .inl i:=e4;subst e4;obtain⟨t,e5⟩:=Zsv e2;refine⟨t,?_⟩;rw[Zs8 e3,<- e5,Xat];rw[<- Array.getElem?_toList] at e;rw[e];rfl
 have la:acc.toList.length=kvs.length:=by rw[Xbu,hsz,ai]
 refine k acc.toList { s with heap:=h1,toks:=tk } ⟨kAt kvs,om,by rw[la];exact Zfr hi nd,kp,rfl,rfl,rfl,fun h' kp' h2=>⟨oneType',?_,?_⟩,?_⟩
 . intro Q E q;refine W.kas_kind h2 (fun v hv=>?_) rfl rfl q (T:=.type "int");obtain⟨j,hj,rfl⟩:=List.mem_iff_getElem.mp hv;obtain⟨t,e⟩:=at_ j om;rw[Xat,Xab hj] at e;have e:acc.toList[j]=Value.int (kAt kvs j) t:=e;rw[e];intro A Q E s _ q;exact Xak q
 . intro i j C h1' h2' hne c;unfold W.kas_ask;obtain⟨t1,e1⟩:=at_ i om;obtain⟨t2,e2⟩:=at_ j om;rw[e1,e2];exact W.kat_lt_int c
 . intro h' l p kk g as hle kp' gl;rw[la] at g as;have sl:s.heap.get? l=none:=by
    cases z:s.heap.get? l with
    | none=>rfl
    | some o=>exact absurd (Xai (kp l o z)) (Nat.not_lt.mpr hle)
   have hnl:H l=none:=by
    cases z:H l with
    | none=>rfl
    | some u=>
     obtain⟨o,e⟩:=(I.hok l u z).there;rw[sl] at e;cases e
   have hV:Vals ((p.toList.map (kAt kvs)).map V.int) (p.toList.map fun i=>acc.toList.getD i .none):=by
    have gen:∀ L:List Nat,(∀ i∈L,i<kvs.length)->Vals ((L.map (kAt kvs)).map V.int) (L.map fun i=>acc.toList.getD i .none):=by
     intro L
     induction L with
     | nil=>intro _;exact .nil
     | cons i r ih=>
      intro hL;obtain⟨t,e⟩:=at_ i (hL i (by simp));exact .cons ⟨t,e⟩ (ih fun j hj=>hL j (by simp[hj]))
    refine gen _ fun i hi=>?_;have:=(g.pm.mem_iff).mp (show i∈p by simpa using hi);simpa using this
   have lL:((p.toList.map (kAt kvs)).map V.int).length<=sizeLine:=by
    have e:sizeLine=16777216:=by decide
    simp[g.sz];omega
   refine⟨.ref l,upd H l (.lst ((p.toList.map (kAt kvs)).map V.int)),I.more (t':=tk) (fun b o e=>kp' b o (kp b o e)) (fun b o e=>by rw[Zaf (Zac e hnl)];exact e) (fun b o e n=>?_) (fun b o n e=>?_),rfl,q l _ hnl (Zng g) (Zew g as)⟩
   . by_cases hb:b=l
     . rw[hb];exact sl
     . rw[Zaf hb,n] at e;cases e
   . by_cases hb:b=l
     . subst hb;rw[Zaa] at e;cases e;exact⟨lL,_,_,hV,gl⟩
     . rw[Zaf hb,n] at e;cases e
noncomputable def Zof (d:Addr):Obj:={ cls:=.type "dict_items",data:=.fields #[.ref d] }
theorem Zq9:MtR X "dict.items" (fun x vs H Q=>∃ d kvs,x = .ref d/\vs=[]/\H d=some (.dK kvs)/\∀ p,H p=none->Q (.ref p) (upd H p (.frz (Zof d) (.own 0)))):=by
 intro aa s σ H x vs v us Q I rx rv h;obtain⟨d,kvs,rfl,rfl,hd,q⟩:=h;obtain rfl:v=Value.ref d:=rx;cases rv.zero
 obtain⟨hz,hS,ws,rel,dd⟩:=Zn6 I.hok hd;refine call_meetsIn PySem.F.slot_dict_items dd.typeIs PySem.F.entry_dict_items (PySem.F.args_dict_items_1 _) (meets_dict_items (Zbm X.prog X.w) d hS) ⟨⟨_,dd⟩,?_⟩;have hf:H s.heap.objs.size=none:=I.hok.fresh (Xae _);have g:(s.heap.push (Zof d)).get? s.heap.objs.size=some (Zof d):=Xau _ rfl;refine⟨.ref s.heap.objs.size,_,I.laid (t':=s.toks) (fun b u e=>Xac _ e) (Xae _) ?_,rfl,q _ hf⟩;exact⟨g,_,g⟩
theorem Zgj {h:Heap}{PF:Value->Prop}:∀ (vs:List Value),(∀ v∈vs,∃ a o xs n f,v=Value.ref a/\h.get? a=some o/\o.cls = .type "tuple"/\o.data = .seq xs n/\xs[0]? = some f/\PF f)->∃ fs,W.KatTups h vs fs/\fs.length=vs.length/\∀ f∈fs,PF f
 | [],_=>⟨[],by rw[W.KatTups.eq_1];trivial,rfl,by simp⟩
 | v :: vs,hv=>by
  obtain⟨a,o,xs,n,f,e1,e2,e3,e4,e5,e6⟩:=hv v (by simp);obtain⟨fs,i1,i2,i3⟩:=Zgj vs fun u hu=>hv u (by simp[hu]);refine⟨f :: fs,?_,by simp[i2],fun g hg=>?_⟩
  . rw[W.KatTups.eq_2];exact⟨⟨a,o,xs,n,e1,e2,e3,e4,e5⟩,i1⟩
  . rcases List.mem_cons.mp hg with rfl | hg
    . exact e6
    . exact i3 g hg
theorem Zmh {as:List Addr}{kvs:List (Key×V)}(nd:as.Nodup)(hl:as.length=kvs.length){j:Nat}{a:Addr}(h:as[j]? = some a):(as.zip kvs).lookup a=kvs[j]?:=by
 induction as generalizing kvs j with
 | nil=>simp at h
 | cons b r ih=>
  cases kvs with
  | nil=>simp at hl
  | cons kv kr=>
   rw[List.zip_cons_cons,List.lookup_cons];cases j with
   | zero=>
    simp at h;subst h;simp
   | succ j=>
    have h':r[j]? = some a:=by simpa using h
    have hne:a≠b:=fun e=>by
     have:=(List.nodup_cons.mp nd).1;exact this (e ▸ Xa7 h')
    rw[show(a == b)=false by simpa using hne];simpa using ih (List.nodup_cons.mp nd).2 (by simpa using hl) h'
theorem Zja {as:List Addr}{kvs:List (Key×V)}{b:Addr}(h:b∉as):(as.zip kvs).lookup b=none:=by
 induction as generalizing kvs with
 | nil=>simp
 | cons c r ih=>
  cases kvs with
  | nil=>simp
  | cons kv kr=>
   rw[List.zip_cons_cons,List.lookup_cons];have:b≠c:=fun e=>h (by simp[e]);rw[show(b == c)=false by simpa using this];exact ih fun z=>h (by simp[z])
noncomputable abbrev vAt (kvs:List (Key×V)) (j:Nat):V:=(kvs.map (·.2)).getD j .non
theorem Zw6 {kvs:List (Key×V)}{j:Nat}{k:Key}{v:V}(h:kvs[j]? = some (k,v)):vAt kvs j=v:=by
 unfold vAt;rw[Xat,Xas,h];rfl
theorem Zns {kvs:List (Key×V)}{p:Array Nat}(g:Gd kvs.length p):(p.toList.map fun i=>(kAt kvs i,vAt kvs i)).Perm (kvs.map fun q=>(Zga q.1,q.2)):=by
 have h1:(p.toList.map fun i=>(kAt kvs i,vAt kvs i)).Perm ((List.range kvs.length).map fun i=>(kAt kvs i,vAt kvs i)):=by
  have:=g.pm.toList;exact List.Perm.map _ (by simpa using this)
 refine h1.trans (List.Perm.of_eq ?_);apply List.ext_getElem?
 intro j;rw[Xas,Xas];by_cases h:j<kvs.length
 . rw[List.getElem?_range h,Xab h];show some (kAt kvs j,vAt kvs j)=some (Zga kvs[j].1,kvs[j].2);unfold kAt vAt;rw[Xat,Xas,Xab h,Xat,Xas,Xab h];rfl
 . rw[List.getElem?_eq_none (by simp;omega),List.getElem?_eq_none om];rfl
theorem Zip (hcm:X.calm=true):Zd8 X (.builtin "sorted") (fun xs H Q=>∃ v d kvs,xs=[.ref v]/\H v=some (.frz (Zof d) (.own 0))/\H d=some (.dK kvs)/\IntK kvs/\kvs.length<64/\
 ∀ l (as:List Addr) (ac:List (Int×V)) H',(∀ b o,H b=some o->H' b=some o)->H l=none->H' l=some (.lst (as.map V.ref))->Paired (fun a (r:Int×V)=>H' a=some (.tup [.int r.1,r.2])) as ac->
  (ac.map (·.1)).Pairwise (· < ·)->ac.Perm (kvs.map fun q=>(Zga q.1,q.2))->Q (.ref l) H'):=by
 intro aa s σ H xs us Q I r h;obtain⟨v,d,kvs,rfl,hv,hd,hi,hl,q⟩:=h;obtain⟨u,rfl,ru⟩:=Zd7 r;obtain rfl:u=Value.ref v:=ru;obtain⟨hz,hS,vs,rel,o,es,ep,dd⟩:=Zn6 I.hok hd;have ai:=rel.len;have nd:(kvs.map (·.1)).Nodup:=by rw[rel.fsts];exact dd.2.2.2.2.2
 have hh:X.A.in1.handled=none:=I.ok.hd hcm;have hview:s.heap.IsItemsView v d:=⟨_,(I.hok _ _ hv).1,rfl,rfl⟩
 refine Zfu fun {R E'} k=>W.kdx_collect (knd:=Zbm X.prog X.w) hh hview ⟨o,es,dd⟩ (by rw[<- ai];exact hz) fun h1 tk as kp la G=>?_;have la':as.length=kvs.length:=by rw[la,ai]
 have nda:as.Nodup:=G.rise.imp fun z=>Xaw z;have at_:∀ j,j<kvs.length->∃ a t x i vv,as[j]? = some a/\kvs[j]? = some (.inl i,vv)/\RelV vv x/\kAt kvs j=i/\h1.get? a=some { cls:=.type "tuple",data:=.seq #[.int i t,x] }/\s.heap.objs.size<a:=fun j hj=>by
  have e:as[j]? = some (as[j]'om):=Xab om;obtain⟨key,kk,x,e1,e2,e3⟩:=G.pairs j _ e;obtain⟨vv,e4,rv⟩:=rel.at e1;obtain⟨i,e5⟩:=hi _ (Xa7 e4);have e5:kk = .inl i:=e5;subst e5;obtain⟨t,rfl⟩:=Zsv e2;exact⟨_,t,x,i,vv,e,e4,rv,Zs8 e4,e3,G.above _ (Xbh _)⟩
 have gd_:∀ j a,as[j]? = some a->(as.map Value.ref).getD j Value.none = .ref a:=fun j a e=>by
  rw[Xat,Xas,e];rfl
 refine k (as.map Value.ref) { s with heap:=h1,toks:=tk } ⟨kAt kvs,by simp;omega,by rw[Xad,la'];exact Zfr hi nd,kp,rfl,rfl,rfl,fun h' kp' h2=>⟨tuples' true,?_,?_⟩,?_⟩
 . intro Q E q;obtain⟨fs,f1,f2,f3⟩:=Zgj (h:=h') (PF:=fun f=>∃ i t,f=Value.int i t) (as.map Value.ref) fun w' hw=>by
    obtain⟨a,ha,rfl⟩:=List.mem_map.mp hw;obtain⟨j,hj,rfl⟩:=List.mem_iff_getElem.mp ha;obtain⟨a,t,x,i,vv,e1,e2,e3,e4,e5,e6⟩:=at_ j om;rw[Xab hj] at e1;cases e1
    exact⟨_,_,_,_,_,rfl,kp' _ _ e5,rfl,rfl,rfl,i,t,rfl⟩
   refine W.kat_kind f1 (by rw[f2];omega) (fun f hf=>?_) rfl q (T:=.type "int");obtain⟨i,t,rfl⟩:=f3 f hf;intro A Q E s _ q;exact Xak q
 . intro i j C h1' h2' hne c;rw[Xad,la'] at h1' h2';unfold W.kas_ask;obtain⟨a1,t1,x1,i1,v1,e11,e12,e13,e14,e15,e16⟩:=at_ i h1';obtain⟨a2,t2,x2,i2,v2,e21,e22,e23,e24,e25,e26⟩:=at_ j h2';rw[gd_ i a1 e11,gd_ j a2 e21];refine W.kat_lt (kp' _ _ e15) rfl (kp' _ _ e25) rfl ?_;refine W.kat_cons (wpAny_eqBool_int ?_);have ne:i1≠i2:=fun z=>hne (Zfr hi nd i j h1' h2' (by show kAt kvs i=kAt kvs j;rw[e14,e24,z]));rw[show(i1 == i2)=false by simpa using ne];refine W.kat_no ?_;show wpAny _ _ (oneLt' true _ _) _ _ _;rw[<- keyLt'_oneType];refine W.kat_lt_int ?_;have:fK (kAt kvs) i j=decide (i1<i2):=by show decide (kAt kvs i<kAt kvs j)=_;rw[e14,e24]
   rw[this] at c;exact c
 . intro h' l p kk g as' hle kp' gl;rw[Xad,la'] at g as';have pin:∀ i∈p.toList,i<kvs.length:=fun i hi=>by
    have:=(g.pm.mem_iff).mp (show i∈p by simpa using hi);simpa using this
   have sl:s.heap.get? l=none:=by
    cases z:s.heap.get? l with
    | none=>rfl
    | some o=>exact absurd (Xai (kp l o z)) (Nat.not_lt.mpr hle)
   have hnl:H l=none:=by
    cases z:H l with
    | none=>rfl
    | some u=>
     obtain⟨o,e⟩:=(I.hok l u z).there;rw[sl] at e;cases e
   have inas:∀ a∈as,∃ j,j<kvs.length/\as[j]? = some a:=fun a ha=>by
    obtain⟨j,hj,e⟩:=List.mem_iff_getElem.mp ha;exact⟨j,om,by rw[Xab hj,e]⟩
   have asz:∀ a∈as,s.heap.objs.size<a/\a<h1.objs.size:=fun a ha=>by
    obtain⟨j,hj,e⟩:=inas a ha;obtain⟨a',t,x,i,vv,e1,e2,e3,e4,e5,e6⟩:=at_ j hj;rw[e] at e1;cases e1;exact⟨e6,Xai e5⟩
   have lnas:l∉as:=fun z=>absurd (asz l z).2 (Nat.not_lt.mpr hle);have anl:∀ a∈as,a≠l:=fun a ha e=>lnas (e ▸ ha);generalize hH':(fun b=>if b=l then some (HO.lst ((p.toList.map fun i=>as.getD i 0).map V.ref)) else match (as.zip kvs).lookup b with | some kv=>some (HO.tup [V.int (Zga kv.1),kv.2]) | none=>H b:Hp)=H';have H'l:H' l=some (.lst ((p.toList.map fun i=>as.getD i 0).map V.ref)):=by rw[<- hH'];exact if_pos rfl
   have H'a:∀ (j:Nat) (a:Addr) (i:Int) (vv:V),as[j]? = some a->kvs[j]? = some (Sum.inl i,vv)->H' a=some (.tup [.int i,vv]):=fun j a i vv e1 e2=>by
    rw[<- hH'];show(if a=l then _ else _)=_;rw[if_neg (anl a (Xa7 e1)),Zmh nda la' e1,e2];rfl
   have H'o:∀ b,b≠l->b∉as->H' b=H b:=fun b n1 n2=>by
    rw[<- hH'];show(if b=l then _ else _)=_;rw[if_neg n1,Zja n2]
   have ext:∀ b o,H b=some o->H' b=some o:=fun b o e=>by
    rw[H'o b (Zac e hnl) fun z=>by
     have:=I.hok.fresh (Nat.le_of_lt (asz b z).1);rw[this] at e;cases e]
    exact e
   have pr:∀ L:List Nat,(∀ i∈L,i<kvs.length)->Paired (fun a (r:Int×V)=>H' a=some (.tup [.int r.1,r.2])) (L.map fun i=>as.getD i 0) (L.map fun i=>(kAt kvs i,vAt kvs i)):=by
    intro L
    induction L with
    | nil=>intro _;exact .nil
    | cons i r ih=>
     intro hL;obtain⟨a,t,x,ii,vv,e1,e2,e3,e4,e5,e6⟩:=at_ i (hL i (by simp));refine .cons ?_ (ih fun j hj=>hL j (by simp[hj]));show H' (as.getD i 0)=some (.tup [.int (kAt kvs i),vAt kvs i]);rw[e4,Zw6 e2,Xat,e1];exact H'a i a ii vv e1 e2
   have hV:∀ L:List Nat,(∀ i∈L,i<kvs.length)->Vals ((L.map fun i=>as.getD i 0).map V.ref) (L.map fun i=>(as.map Value.ref).getD i .none):=by
    intro L
    induction L with
    | nil=>intro _;exact .nil
    | cons i r ih=>
     intro hL;obtain⟨a,t,x,ii,vv,e1,e2,e3,e4,e5,e6⟩:=at_ i (hL i (by simp));refine .cons ?_ (ih fun j hj=>hL j (by simp[hj]));show RelV (.ref (as.getD i 0)) ((as.map Value.ref).getD i .none);rw[gd_ i a e1,Xat,e1]
     rfl
   have hsz:sizeLine=16777216:=by decide
   refine⟨.ref l,H',I.more (t':=tk) (fun b o e=>kp' b o (kp b o e)) ext (fun b o e n=>?_) (fun b o n e=>?_),rfl,q l _ (p.toList.map fun i=>(kAt kvs i,vAt kvs i)) H' ext hnl H'l (pr _ pin) ?_ (Zns g)⟩
   . by_cases hb:b=l
     . rw[hb];exact sl
     . by_cases hb2:b∈as
       . exact Xb4 (Nat.le_of_lt (asz b hb2).1)
       . rw[H'o b hb hb2,n] at e;cases e
   . by_cases hb:b=l
     . subst hb;rw[H'l] at e;cases e;exact⟨by simp[g.sz];omega,_,_,hV _ pin,gl⟩
     . by_cases hb2:b∈as
       . obtain⟨j,hj,e0⟩:=inas b hb2;obtain⟨a,t,x,ii,vv,e1,e2,e3,e4,e5,e6⟩:=at_ j hj;rw[e0] at e1;cases e1;rw[H'a j b ii vv e0 e2] at e;cases e;exact⟨by show(2:Nat)<=_;decide,[.int ii t,x],.cons ⟨t,rfl⟩ (.cons e3 .nil),_,kp' _ _ e5,rfl,_,rfl⟩
       . rw[H'o b hb hb2,n] at e;cases e
   . have:=Zew g as';rw[Xbt];exact this
end
abbrev Rw:=Int×Str
noncomputable def Zbc (k:Int) (b:Nat):Int:=k / 2 ^ b % 2
theorem Zed (k:Int)(b:Nat):Zbc k b=0\/Zbc k b=1:=by unfold Zbc;omega
noncomputable def prt (ac:List Rw) (b:Nat) (s:Int):List Rw:=ac.filter fun r=>decide (Zbc r.1 b=s)
noncomputable abbrev rwT (r:Rw):Tm:=.nd "row" (.int r.1) (.str r.2)
noncomputable abbrev fkT:Tm->Tm->Tm:=.nd "fork"
noncomputable def Zgb:Nat->List Rw->Tm
 | _,[]=>nlT
 | _,[r]=>rwT r
 | 0,_ :: _ :: _=>nlT
 | b+1,x :: y :: r=>fkT (Zgb b (prt (x :: y :: r) b 0)) (Zgb b (prt (x :: y :: r) b 1))
theorem Zd9 (b:Nat):Zgb b []=nlT:=by cases b <;> rfl
theorem Zek (b:Nat)(r:Rw):Zgb b [r]=rwT r:=by cases b <;> rfl
theorem Zh5 {b:Nat}{ac:List Rw}(h:2<=ac.length):Zgb (b+1) ac=fkT (Zgb b (prt ac b 0)) (Zgb b (prt ac b 1)):=by
 match ac,h with
 | x :: y :: r,_=>rfl
theorem Zk2 (k:Int)(b:Nat):k / 2 ^ (b+1)=k / 2 ^ b / 2:=by
 rw[Int.pow_succ,Int.ediv_ediv_of_nonneg (two_pow_nn b)]
theorem Zpw {ac:List Rw}{b:Nat}{s:Int}{r:Rw}(h:r∈prt ac b s):r∈ac/\Zbc r.1 b=s:=by
 have:=List.mem_filter.mp h;exact⟨this.1,Xaf this.2⟩
structure OKR (b:Nat)(ac:List Rw):Prop where
 nd:(ac.map (·.1)).Nodup
 al:∀ r∈ac,∀ r'∈ac,r.1 / 2 ^ b=r'.1 / 2 ^ b
theorem OKR.zero {ac:List Rw}(h:OKR 0 ac):ac.length<=1:=by
 match ac,h with
 | [],_=>simp
 | [_],_=>simp
 | x :: y :: r,h=>
  have e:=h.al x (by simp) y (by simp);simp at e;have n:=h.nd;simp[e] at n
theorem OKR.prt {b:Nat}{ac:List Rw}(h:OKR (b+1) ac)(s:Int):OKR b (prt ac b s):=by
 refine⟨h.nd.sublist (List.Sublist.map _ List.filter_sublist),fun r hr r' hr'=>?_⟩;obtain⟨m1,e1⟩:=Zpw hr;obtain⟨m2,e2⟩:=Zpw hr';have e:=h.al r m1 r' m2;rw[Zk2,Zk2] at e;unfold Zbc at e1 e2;omega
theorem OKR.of {b:Nat}{ac:List Rw}(nd:(ac.map (·.1)).Nodup)(h:∀ r∈ac,0<=r.1/\r.1<2 ^ b):OKR b ac:=
 ⟨nd,fun r hr r' hr'=>by rw[Int.ediv_eq_zero_of_lt (h r hr).1 (h r hr).2,Int.ediv_eq_zero_of_lt (h r' hr').1 (h r' hr').2]⟩
theorem Zjg (b:Nat):∀ ac:List Rw,(prt ac b 0).length+(prt ac b 1).length=ac.length
 | []=>rfl
 | r :: t=>by
  have ih:=Zjg b t;unfold prt at ih ⊢;rcases Zed r.1 b with e | e
  . rw[List.filter_cons_of_pos (by simp[e]),List.filter_cons_of_neg (by simp[e])];simp only[Xax];omega
  . rw[List.filter_cons_of_neg (by simp[e]),List.filter_cons_of_pos (by simp[e])];simp only[Xax];omega
theorem Zqz (b:Nat)(ac:List Rw)(k:Int):(prt ac b (Zbc k b)).length+(prt ac b (1 - Zbc k b)).length=ac.length:=by
 have:=Zjg b ac;rcases Zed k b with e | e
 . rw[e];exact this
 . rw[e];show(prt ac b 1).length+(prt ac b 0).length=_;omega
noncomputable def Zgd:Nat->List Rw->Nat
 | 0,_=>1
 | b+1,ac=>if ac.length<=1 then 1 else 1+Zgd b (prt ac b 0)+Zgd b (prt ac b 1)
theorem Zkv (b:Nat)(ac:List Rw):1<=Zgd b ac:=by
 cases b with
 | zero=>exact Xae _
 | succ b=>unfold Zgd;split <;> omega
theorem Zf0 {b:Nat}{ac:List Rw}(h:2<=ac.length):Zgd (b+1) ac=1+Zgd b (prt ac b 0)+Zgd b (prt ac b 1):=by
 show(if _ then _ else _)=_;rw[if_neg om]
theorem Zhh:∀ (b:Nat)(ac:List Rw),Zgd b ac<=1+2 * (b * ac.length)
 | 0,_=>by simp[Zgd]
 | b+1,ac=>by
  by_cases h:2<=ac.length
  . rw[Zf0 h];have i1:=Zhh b (prt ac b 0);have i2:=Zhh b (prt ac b 1);have l:=Zjg b ac;have e:b * ac.length=b * (prt ac b 0).length+b * (prt ac b 1).length:=by rw[<- l,Nat.mul_add]
    rw[Nat.add_mul];omega
  . show(if _ then _ else _)<=_;rw[if_pos om];omega
theorem Zff:∀ (b:Nat)(ac:List Rw),(Zgb b ac).dep<=b+1
 | b,[]=>by rw[Zd9];simp[Tm.dep]
 | b,[r]=>by rw[Zek];simp[Tm.dep]
 | 0,_ :: _ :: _=>by simp[Zgb,Tm.dep]
 | b+1,x :: y :: r=>by
  have i1:=Zff b (prt (x :: y :: r) b 0);have i2:=Zff b (prt (x :: y :: r) b 1);show max _ _+1<=_;omega
noncomputable def Zdh:Nat->List Rw->Int->List Tm×List Rw
 | 0,ac,_=>([],ac)
 | b+1,ac,k=>if ac.length<=1 then([],ac) else(Zgb b (prt ac b (1 - Zbc k b)) :: (Zdh b (prt ac b (Zbc k b)) k).1,(Zdh b (prt ac b (Zbc k b)) k).2)
theorem Zfa {b:Nat}{ac:List Rw}{k:Int}(h:ac.length<=1):Zdh b ac k=([],ac):=by
 cases b with
 | zero=>rfl
 | succ b=>show(if _ then _ else _)=_;rw[if_pos h]
theorem Zem {b:Nat}{ac:List Rw}{k:Int}(h:2<=ac.length):Zdh (b+1) ac k=(Zgb b (prt ac b (1 - Zbc k b)) :: (Zdh b (prt ac b (Zbc k b)) k).1,(Zdh b (prt ac b (Zbc k b)) k).2):=by
 show(if _ then _ else _)=_;rw[if_neg om]
theorem Zg7:∀ (b:Nat)(ac:List Rw)(k:Int),(Zdh b ac k).1.length<=b
 | 0,_,_=>Xae _
 | b+1,ac,k=>by
  by_cases h:2<=ac.length
  . rw[Zem h];have:=Zg7 b (prt ac b (Zbc k b)) k;simp only[Xax];omega
  . rw[Zfa om];simp
theorem Zk4:∀ (b:Nat)(ac:List Rw)(k:Int),∀ t∈(Zdh b ac k).1,t.dep<=b
 | 0,_,_,t,h=>by simp[Zdh] at h
 | b+1,ac,k,t,ht=>by
  by_cases h:2<=ac.length
  . rw[Zem h] at ht;rcases List.mem_cons.mp ht with z | z
    . rw[z];exact Zff _ _
    . have:=Zk4 b _ k t z;omega
  . rw[Zfa om] at ht;cases ht
noncomputable def wcP:Nat->List Rw->Int->Nat
 | 0,_,_=>0
 | b+1,ac,k=>if ac.length<=1 then 0 else Zgd b (prt ac b (1 - Zbc k b))+wcP b (prt ac b (Zbc k b)) k
theorem Zhp {b:Nat}{ac:List Rw}{k:Int}(h:2<=ac.length):wcP (b+1) ac k=Zgd b (prt ac b (1 - Zbc k b))+wcP b (prt ac b (Zbc k b)) k:=by
 show(if _ then _ else _)=_;rw[if_neg om]
theorem Znc:∀ (b:Nat)(ac:List Rw)(k:Int),wcP b ac k<=b+2 * (b * ac.length)
 | 0,_,_=>by simp[wcP]
 | b+1,ac,k=>by
  by_cases h:2<=ac.length
  . rw[Zhp h];have i1:=Zhh b (prt ac b (1 - Zbc k b));have i2:=Znc b (prt ac b (Zbc k b)) k;have l:=Zqz b ac k;have e:b * ac.length=b * (prt ac b (Zbc k b)).length+b * (prt ac b (1 - Zbc k b)).length:=by rw[<- l,Nat.mul_add]
    rw[Nat.add_mul];omega
  . show(if _ then _ else _)<=_;rw[if_pos om];omega
def RowAt (H:Hp)(r:Rw)(v:V):Prop:=∃ p,v = .ref p/\H p=some (.tup [.int r.1,.str r.2])
abbrev RowsAt (H:Hp):List Rw->List V->Prop:=Paired (RowAt H)
theorem RowAt.up {S:Sl}{n:Nat}{H H':Hp}{r:Rw}{v:V}(h:RowAt H r v)(g:Gn S n H H'):RowAt H' r v:=by
 obtain⟨p,e,q⟩:=h;exact⟨p,e,g.keep _ _ q rfl⟩
theorem RowsAt.up {S:Sl}{n:Nat}{H H':Hp}{ac:List Rw}{vs:List V}(h:RowsAt H ac vs)(g:Gn S n H H'):RowsAt H' ac vs:=Paired.imp2 (fun _ _ q=>RowAt.up q g) h
theorem Zj1 {α β:Type}{F:α->β->Prop}:∀ {l₁:List α}{l₂:List β}{i:Nat}{a:α},Paired F l₁ l₂->l₁[i]? = some a->∃ b,l₂[i]? = some b/\F a b
 | _,_,0,_,.cons r _,h2=>by simp at h2;subst h2;exact⟨_,rfl,r⟩
 | _,_,i+1,_,.cons _ t,h2=>by
  obtain⟨a,h1,h3⟩:=Zj1 (i:=i) t (by simpa using h2);exact⟨a,by simpa using h1,h3⟩
theorem Zjp {α β:Type}{F:α->β->Prop}{l:List α}{m:List β}{a:α}{b:β}(h:Paired F l m)(r:F a b):Paired F (l++[a]) (m++[b]):=Zdp h (.cons r .nil)
theorem Zjc {α:Type}{f:α->Bool}{l:List α}{i:Nat}{a:α}(h:l[i]? = some a):(l.take (i+1)).filter f=(l.take i).filter f++(if f a=true then [a] else []):=by
 rw[List.take_succ,h,List.filter_append];congr 1
 show [a].filter f=_;cases e:f a <;> simp[e]
theorem Zdo {K:W.Frag}{S:Sl}{js:List Nat}{tt:TT}{σ:St}{H:Hp}{R:Addr->Hp->Prop}{a:Addr}{ac:List Rw}{ws:List V}(f:Rw->Bool)(ts:Zgn S H)(hq:SqL K H a ws)(hw:RowsAt H ac ws)(hz:ac.length<=100000)
 (htt:∀ (p:Addr)(r:Rw)(H':Hp)(Qb:Bool->Hp->Prop),H' p=some (.tup [.int r.1,.str r.2])->Qb (f r) H'->tt (some (.ref p) :: Zh3 js σ) H' Qb)
 (hQ:∀ D H' ws',Gr S 0 H H'->H D=none->H' D=some (.lst ws')->RowsAt H' (ac.filter f) ws'->R D H') :
 ∀ D,H D=none->∃ W:Nat->Nat->List V->Hp->Prop,(∃ m,W 0 m [] (upd H D (.lst [])))/\∀ i m ys H,W i m ys H->
  ((Itl K a).stop i H/\R D H)\/((Itl K a).go i H/\∀ x H',(Itl K a).yld i H x H'->tt (some x :: Zh3 js σ) H' fun b H2=>if b=true then Zyn 0 (some x :: Zh3 js σ) H2 fun y H3=>H3 D=some (.lst ys)/\ys.length<sizeLine/\∃ m',m'<m/\W (i+1) m' (ys++[y]) (upd H3 D (.lst (ys++[y])))
   else ∃ m',m'<m/\W (i+1) m' ys H2):=by
 intro D hD;refine⟨fun i m ys H'=>m=ac.length - i/\i<=ac.length/\H' D=some (.lst ys)/\Gr S 0 H H'/\RowsAt H' ((ac.take i).filter f) ys,⟨ac.length,by simp,om,Zaa,Gr.new ts hD,.nil⟩,?_⟩;rintro i m ys H' ⟨rfl,hi,hD',g,ry⟩;have hq':=g.sq hq;have hl:=Za0 hw;by_cases hlt:i<ac.length
 . have hlt':i<ws.length:=by omega
   refine .inr ⟨⟨_,ws[i],hq',Xab hlt'⟩,fun x H2 ⟨e2,hx⟩=>?_⟩;subst e2;have er:ac[i]? = some ac[i]:=Xab hlt;have ex:=hx _ hq';obtain⟨p,rfl,hp⟩:=Zkp hw er ex;have hp':=g.gn.keep _ _ hp rfl;refine htt p ac[i] H2 _ hp' ?_;have ef:=Zjc (f:=f) er;have ylen:ys.length<=i:=by rw[<- Za0 ry];refine Xan (Xbz _ _) ?_;rw[Xav];omega
   cases e:f ac[i] with
   | true=>
    rw[if_pos rfl];rw[e,if_pos rfl] at ef;have g4:Gn S 0 H2 (upd H2 D (.lst (ys++[.ref p]))):=Gn.chg g.gn.told2 hD' rfl (fun _ e=>nomatch e);refine⟨_,rfl,hD',by rw[Xam];omega,ac.length - (i+1),om,rfl,om,Zaa,g.own hD,?_⟩;rw[ef];exact RowsAt.up (Zjp ry ⟨p,rfl,hp'⟩) g4
   | false=>
    rw[if_neg (by simp)];rw[e,if_neg (by simp),Xba] at ef;exact⟨ac.length - (i+1),om,rfl,om,hD',g,by rw[ef];exact ry⟩
 . have e:i=ac.length:=by omega
   subst e;refine .inl ⟨⟨_,hq',om⟩,?_⟩;rw[List.take_length] at ry;exact hQ D H' ys g hD hD' ry
section
variable {X:Cx}
end
structure FunD (K:W.Frag)(x qual:Str)(st:Stmt)(f:Addr)(fd:FuncData)(ds:List Int):Prop where
 ex:∃ (oc:Value) (od:Option Addr) (T:Addr) (kV doc pm:Value) (an:Option Addr) (ad ct:Value) (osl:Array (Option Value)) (oT:Obj) (its:List Value) (n:Nat),
  fd=W.fnOf x qual (Za3 st) (Zaq st) (Zad st) (.ref T) kV doc pm an ad ct/\K.lookup f=some ⟨oc,od,.func fd,osl⟩/\PySem.W.codeIn K ad qual=true/\K.lookup T=some oT/\oT.data = .seq its.toArray n/\IntsAre its ds
 kp:W.keepIn K (.ref f)=true
def Zpl (K:W.Frag)(C:Addr)(m qual:Str)(st:Stmt)(ds:List Int):Prop:=∃ f fd,Zmq K C m f/\FunD K m qual st f fd ds
theorem Zqp {K:W.Frag}{C:Addr}{m qual:Str}{st:Stmt}{f T:Addr}{oc oc2:Value}{od an od2:Option Addr}{osl osl2:Array (Option Value)}{kV doc pm ad ct:Value}{d:Int}{t:Tok}{n:Nat}(a:W.findIn K (.ref C) m=some (some (.ref f)))(i:PySem.W.isFn K (.ref f)=true)
 (l:K.lookup f=some ⟨oc,od,.func (W.fnOf m qual (Za3 st) (Zaq st) (Zad st) (.ref T) kV doc pm an ad ct),osl⟩)(c:PySem.W.codeIn K ad qual=true)(k:W.keepIn K (.ref f)=true)
 (lT:K.lookup T=some ⟨oc2,od2,.seq #[.int d t] n,osl2⟩):Zpl K C m qual st [d]:=
 ⟨f,_,⟨a,i,k⟩,⟨⟨oc,od,T,kV,doc,pm,an,ad,ct,osl,_,[.int d t],n,rfl,l,c,lT,rfl,.cons d t .nil⟩,k⟩⟩
theorem FunD.ok {x qual:Str}{st:Stmt}{f:Addr}{fd:FuncData}{ds:List Int}{N ps:List Str}{k:Nat}{sp:Sp}(F:FunD K x qual st f fd ds)(S:Zak N ps (Zad st))(len:∀ vs H Q E,sp vs H Q E->vs.length=ps.length)
 (ah:∀ (ad:Value)(A:Around)(outer:List Env)(s:Shared)(H:Hp)(vs:List V)(Q:VK)(E:XK),Room k (A.deeper (envOfC qual (Zad st) s.heap.objs.size f ad))->sp vs H Q E->
  ∃ t,PSs (Zc1 CX0 P w K mg base N qual (Zad st) f ad A outer s H E).nox (Zaq st) t/\t { nx:=fun _ H'=>Q .non H',rt:=Q } (Zce N vs) H):FnOk P w K mg base CX0 (k+1) f fd ps sp:=by
 obtain⟨oc,od,T,kV,doc,pm,an,ad,ct,osl,oT,its,n,rfl,lk,hcd,_⟩:=F.ex;refine Zhf lk hcd S len fun A outer s H vs Q E hr hsp=>?_;obtain⟨t,h,q⟩:=ah ad A outer s H vs Q E hr hsp;exact⟨t,h.nox,q⟩
theorem FunD.binds {x qual:Str}{st:Stmt}{f:Addr}{fd:FuncData}{d:Int}{ps:List Str}(F:FunD K x qual st f fd [d])
 (h:∀ (T:Addr)(kV doc pm:Value)(an:Option Addr)(ad ct:Value)(t:Tok)(us:List Value),us.length=ps.length->∃ k,bindArgs (W.fnOf x qual (Za3 st) (Zaq st) (Zad st) (.ref T) kV doc pm an ad ct) ⟨us,[]⟩=seqItems? (.ref T) >>= k/\k (some #[.int d t])=pure (ps.zip us)):Binds K fd ps []:=by
 obtain⟨oc,od,T,kV,doc,pm,an,ad,ct,osl,oT,its,n,rfl,lk,hcd,lT,hs,hi⟩:=F.ex;intro s us KX hl;rw[Xba] at hl ⊢;obtain⟨t,rfl⟩:∃ t,its=[.int d t]:=by
  cases hi with
  | cons _ t r=>cases r;exact⟨t,rfl⟩
 obtain⟨k,h1,h2⟩:=h T kV doc pm an ad ct t us hl;exact BindsTo.of_defaults rfl (KX _ _ lT) hs h1 h2
inductive Zp0:List Expr->List Int->Prop
 | nil:Zp0 [] []
 | cons {n:Int}{j p} {es:List Expr}{ns:List Int}(h:Zp0 es ns):Zp0 (.Constant (.int n) j p :: es) (n :: ns)
def tInts (ns:List Int):TA:=fun _ H Q=>Q (ns.map V.int) H
theorem Ztq {X:Cx}{es:List Expr}{ns:List Int}(h:Zp0 es ns):PA X es (tInts ns):=by
 induction h with
 | nil=>exact Zbl
 | cons h ih=>exact Zbr Zae ih
theorem FnP.any {n k:Nat}{x:Str}{ps:List Str}{sp:Nat->Sp}(h:∀ b,b<=n->FnP P w K mg base k x ps (sp b)):FnP P w K mg base k x ps (fun vs H Q E=>∃ b,b<=n/\sp b vs H Q E):=by
 obtain⟨f,fd,h1,h2,h3,h4,oc,od,sl,h5⟩:=h 0 (Nat.zero_le _);refine⟨f,fd,h1,h2,h3,⟨fun vs H Q E ⟨b,hb,q⟩=>?_,fun A outer s H args us vs Q E hr e0 hbd r ⟨b,hb,q⟩=>?_⟩,oc,od,sl,h5⟩
 . obtain⟨f',fd',a1,a2,a3,a4,_⟩:=h b hb;exact a4.len _ _ _ _ q
 . obtain⟨f',fd',a1,a2,a3,a4,oc',od',sl',a5⟩:=h b hb;have e:=h1.symm.trans a1;cases e
   rw[h5] at a5;cases a5
   exact a4.run A outer s H args us vs Q E hr e0 hbd r q
theorem Zix {α:Type}:∀ {l₁ l₂:List (Int×α)},l₁.Perm l₂->(l₁.map (·.1)).Pairwise (· < ·)->(l₂.map (·.1)).Pairwise (· < ·)->l₁=l₂
 | [],l₂,p,_,_=>p.nil_eq
 | a :: r,[],p,_,_=>by cases p.symm.nil_eq
 | a :: r,b :: t,p,h1,h2=>by
  have h1':=List.pairwise_cons.mp (show((a.1 :: r.map (·.1)).Pairwise (· < ·)) from h1);have h2':=List.pairwise_cons.mp (show((b.1 :: t.map (·.1)).Pairwise (· < ·)) from h2);have e:a=b:=by
   have m1:a∈b :: t:=p.mem_iff.mp (by simp);have m2:b∈a :: r:=p.mem_iff.mpr (by simp);rcases List.mem_cons.mp m1 with z | z
   . exact z
   rcases List.mem_cons.mp m2 with y | y
   . exact y.symm
   have z1:=h2'.1 a.1 (List.mem_map.mpr ⟨a,z,rfl⟩);have z2:=h1'.1 b.1 (List.mem_map.mpr ⟨b,y,rfl⟩);omega
  subst e;rw[Zix ((List.perm_cons a).mp p) h1'.2 h2'.2]
structure Rws (D:Nat)(kvs:List (Key×V)):Prop where
 all:∀ p∈kvs,∃ i x,p=(.inl i,.str x)/\0<=i/\i<2 ^ D
 nd:(kvs.map (·.1)).Nodup
theorem Rws.nil {D:Nat}:Rws D []:=⟨fun _ h=>(nomatch h),List.nodup_nil⟩
theorem Rws.ints {D:Nat}{kvs:List (Key×V)}(h:Rws D kvs):IntK kvs:=fun p hp=>by
 obtain⟨i,x,rfl,_⟩:=h.all p hp;exact⟨i,rfl⟩
theorem Zkt {kvs:List (Key×V)}(nd:(kvs.map (·.1)).Nodup){k:Key}{v:V}(h:(k,v)∈kvs):Zcf kvs k=some v:=by
 induction kvs with
 | nil=>cases h
 | cons p r ih=>
  have nd':=List.nodup_cons.mp nd;rcases List.mem_cons.mp h with e | e
  . subst e;exact Zca rfl
  . rw[Zb9 (fun z=>nd'.1 (List.mem_map.mpr ⟨_,e,z.symm⟩))];exact ih nd'.2 e
theorem Zlc {kvs:List (Key×V)}{k:Key}{v:V}(h:(Zcf kvs k).isSome=true):Ze4 kvs k v=kvs.map (fun kv=>if kv.1=k then(kv.1,v) else kv):=by
 unfold Ze4;rw[Zef,if_pos h]
theorem Rws.put {D:Nat}{kvs:List (Key×V)}(h:Rws D kvs){i:Int}(h0:0<=i)(h1:i<2 ^ D)(x:Str):Rws D (Ze4 kvs (.inl i) (.str x)):=by
 cases e:Zcf kvs (.inl i) with
 | none=>
  refine⟨fun p hp=>?_,Zty _ h.nd e⟩;rw[Zfg _ e] at hp;rcases List.mem_append.mp hp with z | z
  . exact h.all p z
  . rw[List.mem_singleton.mp z];exact⟨i,x,rfl,h0,h1⟩
 | some v=>
  have eo:=Zlc (v:=.str x) (show(Zcf kvs (.inl i)).isSome=true by rw[e];rfl);rw[eo];refine⟨fun p hp=>?_,?_⟩
  . obtain⟨q,hq,rfl⟩:=List.mem_map.mp hp;by_cases z:q.1 = .inl i
    . rw[if_pos z,z];exact⟨i,x,rfl,h0,h1⟩
    . rw[if_neg z];exact h.all q hq
  . have e2:(kvs.map (fun kv=>if kv.1 = .inl i then(kv.1,V.str x) else kv)).map (·.1)=kvs.map (·.1):=by
     rw[Xbt];apply List.map_congr_left
     intro q _;show(if q.1=_ then _ else _:Key×V).1=q.1;split <;> rfl
    rw[e2];exact h.nd
theorem Rws.drop {D:Nat}{kvs:List (Key×V)}(h:Rws D kvs)(k:Key):Rws D (Zc0 kvs k):=⟨fun p hp=>h.all p (Zfs hp),Zg5 h.nd⟩
def SrtOf (kvs:List (Key×V))(ac:List Rw):Prop:=(ac.map (·.1)).Pairwise (· < ·)/\(ac.map fun r=>(r.1,V.str r.2)).Perm (kvs.map fun q=>(Zga q.1,q.2))
theorem SrtOf.len {kvs:List (Key×V)}{ac:List Rw}(h:SrtOf kvs ac):ac.length=kvs.length:=by
 have:=h.2.length_eq;simpa using this
theorem SrtOf.uniq {kvs:List (Key×V)}{ac:List Rw}(h:SrtOf kvs ac){rs:List (Int×V)}(h1:(rs.map (·.1)).Pairwise (· < ·))(h2:rs.Perm (kvs.map fun q=>(Zga q.1,q.2))):rs=ac.map fun r=>(r.1,V.str r.2):=
 Zix (h2.trans h.2.symm) h1 (by rw[Xbt];exact h.1)
theorem SrtOf.okr {D:Nat}{kvs:List (Key×V)}{ac:List Rw}(h:SrtOf kvs ac)(hw:Rws D kvs):OKR D ac:=by
 refine OKR.of (h.1.imp fun z=>by omega) fun r hr=>?_;have m:(r.1,V.str r.2)∈kvs.map fun q=>(Zga q.1,q.2):=h.2.mem_iff.mp (List.mem_map.mpr ⟨r,hr,rfl⟩);obtain⟨q,hq,e⟩:=List.mem_map.mp m;obtain⟨i,x,rfl,h0,h1⟩:=hw.all q hq;have e1:i=r.1:=congrArg Prod.fst e;rw[<- e1];exact⟨h0,h1⟩
noncomputable def Zlk (kvs:List (Key×V)) (k:Int):Str:=match Zcf kvs (.inl k) with | some (.str x)=>x | _=>""
theorem Zn1 {D:Nat}{kvs:List (Key×V)}(hw:Rws D kvs){k:Int}(h : .inl k∈kvs.map (·.1)):Zcf kvs (.inl k)=some (.str (Zlk kvs k)):=by
 obtain⟨p,hp,e⟩:=List.mem_map.mp h;obtain⟨i,x,rfl,_,_⟩:=hw.all p hp;have e1:(Sum.inl i:Key) = .inl k:=e;cases e1
 have z:=Zkt hw.nd hp;unfold Zlk;rw[z]
theorem Zpc {D:Nat}{kvs:List (Key×V)}(hw:Rws D kvs){ks:List Int}(hp:ks.Perm (kvs.map fun q=>Zga q.1))(hs:ks.Pairwise (· < ·)):SrtOf kvs (ks.map fun k=>(k,Zlk kvs k)):=by
 refine⟨?_,?_⟩
 . have e:(ks.map fun k=>(k,Zlk kvs k)).map (·.1)=ks:=by rw[Xbt];exact(List.map_congr_left (fun _ _=>rfl)).trans (List.map_id _)
   rw[e];exact hs
 . rw[Xbt];refine(hp.map _).trans (List.Perm.of_eq ?_);rw[Xbt];apply List.map_congr_left
   intro q hq;obtain⟨i,x,rfl,_,_⟩:=hw.all q hq;show(i,V.str (Zlk kvs i))=(i,V.str x);have z:=Zkt hw.nd hq;unfold Zlk;rw[z]
theorem Zpp {D:Nat}{kvs:List (Key×V)}(hw:Rws D kvs){ks:List Int}(hp:ks.Perm (kvs.map fun q=>Zga q.1)){k:Int}(h:k∈ks) : .inl k∈kvs.map (·.1):=by
 obtain⟨q,hq,e⟩:=List.mem_map.mp (hp.mem_iff.mp h);obtain⟨i,x,rfl,_,_⟩:=hw.all q hq;have e:i=k:=e;subst e;exact List.mem_map.mpr ⟨_,hq,rfl⟩
theorem Zv1 {k:Int}(h:0<=k)(D:Nat):(((Builtin.Int.intBits k:Nat):Int)<=(D:Int))↔k<2 ^ D:=by
 have hp:=Nat.one_le_two_pow (n:=D);unfold Builtin.Int.intBits;rw[two_pow_cast];by_cases e:k=0
 . subst e;rw[show((0:Int) == 0)=true from rfl,if_pos rfl];omega
 . rw[show(k == 0)=false from beq_eq_false_iff_ne.mpr e,if_neg Xap];have z:=Nat.log2_lt (n:=k.natAbs) (k:=D) om;omega
theorem xor1 {k:Int}{D:Nat}(hD:1<=D)(h0:0<=k)(h1:k<2 ^ D):0<=Builtin.bitXor k 1/\Builtin.bitXor k 1<2 ^ D:=by
 rw[bitXor_and,bitAnd_m1];obtain⟨d,rfl⟩:∃ d,D=d+1:=⟨D - 1,om⟩
 rw[Int.pow_succ] at h1 ⊢;have:=two_pow_nn d;omega
theorem Zft {a b z:Str}{x y c:Addr}(hab:(a == b)=false)(h:List.lookup z [(a,x),(b,y)]=some c):List.lookup z [(b,y),(a,x)]=some c:=by
 rw[List.lookup_cons] at h ⊢;cases e:z == a with
 | true=>
  rw[e] at h;have ez:z=a:=eq_of_beq e;subst ez;rw[hab];simpa using h
 | false=>
  rw[e] at h;rw[List.lookup_cons] at h;cases e2:z == b with
  | true=>rw[e2] at h;exact h
  | false=>rw[e2] at h;cases h
theorem Zya (ac:List Rw)(b:Nat)(k:Int):(ac.filter fun r=>!decide (Zbc r.1 b=Zbc k b))=prt ac b (1 - Zbc k b):=by
 unfold prt;apply List.filter_congr
 intro r _;have h1:=Zed r.1 b;have h2:=Zed k b;by_cases e:Zbc r.1 b=Zbc k b
 . rw[Xah e,Xag om];rfl
 . rw[Xag e,Xah om];rfl
theorem Za4 {N:List Str}{qual:Str}{scope:Scope}{f:Addr}{cd:Value}{A:Around}{outer:List Env}{s:Shared}{H:Hp}{E:XK} :
 Zbu (CXB P w) (Zc1 (CXB P w) P w K mg base N qual scope f cd A outer s H E) E:=by
 intro aa σ H1 s1 ev s2 I hq;obtain⟨ea,t,C,B,H2,rfl,F,q⟩:=hq;have F:Fly P w (envOfC qual scope s.heap.objs.size f cd :: outer) H1 H2 s1 C ea t B s2:=F;have hsub:∀ b∈frs outer,b∈frs (envOfC qual scope s.heap.objs.size f cd :: outer):=fun b hb=>Xal _ hb;have hnew:∀ b o,s.heap.get? b=some o->b∉frs outer->b∉frs (envOfC qual scope s.heap.objs.size f cd :: outer):=fun b o e n z=>by
  rcases List.mem_cons.mp (show b∈s.heap.objs.size :: frs outer from z) with z | z
  . exact absurd (Xai e) (by rw[z];exact Xbl _)
  . exact n z
 have noex:∀ b:Addr,b∉(Zc1 (CXB P w) P w K mg base N qual scope f cd A outer s H E).ex:=fun b z=>absurd (show b∈([]:List Addr) from z) (by simp);refine wpAny_leaves_onW (base:=B) (env:=envOfC qual scope s.heap.objs.size f cd) (outer:=outer) (L:=s.heap.objs.size) I.ok.frames rfl F.fly fun h2 fly up=>?_;have old:∀ b o,s.heap.get? b=some o->H b=none->b∉frs outer->B.get? b=some o:=fun b o e n nf=>
  F.old b o (I.base.keep b o e n nf (noex b)) (I.base.free b o e n (noex b)) (hnew b o e nf)
 have slot:∀ b o,s.heap.get? b=some o->H b=none->b∈frs outer->∃ sl,h2.get? b=some { o with slots:=sl }:=fun b o e hn hb=>by
  obtain⟨sl,e1⟩:=I.base.slot b o e hn hb (noex b);obtain⟨sl2,e2⟩:=F.un.slot b _ e1 (I.base.free b o e hn (noex b)) (hsub b hb) (by simp);obtain⟨_,o2,e3,d3⟩:=I.ok.funs.mem hb;have e3':s.heap.get? b=some o2:=e3;rw[e] at e3';cases e3';obtain⟨sl3,e4⟩:=up b _ e2 d3;exact⟨sl3,e4⟩
 have all:∀ b o,s.heap.get? b=some o->b∈frs outer\/∃ o',B.get? b=some o':=fun b o e=>by
  obtain⟨o',e1⟩:=I.base.there b o e (noex b);rcases F.all b o' e1 with z | z
  . by_cases hb:b∈frs outer
    . exact .inl hb
    . exact absurd z (hnew b o e hb)
  . exact .inr z
 have stay:∀ b u,H2 b=some u->∀ o,s2.heap.get? b=some o->h2.get? b=some o:=fun b u z o zo=>fly.1 _ _ ((F.trk b u z).2 o zo);refine⟨ea,t,C,B,H2,rfl,⟨F.os.trans I.os,F.bare,fly,⟨fun b o e n nf _=>fly.1 _ _ (old b o e n nf),fun b o e n hb _=>slot b o e n hb,fun b o e n _=>?_,fun b o e _=>?_,fun b xs e=>F.un.tups b xs (I.base.tups b xs e),fun b o u e=>F.un.frzs b o u (I.base.frzs b o u e),fun b ps e=>?_⟩,fun a u z=>?_,old,fun b u z=>⟨fun y=>(F.trk b u z).1 (hsub b y),fun o zo=>?_⟩,all⟩,q⟩
 . obtain⟨o',e1⟩:=I.base.there b o e (noex b);exact F.un.free b o' e1 (I.base.free b o e n (noex b)) (by simp)
 . rcases all b o e with hb | ⟨o',z⟩
   . obtain⟨sl,z⟩:=slot b o e (I.ok.frf b hb) hb;exact⟨_,z⟩
   . exact⟨o',fly.1 _ _ z⟩
 . obtain⟨m1,e1⟩:=I.base.tbls b ps e;obtain⟨m2,e2⟩:=F.un.tbls b _ e1;exact⟨m1++m2,by rw[<- Array.append_assoc];exact e2⟩
 . refine(F.hok a u z).stay (fun b v hb hv=>?_) (fun _ y=>y) fun _ _ y=>y;rcases hb with rfl | hb
   . exact stay _ _ z _ hv
   . exact stay _ _ hb _ hv
 . obtain⟨o',e1⟩:=(F.hok b u z).there;have e2:=(F.trk b u z).2 _ e1;have e3:=fly.1 _ _ e2;rw[zo] at e3;cases e3;exact e2
def MtX (P:Program)(w:World)(K:W.Frag)(mg:Str->Option Value)(base:Heap)(C:Addr)(k:Nat)(m:Str)(ps:List Str)(sp:Sp):Prop:=∃ f fd,Zmq K C m f/\Binds K fd ps []/\FnOk P w K mg base (CXB P w) k f fd ps sp
section
variable {C:Addr}
theorem MethAt.okX {m qual:Str}{st:Stmt}{N ps:List Str}{k:Nat}{sp:Sp}(F:MethAt K C m qual st)(S:Zak N ps (Zad st))
 (hb:∀ (kV doc pm:Value)(an:Option Addr)(ad ct:Value)(us:List Value),us.length=ps.length->bindArgs (W.fnOf m qual (Za3 st) (Zaq st) (Zad st) .none kV doc pm an ad ct) ⟨us,[]⟩=pure (ps.zip us))
 (len:∀ vs H Q E,sp vs H Q E->vs.length=ps.length)
 (ah:∀ (f:Addr)(ad:Value)(A:Around)(outer:List Env)(s:Shared)(H:Hp)(vs:List V)(Q:VK)(E:XK),Room k (A.deeper (envOfC qual (Zad st) s.heap.objs.size f ad))->sp vs H Q E->
  ∃ t,PSs (Zc1 (CXB P w) P w K mg base N qual (Zad st) f ad A outer s H E) (Zaq st) t/\t { nx:=fun _ H'=>Q .non H',rt:=Q } (Zce N vs) H):MtX P w K mg base C (k+1) m ps sp:=by
 obtain⟨f,fd,h1,F⟩:=F;refine⟨f,fd,h1,F.binds hb,?_⟩;obtain⟨oc,od,kV,doc,pm,an,ad,ct,osl,rfl,lk,hcd⟩:=F.ex;exact Zhf lk hcd S len fun A outer s H vs Q E hr hsp=>ah f ad A outer s H vs Q E hr hsp
end
section
variable {X:Cx}{C:Addr}{k:Nat}{ps:List Str}{sp:Sp}{m x:Str}{o e:Expr}{es:List Expr}{ta:TE}{t:TA}{p ae pos:Pos}{E:XK}
theorem Ze7 (F:FnX X.prog X.w X.K X.mg X.base k x ps sp)(hr:Room k X.A)(hg:Gl X x)(hx:Zbu (CXB X.prog X.w) X E)(ha:PA X (e :: es) t)(hdb:NDa x:=by decide)
 (he:SEa X e es:=by rfl)(hpl:SPa X es pos:=by rfl):PE X (.Call (.Name x p) (e :: es) [] pos) (Zl5 sp [] E t):=by
 obtain⟨f,fd,h1,h2,h3,h4,_⟩:=F;exact Zj0 h4 hr hg h1 h2 h3 .nil hx ha hdb he hpl
theorem Zbf {pl:Sem Bool}(F:MtX X.prog X.w X.K X.mg X.base C k m ps sp)(he:PE X o ta)(c:Cls X.K C)(hr:Room k X.A)(hx:Zbu (CXB X.prog X.w) X E)(ha:PA X (e :: es) t)
 (hst:SEa X e es:=by rfl)(hpl:SPa X es pos:=by rfl)
 (ht:MCa X o m (e :: es) pl ae pos:=by rfl) :
 PE X (.Call (.Attribute o m ae) (e :: es) [] pos) (Zge C m sp [] E ta t):=by
 obtain⟨f,fd,h1,h3,h4⟩:=F;exact Zf5 he c h1 h4 hr h3 .nil hx ha hst hpl ht
end
def Zlx (H:Hp)(x:V):Prop:=∃ a xs,x = .ref a/\H a=some (.tup xs)
def Zmu (H:Hp)(x:V):Prop:=∃ a xs,x = .ref a/\H a=some (.lst xs)
def EqB0 (H:Hp)(x y:V)(b:Bool):Prop:=
 (Zd4 x=true/\Zd4 y=true/\b=eqV x y)\/(b=false/\((Zd4 x=true/\(Zlx H y\/Zmu H y))\/((Zlx H x\/Zmu H x)/\Zd4 y=true)\/(Zlx H x/\Zmu H y)\/(Zmu H x/\Zlx H y)))
def EqB (H:Hp):Nat->V->V->Bool->Prop
 | 0,x,y,b=>EqB0 H x y b
 | n+1,x,y,b=>EqB0 H x y b\/
  (∃ a c xs ys,∃ e:Nat->Bool,x = .ref a/\y = .ref c/\H a=some (.tup xs)/\H c=some (.tup ys)/\(∀ (i:Nat) u v,xs[i]? = some u->ys[i]? = some v->EqB H n u v (e i))/\b=((List.range (min xs.length ys.length)).all e && xs.length == ys.length))\/
  (∃ a c xs ys,∃ e:Nat->Bool,x = .ref a/\y = .ref c/\H a=some (.lst xs)/\H c=some (.lst ys)/\(∀ (i:Nat) u v,xs[i]? = some u->ys[i]? = some v->EqB H n u v (e i))/\b=(xs.length == ys.length && (List.range xs.length).all e))
theorem EqB.bas {H:Hp}{x y:V}{b:Bool}(h:EqB0 H x y b):∀ n,EqB H n x y b
 | 0=>h
 | _+1=>.inl h
theorem EqB.up {H:Hp}:∀ {n m:Nat}{x y:V}{b:Bool},n<=m->EqB H n x y b->EqB H m x y b
 | 0,m,x,y,b,_,h=>EqB.bas h m
 | n+1,0,_,_,_,h,_=>by omega
 | n+1,m+1,x,y,b,h,q=>by
  rcases q with q | ⟨a,c,xs,ys,e,e1,e2,e3,e4,e5,e6⟩ | ⟨a,c,xs,ys,e,e1,e2,e3,e4,e5,e6⟩
  . exact .inl q
  . exact .inr (.inl ⟨a,c,xs,ys,e,e1,e2,e3,e4,fun i u v h1 h2=>EqB.up (Nat.le_of_succ_le_succ h) (e5 i u v h1 h2),e6⟩)
  . exact .inr (.inr ⟨a,c,xs,ys,e,e1,e2,e3,e4,fun i u v h1 h2=>EqB.up (Nat.le_of_succ_le_succ h) (e5 i u v h1 h2),e6⟩)
theorem EqB0.self {H:Hp}{x:V}{b:Bool}(h:EqB0 H x x b):b=true:=by
 have no:∀ {x:V},Zd4 x=true->(Zlx H x\/Zmu H x)->False:=fun {x} f q=>by
  rcases q with⟨a,xs,rfl,_⟩ | ⟨a,xs,rfl,_⟩ <;> cases f
 have no2:Zlx H x->Zmu H x->False:=fun⟨a,xs,e1,e2⟩ ⟨c,ys,e3,e4⟩=>by
  rw[e1] at e3;cases e3;rw[e2] at e4;cases e4
 rcases h with⟨f,_,rfl⟩ | ⟨_,⟨f,q⟩ | ⟨q,f⟩ | ⟨q,p⟩ | ⟨p,q⟩⟩
 . exact Zb4 f
 . exact(no f q).elim
 . exact(no f q).elim
 . exact(no2 q p).elim
 . exact(no2 q p).elim
theorem EqB.self {H:Hp}:∀ {n:Nat}{x:V}{b:Bool},EqB H n x x b->b=true
 | 0,x,b,h=>EqB0.self h
 | n+1,x,b,h=>by
  rcases h with h | ⟨a,c,xs,ys,e,e1,e2,e3,e4,e5,rfl⟩ | ⟨a,c,xs,ys,e,e1,e2,e3,e4,e5,rfl⟩
  . exact EqB0.self h
  . rw[e1] at e2;cases e2;rw[e3] at e4;cases e4;have:(List.range (min xs.length xs.length)).all e=true:=by
     rw[List.all_eq_true];intro i hi;have hi:i<xs.length:=by simpa using hi
     exact EqB.self (e5 i xs[i] xs[i] (Xab hi) (Xab hi))
    rw[this];simp
  . rw[e1] at e2;cases e2;rw[e3] at e4;cases e4;have:(List.range xs.length).all e=true:=by
     rw[List.all_eq_true];intro i hi;have hi:i<xs.length:=by simpa using hi
     exact EqB.self (e5 i xs[i] xs[i] (Xab hi) (Xab hi))
    rw[this];simp
section
variable {X:Cx}
theorem Inv.tupV {aa:List (Addr×Obj)}{σ:St}{H:Hp}{s:Shared}{a:Addr}{xs:List V}(I:Inv X aa σ H s)(h:H a=some (.tup xs)):∃ its,Vals xs its/\s.heap.IsTuple a its.toArray:=by
 obtain⟨_,its,r,p⟩:=I.hok _ _ h;exact⟨its,r,p⟩
theorem Inv.lstV {aa:List (Addr×Obj)}{σ:St}{H:Hp}{s:Shared}{a:Addr}{xs:List V}(I:Inv X aa σ H s)(h:H a=some (.lst xs)):∃ its,Vals xs its/\s.heap.IsList a its.toArray:=by
 obtain⟨its,r,p,_⟩:=I.list (SqL.of h);exact⟨its,r,p.isList⟩
theorem Zog {aa:List (Addr×Obj)}{σ:St}{H:Hp}{s:Shared}{A:Around}{x y:V}{u v:Value}{b:Bool}(I:Inv X aa σ H s)(h:EqB0 H x y b)(rx:RelV x u)(ry:RelV y v)(hu:A.units<cLine):SeqAt.EqAt A s u v b:=by
 rcases h with⟨f,g,rfl⟩ | ⟨rfl,⟨f,⟨a,xs,rfl,e⟩ | ⟨a,xs,rfl,e⟩⟩ | ⟨⟨a,xs,rfl,e⟩ | ⟨a,xs,rfl,e⟩,f⟩ | ⟨⟨a,xs,rfl,e⟩,⟨c,ys,rfl,e2⟩⟩ | ⟨⟨a,xs,rfl,e⟩,⟨c,ys,rfl,e2⟩⟩⟩
 . exact Zo6 rx ry f g
 . obtain rfl:v=Value.ref a:=ry;obtain⟨its,_,p⟩:=I.tupV e;cases x with
   | non=>cases rx;exact SeqAt.EqAt.none_tuple p hu
   | bl b=>cases rx;exact SeqAt.EqAt.bool_tuple b p hu
   | int i=>obtain⟨t,rfl⟩:=rx;exact SeqAt.EqAt.int_tuple i t p hu
   | str z=>obtain⟨t,rfl⟩:=rx;exact SeqAt.EqAt.str_tuple z t p hu
   | _=>cases f
 . obtain rfl:v=Value.ref a:=ry;obtain⟨its,_,p⟩:=I.lstV e;cases x with
   | non=>cases rx;exact SeqAt.EqAt.none_list p hu
   | bl b=>cases rx;exact SeqAt.EqAt.bool_list b p hu
   | int i=>obtain⟨t,rfl⟩:=rx;exact SeqAt.EqAt.int_list i t p hu
   | str z=>obtain⟨t,rfl⟩:=rx;exact SeqAt.EqAt.str_list z t p hu
   | _=>cases f
 . obtain rfl:u=Value.ref a:=rx;obtain⟨its,_,p⟩:=I.tupV e;cases y with
   | non=>cases ry;exact SeqAt.EqAt.tuple_none p hu
   | bl b=>cases ry;exact SeqAt.EqAt.tuple_bool b p hu
   | int i=>obtain⟨t,rfl⟩:=ry;exact SeqAt.EqAt.tuple_int i t p hu
   | str z=>obtain⟨t,rfl⟩:=ry;exact SeqAt.EqAt.tuple_str z t p hu
   | _=>cases f
 . obtain rfl:u=Value.ref a:=rx;obtain⟨its,_,p⟩:=I.lstV e;cases y with
   | non=>cases ry;exact SeqAt.EqAt.list_none p hu
   | bl b=>cases ry;exact SeqAt.EqAt.list_bool b p hu
   | int i=>obtain⟨t,rfl⟩:=ry;exact SeqAt.EqAt.list_int i t p hu
   | str z=>obtain⟨t,rfl⟩:=ry;exact SeqAt.EqAt.list_str z t p hu
   | _=>cases f
 . obtain rfl:u=Value.ref a:=rx;obtain rfl:v=Value.ref c:=ry;obtain⟨its,_,p⟩:=I.tupV e;obtain⟨its2,_,p2⟩:=I.lstV e2;exact SeqAt.EqAt.tuple_list p p2 hu
 . obtain rfl:u=Value.ref a:=rx;obtain rfl:v=Value.ref c:=ry;obtain⟨its,_,p⟩:=I.lstV e;obtain⟨its2,_,p2⟩:=I.tupV e2;exact SeqAt.EqAt.list_tuple p p2 hu
theorem Zk7 {aa:List (Addr×Obj)}{σ:St}{H:Hp}{s:Shared}(I:Inv X aa σ H s):∀ (n:Nat)(x y:V)(u v:Value)(b:Bool)(A:Around),EqB H n x y b->RelV x u->RelV y v->A.units+n<cLine->SeqAt.EqAt A s u v b
 | 0,x,y,u,v,b,A,h,rx,ry,hu=>Zog I h rx ry om
 | n+1,x,y,u,v,b,A,h,rx,ry,hu=>by
  rcases id h with h | ⟨a,c,xs,ys,e,rfl,rfl,ha,hc,hi,eb⟩ | ⟨a,c,xs,ys,e,rfl,rfl,ha,hc,hi,eb⟩
  . exact Zog I h rx ry om
  . obtain rfl:u=Value.ref a:=rx;obtain rfl:v=Value.ref c:=ry;by_cases hac:a=c
    . subst hac;rw[EqB.self h];exact SeqAt.EqAt.same _
    obtain⟨its,r,pa⟩:=I.tupV ha;obtain⟨its2,r2,pb⟩:=I.tupV hc;have q:=SeqAt.RcAt.tuples (A:=A) (s:=s) (e:=e) pa pb om fun j h1 h2=>by
     obtain⟨x1,e1,q1⟩:=r.at h1;obtain⟨y1,e2,q2⟩:=r2.at h2;exact Zk7 I n x1 y1 _ _ _ A.in1 (hi j x1 y1 e1 e2) q1 q2 (by show A.units+1+n<cLine;omega)
    have l1:=r.length;have l2:=r2.length
    rw[Xar,Xar,<- l1,<- l2,<- eb] at q;exact SeqAt.EqAt.of_refs hac q
  . obtain rfl:u=Value.ref a:=rx;obtain rfl:v=Value.ref c:=ry;by_cases hac:a=c
    . subst hac;rw[EqB.self h];exact SeqAt.EqAt.same _
    obtain⟨its,r,pa⟩:=I.lstV ha;obtain⟨its2,r2,pb⟩:=I.lstV hc;have l1:=r.length;have l2:=r2.length
    by_cases hl:xs.length=ys.length
    . have q:=SeqAt.RcAt.lists (A:=A) (s:=s) (e:=e) pa pb (by simp;omega) om fun j h1 h2=>by
       obtain⟨x1,e1,q1⟩:=r.at h1;obtain⟨y1,e2,q2⟩:=r2.at h2;exact Zk7 I n x1 y1 _ _ _ A.in1 (hi j x1 y1 e1 e2) q1 q2 (by show A.units+1+n<cLine;omega)
      rw[Xar,<- l1] at q;have eb':b=(List.range xs.length).all e:=by rw[eb,show(xs.length == ys.length)=true from by simpa using hl,Bool.true_and]
      rw[<- eb'] at q;exact SeqAt.EqAt.of_refs hac q
    . have eb':b=false:=by rw[eb,show(xs.length == ys.length)=false from by simpa using hl,Bool.false_and]
      subst eb';exact SeqAt.EqAt.of_refs hac (SeqAt.RcAt.lists_lengths pa pb (by simp;omega) om)
theorem Zye {A:Around}{s:Shared}{x y:V}{u v:Value}(rx:RelV x u)(ry:RelV y v)(fx:Zd4 x=true)(fy:Zd4 y=true):SeqAt.RcNeAt A s u v (!eqV x y):=by
 cases x with
 | non=>
  cases rx
  cases y with
  | non=>cases ry;exact SeqAt.RcNeAt.none_none
  | bl b=>cases ry;exact SeqAt.RcNeAt.none_bool b
  | int i=>obtain⟨t,rfl⟩:=ry;exact SeqAt.RcNeAt.none_int i t
  | str z=>obtain⟨t,rfl⟩:=ry;exact SeqAt.RcNeAt.none_str z t
  | _=>cases fy
 | bl a=>
  cases rx
  cases y with
  | non=>cases ry;exact SeqAt.RcNeAt.bool_none a
  | bl b=>cases ry;exact SeqAt.RcNeAt.bool_bool a b
  | int i=>obtain⟨t,rfl⟩:=ry;exact SeqAt.RcNeAt.bool_int a i t
  | str z=>obtain⟨t,rfl⟩:=ry;exact SeqAt.RcNeAt.bool_str a z t
  | _=>cases fy
 | int a=>
  obtain⟨ta,rfl⟩:=rx;cases y with
  | non=>cases ry;exact SeqAt.RcNeAt.int_none a ta
  | bl b=>cases ry;exact SeqAt.RcNeAt.int_bool a ta b
  | int i=>obtain⟨t,rfl⟩:=ry;exact SeqAt.RcNeAt.int_int a ta i t
  | str z=>obtain⟨t,rfl⟩:=ry;exact SeqAt.RcNeAt.int_str a ta z t
  | _=>cases fy
 | str a=>
  obtain⟨ta,rfl⟩:=rx;cases y with
  | non=>cases ry;exact SeqAt.RcNeAt.str_none a ta
  | bl b=>cases ry;exact SeqAt.RcNeAt.str_bool a ta b
  | int i=>obtain⟨t,rfl⟩:=ry;exact SeqAt.RcNeAt.str_int a ta i t
  | str z=>obtain⟨t,rfl⟩:=ry;exact SeqAt.RcNeAt.str_str a ta z t
  | _=>cases fy
 | _=>cases fx
theorem Zor {aa:List (Addr×Obj)}{σ:St}{H:Hp}{s:Shared}{A:Around}{x y:V}{u v:Value}{b:Bool}(I:Inv X aa σ H s)(h:EqB0 H x y b)(rx:RelV x u)(ry:RelV y v)(hu:A.units<cLine):SeqAt.RcNeAt A s u v (!b):=by
 rcases h with⟨f,g,rfl⟩ | ⟨rfl,⟨f,⟨a,xs,rfl,e⟩ | ⟨a,xs,rfl,e⟩⟩ | ⟨⟨a,xs,rfl,e⟩ | ⟨a,xs,rfl,e⟩,f⟩ | ⟨⟨a,xs,rfl,e⟩,⟨c,ys,rfl,e2⟩⟩ | ⟨⟨a,xs,rfl,e⟩,⟨c,ys,rfl,e2⟩⟩⟩
 . exact Zye rx ry f g
 . obtain rfl:v=Value.ref a:=ry;obtain⟨its,_,p⟩:=I.tupV e;cases x with
   | non=>cases rx;exact SeqAt.RcNeAt.none_tuple p hu
   | bl b=>cases rx;exact SeqAt.RcNeAt.bool_tuple b p hu
   | int i=>obtain⟨t,rfl⟩:=rx;exact SeqAt.RcNeAt.int_tuple i t p hu
   | str z=>obtain⟨t,rfl⟩:=rx;exact SeqAt.RcNeAt.str_tuple z t p hu
   | _=>cases f
 . obtain rfl:v=Value.ref a:=ry;obtain⟨its,_,p⟩:=I.lstV e;cases x with
   | non=>cases rx;exact SeqAt.RcNeAt.none_list p hu
   | bl b=>cases rx;exact SeqAt.RcNeAt.bool_list b p hu
   | int i=>obtain⟨t,rfl⟩:=rx;exact SeqAt.RcNeAt.int_list i t p hu
   | str z=>obtain⟨t,rfl⟩:=rx;exact SeqAt.RcNeAt.str_list z t p hu
   | _=>cases f
 . obtain rfl:u=Value.ref a:=rx;obtain⟨its,_,p⟩:=I.tupV e;cases y with
   | non=>cases ry;exact SeqAt.RcNeAt.tuple_none p hu
   | bl b=>cases ry;exact SeqAt.RcNeAt.tuple_bool b p hu
   | int i=>obtain⟨t,rfl⟩:=ry;exact SeqAt.RcNeAt.tuple_int i t p hu
   | str z=>obtain⟨t,rfl⟩:=ry;exact SeqAt.RcNeAt.tuple_str z t p hu
   | _=>cases f
 . obtain rfl:u=Value.ref a:=rx;obtain⟨its,_,p⟩:=I.lstV e;cases y with
   | non=>cases ry;exact SeqAt.RcNeAt.list_none p hu
   | bl b=>cases ry;exact SeqAt.RcNeAt.list_bool b p hu
   | int i=>obtain⟨t,rfl⟩:=ry;exact SeqAt.RcNeAt.list_int i t p hu
   | str z=>obtain⟨t,rfl⟩:=ry;exact SeqAt.RcNeAt.list_str z t p hu
   | _=>cases f
 . obtain rfl:u=Value.ref a:=rx;obtain rfl:v=Value.ref c:=ry;obtain⟨its,_,p⟩:=I.tupV e;obtain⟨its2,_,p2⟩:=I.lstV e2;exact SeqAt.RcNeAt.tuple_list p p2 hu
 . obtain rfl:u=Value.ref a:=rx;obtain rfl:v=Value.ref c:=ry;obtain⟨its,_,p⟩:=I.lstV e;obtain⟨its2,_,p2⟩:=I.tupV e2;exact SeqAt.RcNeAt.list_tuple p p2 hu
theorem Zni:OpR X (compareOp .NotEq) (fun x y H Q=>∃ n b,EqB H n x y b/\X.A.units+n+1<cLine/\Q (.bl !b) H):=by
 intro aa s σ H x y v u Q I rx ry h;obtain⟨n,b,h,hu,q⟩:=h;have done:SeqAt.RcNeAt X.A s v u (!b)->wpAny (model X.prog X.w) X.A (compareOp .NotEq v u) (EP X aa σ Q) X.xe s:=fun z=>z X.prog X.w X.xe _ ⟨.bl !b,H,I,rfl,q⟩;cases n with
 | zero=>exact done (Zor I h rx ry om)
 | succ n=>
  rcases id h with h | ⟨a,c,xs,ys,e,rfl,rfl,ha,hc,hi,eb⟩ | ⟨a,c,xs,ys,e,rfl,rfl,ha,hc,hi,eb⟩
  . exact done (Zor I h rx ry om)
  . obtain rfl:v=Value.ref a:=rx;obtain rfl:u=Value.ref c:=ry;obtain⟨its,r,pa⟩:=I.tupV ha;obtain⟨its2,r2,pb⟩:=I.tupV hc;have z:=SeqAt.RcNeAt.tuples (A:=X.A) (s:=s) (e:=e) pa pb om fun j h1 h2=>by
     obtain⟨x1,e1,q1⟩:=r.at h1;obtain⟨y1,e2,q2⟩:=r2.at h2;exact Zk7 I n x1 y1 _ _ _ X.A.in1 (hi j x1 y1 e1 e2) q1 q2 (by show X.A.units+1+n<cLine;omega)
    have l1:=r.length;have l2:=r2.length
    rw[Xar,Xar,<- l1,<- l2,<- eb] at z;exact done z
  . obtain rfl:v=Value.ref a:=rx;obtain rfl:u=Value.ref c:=ry;obtain⟨its,r,pa⟩:=I.lstV ha;obtain⟨its2,r2,pb⟩:=I.lstV hc;have l1:=r.length;have l2:=r2.length
    by_cases hl:xs.length=ys.length
    . have z:=SeqAt.RcNeAt.lists (A:=X.A) (s:=s) (e:=e) pa pb (by simp;omega) om fun j h1 h2=>by
       obtain⟨x1,e1,q1⟩:=r.at h1;obtain⟨y1,e2,q2⟩:=r2.at h2;exact Zk7 I n x1 y1 _ _ _ X.A.in1 (hi j x1 y1 e1 e2) q1 q2 (by show X.A.units+1+n<cLine;omega)
      rw[Xar,<- l1] at z;have eb':b=(List.range xs.length).all e:=by rw[eb,show(xs.length == ys.length)=true from by simpa using hl,Bool.true_and]
      rw[<- eb'] at z;exact done z
    . have eb':b=false:=by rw[eb,show(xs.length == ys.length)=false from by simpa using hl,Bool.false_and]
      subst eb';exact done (SeqAt.RcNeAt.lists_lengths pa pb (by simp;omega) om)
end
deriving instance DecidableEq for Tm
inductive Srt where
 | int | str | nd
end L2
namespace Gb
section
variable {α:Type}(pr:α->α->α)
end
end Gb
namespace Gb
section
variable {α:Type}(nl:α)(pr:α->α->α)
def Sub (ts sub:List α):Prop:=sub.length<=ts.length/\∀ x∈sub,x∈ts
theorem Sub.trans {a b c:List α}(h:Sub a b)(h':Sub b c):Sub a c:=⟨Nat.le_trans h'.1 h.1,fun x hx=>h.2 x (h'.2 x hx)⟩
theorem Sub.take (ts:List α)(k:Nat):Sub ts (ts.take k):=⟨by rw[List.length_take];omega,fun x h=>List.mem_of_mem_take h⟩
theorem Sub.drop (ts:List α)(k:Nat):Sub ts (ts.drop k):=⟨by rw[List.length_drop];omega,fun x h=>List.mem_of_mem_drop h⟩
theorem path_sub:∀ (n:Nat)(ts:List α)(p:Nat),ts.length<=n->∀ t∈pathT nl pr ts p,∃ sub,Sub ts sub/\t=topT nl pr sub
 | n,ts,p,hn,t,ht=>by
  by_cases h2:ts.length<2
  . rw[pathT_few nl pr h2] at ht;cases ht
  have h2':2<=ts.length:=by omega
  have x1:=spl_lt h2';have x2:=spl_pos ts.length;cases n with
  | zero=>omega
  | succ n=>
   by_cases h3:p<spl ts.length
   . rw[pathT_low nl pr h2' h3] at ht;rcases List.mem_append.mp ht with ht | ht
     . obtain⟨sub,h,e⟩:=path_sub n _ p (by simp;omega) t ht;exact⟨sub,(Sub.take ts _).trans h,e⟩
     . exact⟨_,Sub.drop ts _,List.mem_singleton.mp ht⟩
   . rw[pathT_high nl pr h2' h3] at ht;rcases List.mem_append.mp ht with ht | ht
     . obtain⟨sub,h,e⟩:=path_sub n _ (p - spl ts.length) (by simp;omega) t ht;exact⟨sub,(Sub.drop ts _).trans h,e⟩
     . exact⟨_,Sub.take ts _,List.mem_singleton.mp ht⟩
end
end Gb
namespace L2
open PySem PySem.Spec PyProof.Rows
variable {P:Program}{w:World}{K:W.Frag}{mg:Str->Option Value}{base:Heap}
section
variable {prog:Program}{w:World}{A:Around}{E:Value->Shared->Prop}{s:Shared}{R:Result->Shared->Prop}
end
theorem Zp2:∀ {ys:List Str}{its:List Value},Vals (ys.map V.str) its->StrsAre its ys
 | [],_,r=>by cases r;exact .nil
 | y :: ys,_,r=>by
  cases r with
  | cons p r=>obtain⟨t,rfl⟩:=p;exact .cons y t (Zp2 r)
theorem Zju {X:Cx}:MtR X "str.join" (fun x vs H Q=>∃ (z:Str)(p:Addr)(ys:List Str),x = .str z/\vs=[.ref p]/\SqL X.K H p (ys.map V.str)/\(ys.map (·.length)).sum+ys.length * z.length<=16777216/\Q (.str (Txt.join z ys)) H):=by
 intro aa s σ H x vs v us Q I rx rv h;obtain⟨z,p,ys,rfl,rfl,hq,hok,q⟩:=h;obtain⟨t,rfl⟩:=rx;obtain⟨u,rfl,ru⟩:=Zd7 rv;cases ru
 obtain⟨its,r,pl,hz⟩:=I.list hq;exact PyProof.Rows.join_list pl.isList (Zp2 (by simpa using r)) hok fun t' k=>⟨.str _,H,I.tok _,⟨_,rfl⟩,q⟩
theorem Zgi {lo:Int}{n:Nat}{js:List Nat}{te:TE}{σ:St}{H:Hp}{R:Addr->Hp->Prop}(Pv:Addr->Nat->List V->Hp->Prop)(h0:∀ D,H D=none->Pv D 0 [] (upd H D (.lst [])))
 (hs:∀ D (i:Nat) ys H' Qb,H D=none->i<n->Pv D i ys H'->(∀ y H3,H3 D=some (.lst ys)->ys.length<sizeLine->Pv D (i+1) (ys++[y]) (upd H3 D (.lst (ys++[y])))->Qb y H3)->te (some (.int (lo+(i:Nat))) :: Zh3 js σ) H' Qb)
 (hd:∀ D ys H',H D=none->Pv D n ys H'->R D H') :
 ∀ D,H D=none->∃ W:Nat->Nat->List V->Hp->Prop,(∃ m,W 0 m [] (upd H D (.lst [])))/\∀ i m ys H,W i m ys H->
  ((Itr lo n).stop i H/\R D H)\/((Itr lo n).go i H/\∀ x H',(Itr lo n).yld i H x H'->if true=true then te (some x :: Zh3 js σ) H' fun y H3=>H3 D=some (.lst ys)/\ys.length<sizeLine/\∃ m',m'<m/\W (i+1) m' (ys++[y]) (upd H3 D (.lst (ys++[y])))
   else ∃ m',m'<m/\W (i+1) m' ys H'):=by
 intro D hD;refine⟨fun i m ys H'=>m=n - i/\i<=n/\Pv D i ys H',⟨n,by simp,om,h0 D hD⟩,?_⟩;rintro i m ys H' ⟨rfl,hi,hp⟩;by_cases hlt:i<n
 . refine .inr ⟨hlt,fun x H2 ⟨e2,ex⟩=>?_⟩;subst e2 ex;refine Zbz ?_;exact hs D i ys _ _ hD hlt hp fun y H3 a b c=>⟨a,b,n - (i+1),om,rfl,om,c⟩
 . have e:i=n:=by omega
   subst e;exact .inl ⟨Xae _,hd D ys H' hD hp⟩
theorem Zh1 {K:W.Frag}{a:Addr}{xs:List V}{js:List Nat}{te:TE}{σ:St}{H:Hp}{R:Addr->Hp->Prop}(Pv:Addr->Nat->List V->Hp->Prop)(h0:∀ D,H D=none->Pv D 0 [] (upd H D (.lst [])))(hl:∀ D i ys H',H D=none->Pv D i ys H'->SqL K H' a xs)
 (hs:∀ D (i:Nat) x ys H' Qb,H D=none->xs[i]? = some x->Pv D i ys H'->(∀ y H3,H3 D=some (.lst ys)->ys.length<sizeLine->Pv D (i+1) (ys++[y]) (upd H3 D (.lst (ys++[y])))->Qb y H3)->te (some x :: Zh3 js σ) H' Qb)
 (hd:∀ D ys H',H D=none->Pv D xs.length ys H'->R D H') :
 ∀ D,H D=none->∃ W:Nat->Nat->List V->Hp->Prop,(∃ m,W 0 m [] (upd H D (.lst [])))/\∀ i m ys H,W i m ys H->
  ((Itl K a).stop i H/\R D H)\/((Itl K a).go i H/\∀ x H',(Itl K a).yld i H x H'->if true=true then te (some x :: Zh3 js σ) H' fun y H3=>H3 D=some (.lst ys)/\ys.length<sizeLine/\∃ m',m'<m/\W (i+1) m' (ys++[y]) (upd H3 D (.lst (ys++[y])))
   else ∃ m',m'<m/\W (i+1) m' ys H'):=by
 intro D hD;refine⟨fun i m ys H'=>m=xs.length - i/\i<=xs.length/\Pv D i ys H',⟨xs.length,by simp,om,h0 D hD⟩,?_⟩;rintro i m ys H' ⟨rfl,hi,hp⟩;have hq:=hl D i ys H' hD hp;by_cases hlt:i<xs.length
 . refine .inr ⟨⟨_,xs[i],hq,Xab hlt⟩,fun x H2 ⟨e2,hx⟩=>?_⟩;subst e2;have ex:=hx _ hq;refine Zbz ?_;exact hs D i x ys _ _ hD ex hp fun y H3 a b c=>⟨a,b,xs.length - (i+1),om,rfl,om,c⟩
 . have e:i=xs.length:=by omega
   subst e;exact .inl ⟨⟨_,hq,Xae _⟩,hd D ys H' hD hp⟩
theorem Zfq {cl env:List (Str×Addr)}(h:∀ p∈cl,env.lookup p.1=some p.2):∀ z c,cl.lookup z=some c->env.lookup z=some c:=fun z c e=>h (z,c) (Xbg e)
theorem Gr.ext {S:Sl}{H H':Hp}(t:Zgn S H)(h:∀ b o,H b=some o->H' b=some o):Gr S 0 H H':=⟨⟨fun b o e _=>h b o e,fun d e=>by
 obtain⟨kvs,q⟩:=t d e;exact⟨kvs,[],q,by rw[Xba];exact h _ _ q,Xae _,fun z=>by simpa using z⟩⟩,fun b o e _=>h b o e⟩
theorem Zvg {H:Hp}{a b:Addr}{ws:List V}(ha:H a=some (.lst ws))(hb:H b=some (.lst [])):EqB H 1 (.ref a) (.ref b) (decide (ws=[])):=by
 refine .inr (.inr ⟨a,b,ws,[],fun _=>true,rfl,rfl,ha,hb,fun i u v _ h2=>by simp at h2,?_⟩);rw[Zcx,Bool.and_true,Bool.eq_iff_iff];simp
theorem Zr9 {ts:List Tm}{p n B:Nat}(hn:ts.length<=n)(h:∀ t∈ts,t.dep<=B):∀ t∈paT ts p,t.dep<=B+n+1:=fun t ht=>by
 obtain⟨sub,hs,rfl⟩:=Gb.path_sub nlT prT ts.length ts p (Xae _) t ht;exact Zfx n sub B (Xan hs.1 hn) fun x hx=>h x (hs.2 x hx)
theorem Zkd {X:Cx}{C:Addr}{k:Nat}{ps:List Str}{sp:Sp}{x:Str}{p pos:Pos}{e:Expr}{es:List Expr}{t:TA}(M:∃ fI,Mk X.K C fI)(F:MtP X.prog X.w X.K X.mg X.base C k "__init__" ps sp)(hr:Room (k+1) X.A)(hg:Gl X x)(hm:X.mg x=some (.ref C))(ha:PA X (e :: es) t)
 (hdb:NDa x:=by decide)(he:SEa X e es:=by rfl)(hpl:SPa X es pos:=by rfl):PE X (.Call (.Name x p) (e :: es) [] pos) (Zug C sp [] E0 t):=by
 obtain⟨fI,M⟩:=M;obtain⟨f',fd,hm',hb,G⟩:=F;have q:=M.init.symm.trans hm'.at_;cases q
 exact Zg4 M G hr hg hm hb .nil Zb6 ha hdb he hpl
end L2
namespace Gb
section
variable {α:Type}(nl:α)(pr:α->α->α)
end
end Gb
namespace L2
open PySem PySem.Spec PyProof.Rows
variable {P:Program}{w:World}{K:W.Frag}{mg:Str->Option Value}{base:Heap}
noncomputable def Ite (K:W.Frag) (a:Addr):It:=
 ⟨fun i H=>∃ xs x,SqL K H a xs/\xs[i]? = some x,
  fun i H y H'=>∃ p x,y = .ref p/\H p=none/\(∀ xs,SqL K H a xs->xs[i]? = some x)/\H'=upd H p (.tup [.int (i:Nat),x]),
  fun i H=>∃ xs,SqL K H a xs/\xs.length<=i⟩
theorem Zou {P:Program}{w:World}{K:W.Frag}{es:List Expr}{kk:Nat}{tp:Pos}(a e it:Addr)(hne:e≠it) :
 Zx4 P w K (.Tuple es kk tp) (Ite K a) [e,it] e (fun i h=>(∃ old,IsEnum h e it ((i:Nat):Int) old)/\h.IsListIter it a i) where
 mem:=by simp
 obj:=fun i h st c hc=>by
  obtain⟨⟨old,he⟩,⟨o,eo,_,d⟩⟩:=st;simp only[Xbd,Xa0,or_false] at hc;rcases hc with rfl | rfl
  . exact⟨_,he,fun v q=>by cases q⟩
  . exact⟨o,eo,fun v q=>by rw[d] at q;cases q⟩
 keep:=fun i h h' st k=>by
  obtain⟨⟨old,he⟩,hit⟩:=st;exact⟨⟨old,k e (by simp) _ he⟩,hit.at fun o q=>k it (by simp) o q⟩
 item:=by
  intro X hP hw hK hc i aa s σ H E I hf st hg;subst hP hw hK;obtain⟨xs,x,hq,hx⟩:=hg;obtain⟨its,rv,pl,hz⟩:=I.list hq;obtain⟨u,hu,ru⟩:=rv.get hx;obtain⟨⟨old,he⟩,hit⟩:=st;refine wpAny_pyNext_enum_item he hit pl.isList (x:=u) (by simpa using hu) hne fun h1 heo hit1 ht1 hz1 k1=>⟨_,rfl,?_⟩
  refine wpAny_letOwnedTupleGo_enum heo fun h2 he2 sb=>?_;have hp:H s.heap.objs.size=none:=I.hok.fresh (Xae _);have lte:e<s.heap.objs.size:=Xai he;have lti:it<s.heap.objs.size:=by obtain⟨o,eo,_⟩:=hit;exact Xai eo
  have k2:∀ c o,c∉[e,it]->s.heap.get? c=some o->h2.get? c=some o:=fun c o nc q=>by
   simp only[Xbd,Xa0,or_false,not_or] at nc;exact(sb.2 c nc.1).trans (k1 c o nc.1 nc.2 q)
  have pr2:h2.get? s.heap.objs.size=some { cls:=.type "tuple",data:=.seq #[.int (i:Nat) s.toks,u] }:=(sb.2 _ (Nat.ne_of_gt lte)).trans ht1;have nfp:∀ c o,H c=some o->c∉[e,it]:=fun c o q hc=>by rw[(hf c hc).1] at q;cases q
  have hnn:∀ c o,H c=some o->c≠s.heap.objs.size:=fun c o q=>Zac q hp;have I2:Inv X aa σ (upd H s.heap.objs.size (.tup [.int (i:Nat),x])) { s with heap:=h2,toks:=s.toks+1 }:=by
   refine I.call' (s':={ s with heap:=h2,toks:=s.toks+1 }) (ch:=[e,it]) rfl ⟨fun c o q n nf nc=>k2 c o nc q,fun c o q n hc nc=>⟨o.slots,k2 c o nc q⟩,fun c o q n nc=>?_,fun c o q nc=>⟨o,k2 c o nc q⟩,fun c xs q=>?_,fun c o u q=>?_,fun c ps q=>⟨#[],?_⟩⟩ (fun c o q=>?_) I.bare fun c hc=>?_
   . rw[Zaf (Xaw (Xai q))];exact n
   . rw[Zaf (hnn _ _ q)];exact q
   . rw[Zaf (hnn _ _ q)];exact q
   . rw[Zaf (hnn _ _ q),Array.append_empty];exact q
   . by_cases hc:c=s.heap.objs.size
     . subst hc;rw[Zaa] at q;cases q;exact⟨by show(2:Nat)<=_;decide,[.int (i:Nat) s.toks,u],.cons ⟨_,rfl⟩ (.cons ru .nil),_,pr2,rfl,_,rfl⟩
     . rw[Zaf hc] at q;refine(I.hok c o q).stay (fun d w' hd z=>k2 d w' ?_ z) (fun d z=>by rw[Zaf (hnn _ _ z)];exact z) fun d xs z=>by rw[Zaf (hnn _ _ z)];exact z
       rcases hd with rfl | hd
       . exact nfp _ _ q
       . exact nfp _ _ hd
   . obtain⟨f0,f1,f2,f3,f4,f5⟩:=hf c hc;exact⟨f3,f1,f4,f5⟩
  refine⟨.ref s.heap.objs.size,_,I2,rfl,⟨_,x,rfl,hp,fun ys hy=>by rw[I.list_inj hy hq];exact hx,rfl⟩,⟨⟨u,?_⟩,?_⟩,fun c hc=>?_⟩
  . have z:IsEnum h2 e it ((i:Int)+1) u:=he2;rw[show(i:Int)+1=((i+1:Nat):Int) by omega] at z;exact z
  . exact hit1.at fun o q=>(sb.2 _ (Ne.symm hne)).trans q
  . have lt:c<s.heap.objs.size:=by
     simp only[Xbd,Xa0,or_false] at hc;rcases hc with rfl | rfl
     . exact lte
     . exact lti
    rw[Zaf (Xaw lt)];exact(hf c hc).1
 done:=by
  intro X hP hw hK hc i aa s σ H E I hf st hg;subst hP hw hK;obtain⟨xs,hq,hx⟩:=hg;obtain⟨its,rv,pl,hz⟩:=I.list hq;have hl:=rv.length;obtain⟨⟨old,he⟩,hit⟩:=st;obtain⟨f0,f1,f2,f3,f4,f5⟩:=hf it (by simp);exact wpAny_pyNext_enum_end (I.ok.hd hc) he hit pl.isList (by simp;omega) fun h' k=>⟨rfl,I.turned (t':=s.toks) (fun b o hb q=>k b o hb q) f0 f1 f3 f4 f5⟩
 self:=fun _ _ _ _ _ st h=>by
  obtain⟨⟨old,he⟩,_⟩:=st;exact wpAny_pyIter_enum he h
def iEnum (K:W.Frag)(ta:TA):TI:=fun σ H R=>ta σ H fun vs H1=>∃ a xs,vs=[.ref a]/\SqL K H1 a xs/\R (Ite K a) H1
theorem Zt7 {X:Cx}{es:List Expr}{kk:Nat}{tp:Pos}{a:Expr}{ta:TA}{p pos:Pos}(hg:Gl X "enumerate")(hm:X.mg "enumerate" = none)(ha:PA X [a] ta)(hs:starEach [a] X.env=[(false,eval a X.env)]:=by rfl):PI X (.Tuple es kk tp) (.Call (.Name "enumerate" p) [a] [] pos) (iEnum X.K ta):=by
 intro aa s σ H R I h;refine Call_ (Zii I hg hm boot_enumerate (PyProof.Rows.callWith_type1 (thn (ha pos aa s σ H _ I h) fun us s1=>ex5 fun vs H1 I1 r1 q1=>?_) hs rfl));obtain⟨l,xs,e,hq,q⟩:=q1;subst e;cases r1 with
 | cons r rr=>
  cases rr
  cases r
  obtain⟨its,rv,pl,hz⟩:=I1.list hq;refine call_enumerate_list pl.isList fun h' he hit hsz k=>?_;have I2:Inv X aa σ H1 { s1 with heap:=h' }:=I1.kept (t':=s1.toks) k;refine wpAny_pyIter_enum (s:={ s1 with heap:=h' }) he ?_;refine⟨s1.heap.objs.size+1,[s1.heap.objs.size+1,s1.heap.objs.size],_,_,H1,rfl,I2,Zou l _ _ (by show s1.heap.objs.size+1≠s1.heap.objs.size;omega),⟨⟨.none,he⟩,hit⟩,fun b hb=>?_,q⟩;simp only[Xbd,Xa0,or_false] at hb;have fr:∀ c,s1.heap.objs.size<=c->Zo5 X aa H1 c:=fun c hc=>I1.fpOk hc (I1.hok.fresh hc);rcases hb with rfl | rfl
  . exact fr _ (Nat.le_succ _)
  . exact fr _ (Xae _)
theorem Zrz {K:W.Frag}{a:Addr}{xs:List V}{g:TG}{tb:TS}{D:Zex}{σ:St}{H:Hp}(Pv:Nat->St->Hp->Prop)(h0:Pv 0 σ H)(hl:∀ i σ H,i<=xs.length->Pv i σ H->SqL K H a xs)
 (hs:∀ i x p σ H,xs[i]? = some x->H p=none->Pv i σ H->g (.ref p) σ (upd H p (.tup [.int (i:Nat),x])) fun σ2 H2=>tb { D with nx:=Pv (i+1),ct:=Pv (i+1),bk:=D.nx } σ2 H2)(hd:∀ σ H,Pv xs.length σ H->D.nx σ H) :
 ∃ W:Nat->Nat->St->Hp->Prop,(∃ m,W 0 m σ H)/\∀ i m σ H,W i m σ H->
  ((Ite K a).stop i H/\D.nx σ H)\/((Ite K a).go i H/\∃ N:St->Hp->Prop,(∀ σ' H',N σ' H'->∃ m',m'<m/\W (i+1) m' σ' H')/\∀ x H',(Ite K a).yld i H x H'->g x σ H' fun σ2 H2=>tb { D with nx:=N,ct:=N,bk:=D.nx } σ2 H2):=by
 refine⟨fun i m σ H=>m=xs.length - i/\i<=xs.length/\Pv i σ H,⟨xs.length,by simp,Nat.zero_le _,h0⟩,?_⟩;rintro i m σ H ⟨rfl,hi,p⟩;have q:=hl i σ H hi p;by_cases hlt:i<xs.length
 . refine .inr ⟨⟨xs,xs[i],q,Xab hlt⟩,Pv (i+1),fun σ' H' p'=>⟨xs.length - (i+1),om,rfl,hlt,p'⟩,fun y H' ⟨pp,x,e1,e2,e3,e4⟩=>?_⟩;subst e1 e4;exact hs i x pp σ _ (e3 xs q) e2 p
 . have e:i=xs.length:=by omega
   subst e;exact .inl ⟨⟨xs,q,Xae _⟩,hd σ H p⟩
section
variable {X:Cx}
theorem Zl3:MtR X "str.lstrip" (fun x vs H Q=>∃ z y,x = .str z/\vs=[.str y]/\z.length<=sizeLine/\Q (.str (Txt.lstripChars z y)) H):=by
 intro aa s σ H x vs v us Q I rx rv h;obtain⟨z,y,rfl,rfl,hz,q⟩:=h;obtain⟨t,rfl⟩:=rx;obtain⟨u,rfl,t',rfl⟩:=Zd7 rv;exact SC.lstripChars (fun t' k=>⟨.str _,H,I.tok _,⟨_,rfl⟩,q⟩) hz
theorem Zmv:MtR X "str.rstrip" (fun x vs H Q=>∃ z y,x = .str z/\vs=[.str y]/\z.length<=sizeLine/\Q (.str (Txt.rstripChars z y)) H):=by
 intro aa s σ H x vs v us Q I rx rv h;obtain⟨z,y,rfl,rfl,hz,q⟩:=h;obtain⟨t,rfl⟩:=rx;obtain⟨u,rfl,t',rfl⟩:=Zd7 rv;exact SC.rstripChars (fun t' k=>⟨.str _,H,I.tok _,⟨_,rfl⟩,q⟩) hz
theorem Zf3:MtR X "str.startswith" (fun x vs H Q=>∃ z y,x = .str z/\vs=[.str y]/\Q (.bl (Txt.startswith z y)) H):=by
 intro aa s σ H x vs v us Q I rx rv h;obtain⟨z,y,rfl,rfl,q⟩:=h;obtain⟨t,rfl⟩:=rx;obtain⟨u,rfl,t',rfl⟩:=Zd7 rv;exact SC.startswith ⟨.bl _,H,I,rfl,q⟩
theorem Ziy:∀ (l:List (Str×Tok)),Vals (l.map fun p=>V.str p.1) (strValues l)
 | []=>.nil
 | (y,t) :: r=>.cons ⟨t,rfl⟩ (Ziy r)
theorem Zj8:MtR X "str.split" (fun x vs H Q=>∃ z y,x = .str z/\vs=[.str y]/\y.length≠0/\z.length<=sizeLine/\(Txt.split z y).length<=sizeLine/\∀ l,H l=none->Q (.ref l) (upd H l (.lst ((Txt.split z y).map V.str)))):=by
 intro aa s σ H x vs v us Q I rx rv h;obtain⟨z,y,rfl,rfl,hy0,hz,hz2,q⟩:=h;obtain⟨t,rfl⟩:=rx;obtain⟨u,rfl,t',rfl⟩:=Zd7 rv;have hy:(y.length == 0)=false:=by simpa using hy0
 have fin:∀ (l:List (Str×Tok)) (k:Nat),l.map (·.1)=Txt.split z y->EP X aa σ Q (.ref s.heap.objs.size) { s with heap:=s.heap.push { cls:=.type "list",data:=.seq (strValues l).toArray },toks:=k }:=fun l k e=>by
  have ev:(Txt.split z y).map V.str=l.map fun p=>V.str p.1:=by rw[<- e,Xbt];rfl
  refine⟨.ref _,_,I.lnew (t':=k) (ys:=(Txt.split z y).map V.str) (by rw[ev];exact Ziy l) (by rw[Xad];exact hz2),rfl,q _ I.fresh⟩
 cases h1:(decide (z.length<y.length) || decide (Builtin.Str.strKind z<Builtin.Str.strKind y))
 . cases hf:(Builtin.Str.occurrences z y 0 z.length (z.length+1)).isEmpty
   . have es:Txt.split z y=Builtin.Str.partsBetween z (Builtin.Str.occurrences z y 0 z.length (z.length+1)) y.length:=(if_neg (ne_true_of_eq_false h1)).trans (if_neg (ne_true_of_eq_false hf));refine call_meets F.slot_str_split (typeIs_str _ _ _) F.entry_str_split (F.args_str_split_2 _ _) (meets_str_split_sep z y t t' h1 hy hf hz (by rw[<- es];exact hz2)) ?_;rw[strsFrom_eq];exact fin (numbered s.toks (Builtin.Str.partsBetween z (Builtin.Str.occurrences z y 0 z.length (z.length+1)) y.length)) _ ((numbered_texts _ _).trans es.symm)
   . exact call_meets F.slot_str_split (typeIs_str _ _ _) F.entry_str_split (F.args_str_split_2 _ _) (meets_str_split_not_found z y t t' h1 hy hf) (fin [(z,t)] s.toks ((if_neg (ne_true_of_eq_false h1)).trans (if_pos hf)).symm)
 . exact call_meets F.slot_str_split (typeIs_str _ _ _) F.entry_str_split (F.args_str_split_2 _ _) (meets_str_split_cannot_occur z y t t' h1) (fin [(z,t)] s.toks (if_pos h1).symm)
end
structure FunV (K:W.Frag)(x qual:Str)(st:Stmt)(f:Addr)(fd:FuncData)(d:V):Prop where
 ex:∃ (oc:Value) (od:Option Addr) (T:Addr) (kV doc pm:Value) (an:Option Addr) (ad ct:Value) (osl:Array (Option Value)) (oT:Obj) (dv:Value) (n:Nat),
  fd=W.fnOf x qual (Za3 st) (Zaq st) (Zad st) (.ref T) kV doc pm an ad ct/\K.lookup f=some ⟨oc,od,.func fd,osl⟩/\PySem.W.codeIn K ad qual=true/\K.lookup T=some oT/\oT.data = .seq #[dv] n/\RelV d dv
 kp:W.keepIn K (.ref f)=true
def MethV (K:W.Frag)(C:Addr)(m qual:Str)(st:Stmt)(d:V):Prop:=∃ f fd,Zmq K C m f/\FunV K m qual st f fd d
theorem Zee {K:W.Frag}{C:Addr}{m qual:Str}{st:Stmt}{f T:Addr}{oc oc2:Value}{od an od2:Option Addr}{osl osl2:Array (Option Value)}{kV doc pm ad ct dv:Value}{d:V}{n:Nat}(a:W.findIn K (.ref C) m=some (some (.ref f)))(i:PySem.W.isFn K (.ref f)=true)
 (l:K.lookup f=some ⟨oc,od,.func (W.fnOf m qual (Za3 st) (Zaq st) (Zad st) (.ref T) kV doc pm an ad ct),osl⟩)(c:PySem.W.codeIn K ad qual=true)(k:W.keepIn K (.ref f)=true)
 (lT:K.lookup T=some ⟨oc2,od2,.seq #[dv] n,osl2⟩)(r:RelV d dv):MethV K C m qual st d:=
 ⟨f,_,⟨a,i,k⟩,⟨⟨oc,od,T,kV,doc,pm,an,ad,ct,osl,_,dv,n,rfl,l,c,lT,rfl,r⟩,k⟩⟩
section
variable {C:Addr}
def MtD (P:Program)(w:World)(K:W.Frag)(mg:Str->Option Value)(base:Heap)(C:Addr)(k:Nat)(m:Str)(ps:List Str)(sp:Sp)(d:V):Prop:=∃ f fd dv,Zmq K C m f/\Binds K fd ps []/\Binds K fd ps [dv]/\RelV d dv/\FnOk P w K mg base CX0 k f fd ps sp
theorem MtD.full {k:Nat}{m:Str}{ps:List Str}{sp:Sp}{d:V}(F:MtD P w K mg base C k m ps sp d):MtP P w K mg base C k m ps sp:=by
 obtain⟨f,fd,dv,h1,h2,h3,h4,h5⟩:=F;exact⟨f,fd,h1,h2,h5⟩
theorem MethV.ok {m qual:Str}{st:Stmt}{N ps:List Str}{k:Nat}{sp:Sp}{d:V}(F:MethV K C m qual st d)(S:Zak N ps (Zad st))
 (hb:∀ (T:Addr)(kV doc pm:Value)(an:Option Addr)(ad ct dv:Value)(us:List Value),us.length=ps.length->∃ k,bindArgs (W.fnOf m qual (Za3 st) (Zaq st) (Zad st) (.ref T) kV doc pm an ad ct) ⟨us,[]⟩=seqItems? (.ref T) >>= k/\k (some #[dv])=pure (ps.zip us))
 (hb2:∀ (T:Addr)(kV doc pm:Value)(an:Option Addr)(ad ct dv:Value)(us:List Value),us.length+1=ps.length->∃ k,bindArgs (W.fnOf m qual (Za3 st) (Zaq st) (Zad st) (.ref T) kV doc pm an ad ct) ⟨us,[]⟩=seqItems? (.ref T) >>= k/\k (some #[dv])=pure (ps.zip (us++[dv])))
 (len:∀ vs H Q E,sp vs H Q E->vs.length=ps.length)
 (ah:∀ (f:Addr)(ad:Value)(A:Around)(outer:List Env)(s:Shared)(H:Hp)(vs:List V)(Q:VK)(E:XK),Room k (A.deeper (envOfC qual (Zad st) s.heap.objs.size f ad))->sp vs H Q E->
  ∃ t,PSs (Zc1 CX0 P w K mg base N qual (Zad st) f ad A outer s H E).nox (Zaq st) t/\t { nx:=fun _ H'=>Q .non H',rt:=Q } (Zce N vs) H):MtD P w K mg base C (k+1) m ps sp d:=by
 obtain⟨f,fd,h1,F⟩:=F;obtain⟨oc,od,T,kV,doc,pm,an,ad,ct,osl,oT,dv,n,rfl,lk,hcd,lT,hs,r⟩:=F.ex;refine⟨f,_,dv,h1,fun s us KX hl=>?_,fun s us KX hl=>?_,r,Zhf lk hcd S len fun A outer s H vs Q E hr hsp=>?_⟩
 . rw[Xba] at hl ⊢;obtain⟨k,e1,e2⟩:=hb T kV doc pm an ad ct dv us hl;exact BindsTo.of_defaults rfl (KX _ _ lT) hs e1 e2
 . rw[Xay] at hl;obtain⟨k,e1,e2⟩:=hb2 T kV doc pm an ad ct dv us hl;exact BindsTo.of_defaults rfl (KX _ _ lT) hs e1 e2
 . obtain⟨t,h,q⟩:=ah f ad A outer s H vs Q E hr hsp;exact⟨t,h.nox,q⟩
end
theorem Ztd {X:Cx}:SlR X (fun x lo hi H Q=>∃ z,x = .str z/\z.length<=sizeLine/\Q (.str (Txt.slice z lo hi)) H):=by
 intro aa s σ H x v vl vu lo hi sl Q I rx hs pl pu h;obtain⟨z,rfl,hz,q⟩:=h;obtain⟨t,rfl⟩:=rx;refine⟨"str",_,F.slot_str_getitem.lookup,typeIs_str _ _ _,?_⟩;have fin:∀ t' k,EP X aa σ Q (.str (Txt.slice z lo hi) t') { s with toks:=k }:=fun t' k=>⟨.str _,H,I.tok _,⟨_,rfl⟩,q⟩
 cases pl with
 | none=>
  cases pu with
  | none=>exact wpAny_getItem_str_slice (l:=none) (u:=none) (st:=none) hs rfl (post_val_or_str ⟨Xan (Txt.slice_le z none none) hz,fin⟩)
  | int j uj=>exact wpAny_getItem_str_slice (l:=none) (u:=some (j,uj)) (st:=none) hs rfl (post_val_or_str ⟨Xan (Txt.slice_le z none (some j)) hz,fin⟩)
 | int i ui=>
  cases pu with
  | none=>exact wpAny_getItem_str_slice (l:=some (i,ui)) (u:=none) (st:=none) hs rfl (post_val_or_str ⟨Xan (Txt.slice_le z (some i) none) hz,fin⟩)
  | int j uj=>exact wpAny_getItem_str_slice (l:=some (i,ui)) (u:=some (j,uj)) (st:=none) hs rfl (post_val_or_str ⟨Xan (Txt.slice_le z (some i) (some j)) hz,fin⟩)
theorem Zqi {ta tb:TS}{D:Zex}{σ:St}{H:Hp}(R:St->Hp->Prop)(hm:∀ D':Zex,(∀ σ' H',R σ' H'->D'.nx σ' H')->ta D' σ H)(hq:∀ σ' H',R σ' H'->tb D σ' H'):Zx6 ta tb D σ H:=hm _ hq
section
variable {X:Cx}
theorem Inv.tnew {aa:List (Addr×Obj)}{σ:St}{H:Hp}{s:Shared}{ys:List V}{its:List Value}{t':Nat}(I:Inv X aa σ H s)(hv:Vals ys its)(hz:ys.length<=sizeLine) :
 Inv X aa σ (upd H s.heap.objs.size (.tup ys)) { s with heap:=s.heap.push { cls:=.type "tuple",data:=.seq its.toArray },toks:=t' }:=
 I.laid (fun _ _ q=>Xac _ q) (Xae _) ⟨hz,its,hv,⟨_,Xau _ rfl,rfl,_,rfl⟩⟩
theorem Zil:MtR X "str.partition" (fun x vs H Q=>∃ z y,x = .str z/\vs=[.str y]/\y.length≠0/\z.length<=sizeLine/\∀ p,H p=none->Q (.ref p) (upd H p (.tup [.str (Txt.partition z y).1,.str (Txt.partition z y).2.1,.str (Txt.partition z y).2.2]))):=by
 intro aa s σ H x vs v us Q I rx rv h;obtain⟨z,y,rfl,rfl,hy0,hz,q⟩:=h;obtain⟨t,rfl⟩:=rx;obtain⟨u,rfl,t',rfl⟩:=Zd7 rv;have hy:(y.length == 0)=false:=by simpa using hy0
 refine call_meets F.slot_str_partition (typeIs_str _ _ _) F.entry_str_partition (F.args_str_partition_2 _ _) (meets_str_partition z y t t' hy hz) ?_;have q':=q;unfold Txt.partition at q'
 revert q'
 cases Builtin.Str.occurrences z y 0 z.length 1 with
 | nil=>intro q';exact⟨.ref _,_,I.tnew (ys:=[.str _,.str _,.str _]) (.cons ⟨_,rfl⟩ (.cons ⟨_,rfl⟩ (.cons ⟨_,rfl⟩ .nil))) (sl3),rfl,q' _ I.fresh⟩
 | cons i r=>intro q';exact⟨.ref _,_,I.tnew (ys:=[.str _,.str _,.str _]) (.cons ⟨_,rfl⟩ (.cons ⟨_,rfl⟩ (.cons ⟨_,rfl⟩ .nil))) (sl3),rfl,q' _ I.fresh⟩
theorem Zxj:OpR X (compareOp .In) (fun x y H Q=>∃ a b,x = .str a/\y = .str b/\Q (.bl (Txt.contains b a)) H):=by
 intro aa s σ H x y v u Q I rx ry h;obtain⟨a,b,rfl,rfl,q⟩:=h;obtain⟨t,rfl⟩:=rx;obtain⟨t',rfl⟩:=ry;exact PySem.P.in_str ⟨.bl _,H,I,rfl,q⟩
theorem Zhb:Zd8 X (.type "int") (fun xs H Q=>∃ z n,xs=[.str z]/\PySem.intText? z=some n/\z.length<=640/\Q (.int n) H):=by
 intro aa s σ H xs us Q I r h;obtain⟨z,n,rfl,hn,hl,q⟩:=h;obtain⟨u,rfl,t',rfl⟩:=Zd7 r;exact PySem.W.KIN.call_text hn hl ⟨.int _,H,I.tok _,⟨_,rfl⟩,q⟩
noncomputable def Its (z:Str):It:=⟨fun i _=>i<z.cps.size,fun i H x H'=>H'=H/\∃ c,z.cps[i]? = some c/\x = .str ⟨#[c]⟩,fun i _=>z.cps.size<=i⟩
theorem Zo7 {P:Program}{w:World}{K:W.Frag}{tg:Expr}(z:Str)(t:Tok)(it:Addr):Zx4 P w K tg (Its z) [it] it (fun i h=>h.IsStrIter it "str_ascii_iterator" z t (min i z.cps.size)) where
 mem:=by simp
 obj:=fun i h st b hb=>by
  have e:b=it:=by simpa using hb
  subst e;obtain⟨o,e,c,d⟩:=st;exact⟨o,e,fun v z=>by rw[d] at z;cases z⟩
 keep:=fun i h h' st k=>by
  obtain⟨o,e,r⟩:=st;exact⟨o,k it (by simp) o e,r⟩
 item:=by
  intro X hP hw hK hc i aa s σ H E I hf st hg;subst hP hw hK;obtain⟨f0,f1,f2,f3,f4,f5⟩:=hf it (by simp);have hg:i<z.cps.size:=hg;rw[Nat.min_eq_left (Nat.le_of_lt hg)] at st;have W:=Walks.strAscii (prog:=X.prog) (w:=X.w) (I.ok.hd hc) it z t;refine W.item i s _ _ hg st fun v h' tk hv st' kk=>?_;obtain⟨c,u,ec,rfl⟩:=hv;have I1:Inv X aa σ H { s with heap:=h',toks:=tk }:=I.turned (fun b o hb e=>kk b o (by simpa using hb) e) f0 f1 f3 f4 f5;obtain⟨o,e,cl,d⟩:=id st';refine⟨_,rfl,Zvy (s:={ s with heap:=h',toks:=tk }) e cl d (by decide) ⟨.str ⟨#[c]⟩,H,I1,⟨u,rfl⟩,⟨rfl,c,ec,rfl⟩,?_,fun b hb=>(hf b hb).1⟩⟩;rw[Nat.min_eq_left hg];exact st'
 done:=by
  intro X hP hw hK hc i aa s σ H E I hf st hg;subst hP hw hK;obtain⟨f0,f1,f2,f3,f4,f5⟩:=hf it (by simp);have hg:z.cps.size<=i:=hg;rw[Nat.min_eq_right hg] at st;have W:=Walks.strAscii (prog:=X.prog) (w:=X.w) (I.ok.hd hc) it z t;exact W.done s _ _ st fun h' tk kk=>⟨rfl,I.turned (fun b o hb e=>kk b o (by simpa using hb) e) f0 f1 f3 f4 f5⟩
 self:=fun _ _ _ _ _ st h=>wpAny_pyIter_striter_ascii st h
def iStr (tl:TE):TI:=fun σ H R=>tl σ H fun x H1=>∃ z,x = .str z/\z.cps.all (· < 128)=true/\R (Its z) H1
theorem Zxr {tg l:Expr}{tl:TE}(hl:PE X l tl):PI X tg l (iStr tl):=by
 intro aa s σ H R I h;refine thn (hl aa s σ H _ I h) fun v s1=>ex5 fun x H1 I1 r1 q1=>?_;obtain⟨z,rfl,ha,q⟩:=q1;obtain⟨t,rfl⟩:=r1;refine wpAny_pyIter_ascii ha ?_;refine⟨s1.heap.objs.size,[s1.heap.objs.size],_,_,H1,rfl,I1.kept (t':=s1.toks) fun b o e=>Xac _ e,Zo7 z t _,?_,fun b hb=>?_,q⟩
 . dsimp only;rw[Nat.zero_min];exact⟨_,Xau _ rfl,rfl,rfl⟩
 . have e:b=s1.heap.objs.size:=by simpa using hb
   subst e;exact I1.fpOk (Xae _) (I1.hok.fresh (Xae _))
theorem Zqq {z:Str}{js:List Nat}{te:TE}{σ:St}{H:Hp}{R:Addr->Hp->Prop}(Pv:Addr->Nat->List V->Hp->Prop)(h0:∀ D,H D=none->Pv D 0 [] (upd H D (.lst [])))
 (hs:∀ D (i:Nat) c ys H' Qb,H D=none->z.cps[i]? = some c->Pv D i ys H'->(∀ y H3,H3 D=some (.lst ys)->ys.length<sizeLine->Pv D (i+1) (ys++[y]) (upd H3 D (.lst (ys++[y])))->Qb y H3)->te (some (.str ⟨#[c]⟩) :: Zh3 js σ) H' Qb)
 (hd:∀ D ys H',H D=none->Pv D z.cps.size ys H'->R D H') :
 ∀ D,H D=none->∃ W:Nat->Nat->List V->Hp->Prop,(∃ m,W 0 m [] (upd H D (.lst [])))/\∀ i m ys H,W i m ys H->
  ((Its z).stop i H/\R D H)\/((Its z).go i H/\∀ x H',(Its z).yld i H x H'->if true=true then te (some x :: Zh3 js σ) H' fun y H3=>H3 D=some (.lst ys)/\ys.length<sizeLine/\∃ m',m'<m/\W (i+1) m' (ys++[y]) (upd H3 D (.lst (ys++[y])))
   else ∃ m',m'<m/\W (i+1) m' ys H'):=by
 intro D hD;refine⟨fun i m ys H'=>m=z.cps.size - i/\i<=z.cps.size/\Pv D i ys H',⟨z.cps.size,by simp,om,h0 D hD⟩,?_⟩;rintro i m ys H' ⟨rfl,hi,hp⟩;by_cases hlt:i<z.cps.size
 . refine .inr ⟨hlt,fun x H2 hz=>?_⟩;obtain⟨e2,c,ec,ex⟩:=hz;subst e2 ex;refine Zbz ?_;exact hs D i c ys _ _ hD ec hp fun y H3 a b c=>⟨a,b,z.cps.size - (i+1),om,rfl,om,c⟩
 . have e:i=z.cps.size:=by omega
   subst e;exact .inl ⟨Xae _,hd D ys H' hD hp⟩
end
end L2
namespace Tx
open PySem PySem.Builtin.Str
noncomputable abbrev sg (z:Str):List Nat:=z.cps.toList
noncomputable abbrev bl:Str:=" "
theorem Zp5:(bl:Str)=⟨#[32]⟩:=by decide +kernel
theorem Ziq {a b:Str}(h:sg a=sg b):a=b:=by
 cases a;cases b
 exact congrArg Str.mk (Array.toList_inj.mp h)
theorem Zd0 (a b:Str):sg (a++b)=sg a++sg b:=by
 show(a.cps++b.cps).toList=_;rw[Array.toList_append]
theorem Zb1 (z:Str):z.length=(sg z).length:=by simp[Str.length]
theorem Zj3 (z:Str)(i j:Nat):sg (strSub z i j)=((sg z).drop i).take (j - i):=StrLaws.strSub_toList z i j
theorem tw_dw {p:Nat->Bool}:∀ l:List Nat,l.drop (l.takeWhile p).length=l.dropWhile p
 | []=>rfl
 | a :: l=>by
  by_cases h:p a=true
  . rw[List.takeWhile_cons_of_pos h,List.dropWhile_cons_of_pos h];exact tw_dw l
  . rw[List.takeWhile_cons_of_neg h,List.dropWhile_cons_of_neg h];rfl
theorem Zs6:(bl:Str).cps.contains=(fun c:Nat=>c == 32):=by
 funext c
 rw[Zp5,Bool.eq_iff_iff];simp
theorem Zp8 (z:Str):sg (Txt.lstripChars z bl)=(sg z).dropWhile (· == 32):=by
 rw[Txt.lstripChars,PySem.W.stripBy_eq];unfold W.stripped;simp only[if_true,Bool.false_eq_true,if_false];rw[Zj3,Zs6,tw_dw];exact List.take_of_length_le (by rw[<- tw_dw,List.length_drop,Zb1];exact Nat.le_refl _)
theorem Zww {p:Nat->Bool}(l:List Nat):l.take (l.length - (l.reverse.takeWhile p).length)=(l.reverse.dropWhile p).reverse:=by
 rw[<- tw_dw,List.drop_reverse,List.reverse_reverse]
theorem Zo0 (z:Str):sg (Txt.rstripChars z bl)=((sg z).reverse.dropWhile (· == 32)).reverse:=by
 rw[Txt.rstripChars,PySem.W.stripBy_eq];unfold W.stripped;simp only[if_true,Bool.false_eq_true,if_false];rw[Zj3,Zs6,List.drop_zero,Nat.sub_zero,Zb1];exact Zww _
theorem Zfm (z y:Str):Txt.startswith z y=(sg y).isPrefixOf (sg z):=by
 unfold Txt.startswith;rw[StrLaws.subAt_eq,List.drop_zero,Zb1,Zb1];rw[Bool.eq_iff_iff,List.isPrefixOf_iff_prefix,Bool.and_eq_true,decide_eq_true_eq,beq_iff_eq,List.prefix_iff_eq_take]
 constructor
 . exact fun h=>h.2.symm
 . intro h;refine⟨?_,h.symm⟩;have:=congrArg List.length h;rw[List.length_take] at this;omega
theorem Zvt {z:Str}(h:32∉sg z):Txt.partition z bl=(z,Str.empty,Str.empty):=by
 unfold Txt.partition;rcases StrLaws.occ_head z bl 1 (Nat.le_refl 1) with⟨h0,_⟩ | ⟨i,r,h0,hi,hn⟩
 . rw[h0]
 . rw[Zp5] at hi;exact absurd (List.mem_of_getElem? ((StrLaws.subAt_one z 32 i).mp hi)) h
theorem Zve {z:Str}{a b:List Nat}(h:sg z=a++32 :: b)(ha:32∉a):sg (Txt.partition z bl).1=a/\(Txt.partition z bl).2.1=bl/\sg (Txt.partition z bl).2.2=b:=by
 unfold Txt.partition;have at_a:(sg z)[a.length]? = some 32:=by rw[h];simp
 rcases StrLaws.occ_head z bl 1 (Nat.le_refl 1) with⟨h0,hn⟩ | ⟨i,r,h0,hi,hn⟩
 . rw[Zp5] at hn;exact absurd ((StrLaws.subAt_one z 32 _).mpr at_a) (hn _)
 . rw[h0];rw[Zp5] at hi hn;have e1:=(StrLaws.subAt_one z 32 i).mp hi;have e2:¬ a.length<i:=fun c=>hn _ c ((StrLaws.subAt_one z 32 _).mpr at_a);have e3:¬ i<a.length:=fun c=>by
    have e1:(sg z)[i]? = some 32:=e1;rw[h,List.getElem?_append_left c] at e1;exact ha (List.mem_of_getElem? e1)
   have e:i=a.length:=by omega
   subst e;refine⟨?_,rfl,?_⟩
   . rw[Zj3,h];simp
   . rw[Zj3,Zb1,Zb1,h,Zp5];simp;exact List.take_of_length_le (by omega)
theorem fig (c:Nat):Txt.contains "0123456789" ⟨#[c]⟩=decide (48<=c/\c<=57):=by
 unfold Txt.contains;have hs:sg "0123456789" = [48,49,50,51,52,53,54,55,56,57]:=by decide +kernel
 rw[Bool.eq_iff_iff,decide_eq_true_eq];rcases StrLaws.occ_head "0123456789" ⟨#[c]⟩ 1 (Nat.le_refl 1) with⟨h0,hn⟩ | ⟨i,r,h0,hi,hn⟩
 . rw[h0]
   constructor
   . intro z;cases z
   . intro z;have hm:c∈sg "0123456789":=by rw[hs];simp;omega
     obtain⟨j,hj⟩:=List.getElem?_of_mem hm;exact absurd ((StrLaws.subAt_one _ c j).mpr hj) (hn j)
 . rw[h0]
   constructor
   . intro _;have hm:=List.mem_of_getElem? ((StrLaws.subAt_one _ c i).mp hi);have hm:c∈sg "0123456789":=hm;rw[hs] at hm;simp at hm;omega
   . intro _;rfl
end Tx
namespace L2
open PySem PySem.Spec PyProof.Rows
variable {P:Program}{w:World}{K:W.Frag}{mg:Str->Option Value}{base:Heap}
def KpR (o o':Obj):Prop:=o'.cls=o.cls/\o'.dict=o.dict/\o'.isFreed=o.isFreed/\∀ vs,o.data = .fields vs->∃ vs',o'.data = .fields vs'/\vs'.size=vs.size/\∀ i:Nat,i≠1->i≠3->vs'[i]? = vs[i]?
theorem KpR.refl (o:Obj):KpR o o:=⟨rfl,rfl,rfl,fun vs e=>⟨vs,e,rfl,fun _ _ _=>rfl⟩⟩
theorem KpR.trans {a b c:Obj}(x:KpR a b)(y:KpR b c):KpR a c:=by
 obtain⟨x1,x2,x3,x4⟩:=x;obtain⟨y1,y2,y3,y4⟩:=y;refine⟨y1.trans x1,y2.trans x2,y3.trans x3,fun vs e=>?_⟩;obtain⟨v1,e1,s1,k1⟩:=x4 vs e;obtain⟨v2,e2,s2,k2⟩:=y4 v1 e1;exact⟨v2,e2,s2.trans s1,fun i h1 h3=>(k2 i h1 h3).trans (k1 i h1 h3)⟩
theorem Zpj {o:Obj}{sl:Array (Option Value)}:KpR o { o with slots:=sl }:=⟨rfl,rfl,by obtain⟨c,d,dt,z⟩:=o;cases dt <;> rfl,fun vs e=>⟨vs,e,rfl,fun _ _ _=>rfl⟩⟩
theorem Zon {o:Obj}{n:Nat}{v:Value}(hn:n=1\/n=3):KpR o (Obj.mapFields (·.setIfInBounds n v) o):=by
 refine⟨Obj.cls_mapFields _ _,?_,?_,fun vs e=>⟨_,Obj.data_mapFields e _,by simp,fun i h1 h3=>?_⟩⟩
 . obtain⟨c,d,dt,z⟩:=o;cases dt <;> rfl
 . obtain⟨c,d,dt,z⟩:=o;cases dt <;> rfl
 . rw[Array.getElem?_setIfInBounds_ne om]
def KpH (h h':Heap):Prop:=∀ b o,h.get? b=some o->∃ o',h'.get? b=some o'/\KpR o o'
theorem KpH.refl (h:Heap):KpH h h:=fun b o e=>⟨o,e,.refl o⟩
theorem KpH.trans {a b c:Heap}(x:KpH a b)(y:KpH b c):KpH a c:=fun p o e=>by
 obtain⟨o1,e1,k1⟩:=x p o e;obtain⟨o2,e2,k2⟩:=y p o1 e1;exact⟨o2,e2,k1.trans k2⟩
theorem Zrk (h:Heap)(o:Obj):KpH h (h.push o):=fun b u e=>⟨u,Xac _ e,.refl u⟩
theorem Zmn (h:Heap)(a:Addr)(f:Obj->Obj)(hf:∀ o,KpR o (f o)):KpH h (h.update a f):=fun b u e=>by
 by_cases c:a=b
 . subst c;refine⟨f u,Xa9 f e ?_,hf u⟩;rw[(hf u).2.2.1];exact(Heap.get?_some_iff.mp e).2
 . exact⟨u,(Xa5 h f c).trans e,.refl u⟩
inductive DS {α:Type}:Sem α->Prop
 | pure (a:α):DS (.pure a)
 | raise (e:Value):DS (.raise e)
 | unsup (z:String):DS (.unsupported z)
 | rule {t:String}{k:Unit->Sem α}(h:DS (k ())):DS (.rule t k)
 | pos {t:Pos}{k:Unit->Sem α}(h:DS (k ())):DS (.at t k)
 | load {a:Addr}{b:Option Value}{k:Obj->Sem α}(h:∀ o,DS (k o)):DS (.load a b k)
 | update {a:Addr}{b:Option Value}{f:Obj->Obj}{k:Unit->Sem α}(hf:∀ o,KpR o (f o)) (h:DS (k ())):DS (.update a b f k)
 | alloc {o:Obj}{k:Addr->Sem α}(h:∀ a,DS (k a)):DS (.alloc o k)
 | alive {a:Addr}{k:Option Obj->Sem α}(h:∀ o,DS (k o)):DS (.loadIfAlive a k)
 | point {l:List Value}{k:Unit->Sem α}(h:DS (k ())):DS (.point l k)
 | reg {a:Addr}{k:Unit->Sem α}:DS (.register a k)
 | fresh {k:Tok->Sem α}(h:∀ t,DS (k t)):DS (.fresh k)
 | ask {k:Setting->Sem α}(h:∀ t,DS (k t)):DS (.ask k)
 | hand {b:Bool}{k:Option Value->Sem α}(h:∀ t,DS (k t)):DS (.handled b k)
 | stack {k:List (Code×Pos)->Sem α}(h:∀ t,DS (k t)):DS (.stack k)
theorem DS.bnd {α β:Type}{f:α->Sem β}(hf:∀ a,DS (f a)){t:Sem α}(h:DS t):DS (t >>= f):=by
 show DS (Sem.bind t f)
 induction h with
 | pure a=>exact hf a
 | raise e=>exact .raise e
 | unsup z=>exact .unsup z
 | rule _ ih=>exact .rule ih
 | pos _ ih=>exact .pos ih
 | load _ ih=>exact .load ih
 | update hf _ ih=>exact .update hf ih
 | alloc _ ih=>exact .alloc ih
 | alive _ ih=>exact .alive ih
 | point _ ih=>exact .point ih
 | reg=>exact .reg
 | fresh _ ih=>exact .fresh ih
 | ask _ ih=>exact .ask ih
 | hand _ ih=>exact .hand ih
 | stack _ ih=>exact .stack ih
theorem Zt6 {α:Type}{M:Model}{Γ:PySem.Ctx}{Q:α->Pos->Shared->Prop}{E:Value->Pos->Shared->Prop}{h0:Heap}{t:Sem α}(d:DS t):∀ (p:Pos)(s:Shared),KpH h0 s.heap->Sem.wp M Γ t Q E p s->Sem.wp M Γ t (fun a p s'=>Q a p s'/\KpH h0 s'.heap) (fun e p s'=>E e p s'/\KpH h0 s'.heap) p s:=by
 induction d with
 | pure a=>intro p s k h;rw[Sem.wp] at h ⊢;exact⟨h,k⟩
 | raise e=>intro p s k h;rw[Sem.wp] at h ⊢;exact⟨h,k⟩
 | unsup z=>intro p s k h;rw[Sem.wp] at h;exact h.elim
 | rule _ ih=>intro p s k h;rw[Sem.wp] at h ⊢;exact ih p s k h
 | pos _ ih=>intro p s k h;rw[Sem.wp] at h ⊢;exact ih _ s k h
 | load _ ih=>intro p s k h;rw[Sem.wp] at h ⊢;obtain⟨o,e,h⟩:=h;exact⟨o,e,ih o p s k h⟩
 | update hf _ ih=>intro p s k h;rw[Sem.wp] at h ⊢;exact⟨h.1,ih p _ (k.trans (Zmn _ _ _ hf)) h.2⟩
 | alloc _ ih=>intro p s k h;rw[Sem.wp] at h ⊢;exact ih _ p _ (k.trans (Zrk _ _)) h
 | alive _ ih=>intro p s k h;rw[Sem.wp] at h ⊢;exact ih _ p s k h
 | point _ ih=>intro p s k h;rw[Sem.wp] at h ⊢;exact ih p s k h
 | reg=>intro p s k h;rw[Sem.wp] at h;exact h.elim
 | fresh _ ih=>intro p s k h;rw[Sem.wp] at h ⊢;exact ih _ p _ k h
 | ask _ ih=>intro p s k h;rw[Sem.wp] at h ⊢;exact ih _ p s k h
 | hand _ ih=>intro p s k h;rw[Sem.wp] at h ⊢;exact ih _ p s k h
 | stack _ ih=>intro p s k h;rw[Sem.wp] at h ⊢;exact ih _ p s k h
theorem Zbb {α:Type}{M:Model}{A:Around}{Q:α->Shared->Prop}{E:Value->Shared->Prop}{t:Sem α}{s:Shared}(d:DS t)(h:wpAny M A t Q E s):wpAny M A t (fun a s'=>Q a s'/\KpH s.heap s'.heap) (fun e s'=>E e s'/\KpH s.heap s'.heap) s:=fun Γ p i=>
 Zt6 d p s (.refl _) (h Γ p i)
theorem Zjy (v:Value):DS (fieldsOf v):=by
 unfold fieldsOf;cases v <;> first | exact .unsup _ | skip
 refine .bnd (fun o=>?_) (.load fun o=>.pure o);split <;> first | exact .pure _ | exact .unsup _
theorem Zeo (v:Value)(i:Nat):DS (field v i):=by
 unfold field;refine .bnd (fun o=>?_) (Zjy v);split <;> first | exact .pure _ | exact .unsup _
theorem Zd6 (v:Value)(n:Nat)(x:Value)(hn:n=1\/n=3):DS (setField v n x):=by
 unfold setField;cases v <;> first | exact .unsup _ | skip
 dsimp only;unfold updateField;refine .bnd (fun o=>?_) (.load fun o=>.pure o);split
 . split
   . exact .update (fun o=>Zon hn) (.pure _)
   . exact .unsup _
 . exact .unsup _
theorem Zbv (v:Value)(f:Option Addr):DS (setFlight v f):=by
 unfold setFlight;refine .bnd (fun tb=>?_) (Zeo v 1);split
 . exact Zd6 _ _ _ (.inr rfl)
 . exact .pure _
theorem Zfe:DS stack:=.stack fun l=>.pure l
theorem Zh6:DS frameEnvs:=by
 unfold frameEnvs;exact .bnd (fun l=>.pure _) Zfe
theorem Zo4 (e:Env)(l:List Env):DS (behindIsImport e l):=by
 unfold behindIsImport
 repeat (first | exact .pure _ | exact .unsup _ | exact Zfe | exact Zeo _ _ | (refine .bnd (fun _=>?_) ?_) | split)
theorem Zuo (e:Env)(b:Bool)(l:List Env):DS (keptBack e b l):=by
 unfold keptBack
 repeat (first | exact .pure _ | exact .unsup _ | exact Zfe | (refine .bnd (fun _=>?_) ?_) | split | unfold underTheClaimsCaller)
theorem Zlm:∀ l:List Env,DS (readyFrames l)
 | []=>by unfold readyFrames;exact .pure _
 | e :: l=>by
  unfold readyFrames;split
  . refine .bnd (fun o=>?_) (.load fun o=>.pure o);split
    . exact .pure _
    . refine .bnd (fun i=>?_) (Zo4 _ _);refine .bnd (fun b=>?_) (Zuo _ _ _);refine .bnd (fun _=>Zlm l) (.update (fun o=>Zpj) (.pure _))
  . exact .unsup _
theorem Zms (e:Env):DS (PySem.frameOf e):=by
 unfold PySem.frameOf;refine .bnd (fun l=>?_) Zh6;refine .bnd (fun o=>?_) ?_
 . split <;> first | exact .pure _ | exact .unsup _
 . unfold frameObject;split
   . exact .pure _
   . exact .bnd (fun _=>.pure _) (Zlm _)
theorem Zqf (f:Addr)(b:Bool):DS (entryPlaceOf f b):=by
 unfold entryPlaceOf;refine .bnd (fun l=>?_) Zfe;split <;> exact .pure _
theorem Zig (ty:String)(vs:List Value):DS (newFields ty vs):=by
 have as:DS (newObjAsIs (.type ty) (.fields vs.toArray)):=by
  unfold newObjAsIs;refine .bnd (fun a=>?_) (.alloc fun a=>.pure a);exact .pure _
 unfold newFields newObj;dsimp only;split
 . exact .bnd (fun _=>as) (.unsup _)
 . exact as
theorem Zpd (v hd fl:Value)(e:Env)(f:Addr)(b:Bool):DS (do let x <- PySem.frameOf e;let y <- entryPlaceOf f b;let z <- EntryCells.newEntry hd x .none fl .none y;setField v 1 z):=by
 refine .bnd (fun x=>?_) (Zms e);refine .bnd (fun y=>?_) (Zqf _ _);refine .bnd (fun z=>Zd6 _ _ _ (.inl rfl)) ?_;unfold EntryCells.newEntry;exact Zig _ _
theorem Zhw (v:Value)(e:Env):DS (noteFrame v e):=by
 unfold noteFrame;split
 . refine .bnd (fun hd=>?_) (Zeo v 1);split
   . refine .bnd (fun x=>?_) (Zeo _ 3);split
     . exact .pure _
     . exact .bnd (fun _=>Zpd v hd _ e _ _) (Zd6 _ _ _ (.inr rfl))
   . exact Zpd v hd _ e _ _
 . exact .unsup _
theorem Zda (v:Value)(e:Env):DS (leaving e v):=by
 unfold leaving;exact .bnd (fun _=>Zbv v none) (Zhw v e)
end L2
namespace Tx
open PySem PySem.Builtin.Str PySem.NumText
theorem Zkq (z:Str)(k:Nat):sg (Txt.slice z (some (k:Int)) none)=(sg z).drop k:=by
 by_cases h:(k:Int)<=z.length
 . rw[PyProof.Rows.slice_from_eq (b:=z.length) (by omega) h rfl];show((sg z).drop ((k:Int)).toNat).take _=_;rw[show((k:Int)).toNat=k from rfl];exact List.take_of_length_le (by rw[List.length_drop,<- Zb1];omega)
 . rw[PyProof.Rows.slice_beyond (by omega)];rw[List.drop_eq_nil_of_le (by rw[<- Zb1];omega)]
   rfl
noncomputable def dg (w:List Nat):Bool:=w.all fun c=>decide (48<=c/\c<=57)
theorem Ztj {w:List Nat}:dg w=true↔AllDigits w:=by
 unfold dg AllDigits;rw[List.all_eq_true];exact⟨fun h c hc=>of_decide_eq_true (h c hc),fun h c hc=>decide_eq_true (h c hc)⟩
noncomputable def Zhz (w:List Nat) (D:Nat):Option Nat:=if 0<w.length/\w.length<=9/\dg w=true/\digitsVal w<2 ^ D then some (digitsVal w) else none
inductive Stp where
 | put (k:Nat) (v:Str)
 | cut (k:Nat)
noncomputable def Znp:List Nat:=[112,117,116,32]
noncomputable def Zvd:List Nat:=[99,117,116,32]
theorem Zss:sg "put " = Znp:=by decide +kernel
theorem Zxs:sg "cut " = Zvd:=by decide +kernel
noncomputable def Zes (b:List Nat) (D:Nat):Option (Option Stp):=
 if b=[]\/[35].isPrefixOf b=true then some none
 else if Znp.isPrefixOf b=true then
  (if 32∈b.drop 4 then(Zhz ((b.drop 4).takeWhile (· != 32)) D).map fun k=>some (.put k ⟨(((b.drop 4).dropWhile (· != 32)).drop 1).toArray⟩) else none)
 else if Zvd.isPrefixOf b=true then(Zhz ((b.drop 4).reverse.dropWhile (· == 32)).reverse D).map fun k=>some (.cut k)
 else none
noncomputable def Zbn (z:Str) (D:Nat):Option (Option Stp):=Zes ((sg z).dropWhile (· == 32)) D
theorem Zki {n c:Nat}{l:List Nat}(hc:c≠32):(List.replicate n 32++c :: l).dropWhile (· == 32)=c :: l:=by
 induction n with
 | zero=>rw[List.replicate_zero,List.nil_append,List.dropWhile_cons_of_neg (by simpa using hc)]
 | succ n ih=>rw[List.replicate_succ,List.cons_append,List.dropWhile_cons_of_pos (by simp)];exact ih
theorem Znb {n:Nat}:(List.replicate n 32).dropWhile (· == 32)=[]:=by
 induction n with
 | zero=>rfl
 | succ n ih=>rw[List.replicate_succ,List.dropWhile_cons_of_pos (by simp)];exact ih
theorem tw_no {a b:List Nat}(h:32∉a):(a++32 :: b).takeWhile (· != 32)=a/\(a++32 :: b).dropWhile (· != 32)=32 :: b:=by
 induction a with
 | nil=>exact⟨by rw[List.nil_append,List.takeWhile_cons_of_neg (by simp)],by rw[List.nil_append,List.dropWhile_cons_of_neg (by simp)]⟩
 | cons c a ih=>
  have hc:c≠32:=fun e=>h (e ▸ List.mem_cons_self);obtain⟨i1,i2⟩:=ih fun e=>h (List.mem_cons_of_mem _ e);exact⟨by rw[List.cons_append,List.takeWhile_cons_of_pos (by simpa using hc),i1],by rw[List.cons_append,List.dropWhile_cons_of_pos (by simpa using hc),i2]⟩
theorem Zr3 {w:List Nat}(h:AllDigits w):32∉w:=fun m=>by have:=h 32 m;omega
theorem Zgw {n D:Nat}{z:Str}(h:sg z=List.replicate n 32):Zbn z D=some none:=by
 unfold Zbn;rw[h,Znb];rfl
theorem Zjo {n D:Nat}{z:Str}{l:List Nat}(h:sg z=List.replicate n 32++35 :: l):Zbn z D=some none:=by
 unfold Zbn;rw[h,Zki (by decide)];unfold Zes;rw[if_pos (Or.inr (by simp[List.isPrefixOf]))]
theorem Zsj {n D:Nat}{z v:Str}{w:List Nat}(hw:AllDigits w)(h:sg z=List.replicate n 32++(Znp++(w++32 :: sg v))):Zbn z D=(Zhz w D).map fun k=>some (.put k v):=by
 unfold Zbn;rw[h];show Zes ((List.replicate n 32++112 :: (117 :: 116 :: 32 :: (w++32 :: sg v))).dropWhile (· == 32)) D=_;rw[Zki (by decide)];obtain⟨t1,t2⟩:=tw_no (a:=w) (b:=sg v) (Zr3 hw);unfold Zes;rw[if_neg (by simp[List.isPrefixOf]),if_pos (by simp[List.isPrefixOf,Znp])];show(if 32∈(w++32 :: sg v) then _ else _)=_;rw[if_pos (by simp)];show(Zhz ((w++32 :: sg v).takeWhile (· != 32)) D).map (fun k=>some (Stp.put k ⟨(((w++32 :: sg v).dropWhile (· != 32)).drop 1).toArray⟩))=_;rw[t1,t2];have e:(⟨((32 :: sg v).drop 1).toArray⟩:Str)=v:=Ziq (by simp);rw[e]
theorem Zxm {w:List Nat}{m:Nat}(hw:AllDigits w):((w++List.replicate m 32).reverse.dropWhile (· == 32)).reverse=w:=by
 rw[List.reverse_append,List.reverse_replicate];cases hr:w.reverse with
 | nil=>
  have:w=[]:=List.reverse_eq_nil_iff.mp hr;rw[List.append_nil,Znb,this];rfl
 | cons c l=>
  have hc:c∈w:=by rw[<- List.mem_reverse,hr];exact List.mem_cons_self
  have:=hw c hc;rw[Zki (by omega),<- hr,List.reverse_reverse]
theorem Zsn {n m D:Nat}{z:Str}{w:List Nat}(hw:AllDigits w)(h:sg z=List.replicate n 32++(Zvd++(w++List.replicate m 32))):Zbn z D=(Zhz w D).map fun k=>some (.cut k):=by
 unfold Zbn;rw[h];show Zes ((List.replicate n 32++99 :: (117 :: 116 :: 32 :: (w++List.replicate m 32))).dropWhile (· == 32)) D=_;rw[Zki (by decide)];unfold Zes;rw[if_neg (by simp[List.isPrefixOf]),if_neg (by simp[List.isPrefixOf,Znp]),if_pos (by simp[List.isPrefixOf,Zvd])];show(Zhz ((w++List.replicate m 32).reverse.dropWhile (· == 32)).reverse D).map _=_;rw[Zxm hw]
theorem Zkf (m:Nat):sg (Str.ofString (toString ((m:Nat):Int)))=(Nat.toDigits 10 m).map Char.toNat:=PySem.W.KIN.signs_num m
theorem Zhq (m:Nat):AllDigits ((Nat.toDigits 10 m).map Char.toNat):=fun c hc=>by
 obtain⟨ch,hch,e⟩:=List.mem_map.mp hc;have r:=PyProof.Rows.digit_range (Nat.isDigit_of_mem_toDigits (by decide) (by decide) hch);rw[<- e];exact r
theorem Zm4 (k:Nat)(l:List Nat):digitsVal (List.replicate k 48++l)=digitsVal l:=by
 induction k with
 | zero=>rfl
 | succ k ih=>
  rw[List.replicate_succ,List.cons_append];show List.foldl _ (0 * 10+(48 - 48)) _=_;exact ih
theorem Zi2 {k:Nat}{l:List Nat}(h:AllDigits l):AllDigits (List.replicate k 48++l):=fun c hc=>by
 rcases List.mem_append.mp hc with z | z
 . rw[(List.mem_replicate.mp z).2];omega
 . exact h c z
theorem Zom {k m D:Nat}(hl:k+((Nat.toDigits 10 m).map Char.toNat).length<=9):Zhz (List.replicate k 48++(Nat.toDigits 10 m).map Char.toNat) D=if m<2 ^ D then some m else none:=by
 unfold Zhz;have hv:digitsVal (List.replicate k 48++(Nat.toDigits 10 m).map Char.toNat)=m:=by rw[Zm4,PySem.W.KIN.val_back]
 have hp:0<(List.replicate k 48++(Nat.toDigits 10 m).map Char.toNat).length:=by
  have:=PySem.toDigits_len_ge 10 m;simp;omega
 rw[hv];by_cases c:m<2 ^ D
 . rw[if_pos ⟨hp,by simpa using hl,Ztj.mpr (Zi2 (Zhq m)),c⟩,if_pos c]
 . rw[if_neg (fun z=>c z.2.2.2),if_neg c]
end Tx
namespace Tx
open PySem PySem.Builtin.Str PySem.NumText
theorem Ztc {b:List Nat}{D:Nat}(h0:¬ (b=[]\/[35].isPrefixOf b=true))(h1:Znp.isPrefixOf b=false)(h2:Zvd.isPrefixOf b=false):Zes b D=none:=by
 unfold Zes;rw[if_neg h0,if_neg (by rw[h1];simp),if_neg (by rw[h2];simp)]
theorem b_put {l:List Nat}{D:Nat}(h:32∈l->Zhz (l.takeWhile (· != 32)) D=none):Zes (Znp++l) D=none:=by
 unfold Zes;rw[if_neg (by simp[Znp,List.isPrefixOf]),if_pos (by simp[Znp,List.isPrefixOf])];show(if 32∈l then(Zhz (l.takeWhile (· != 32)) D).map _ else none)=none;by_cases c:32∈l
 . rw[if_pos c,h c];rfl
 . rw[if_neg c]
noncomputable abbrev nl:Str:=⟨#[10]⟩
theorem Zdj (a b:Str)(l:List Str):sg (Str.join nl (a :: b :: l))=sg a++10 :: sg (Str.join nl (b :: l)):=by
 show sg (a++nl++Str.join nl (b :: l))=_;rw[Zd0,Zd0,List.append_assoc]
 rfl
theorem tw10 {a b:List Nat}(h:10∉a):(a++10 :: b).takeWhile (· != 10)=a/\(a++10 :: b).dropWhile (· != 10)=10 :: b:=by
 induction a with
 | nil=>exact⟨by rw[List.nil_append,List.takeWhile_cons_of_neg (by simp)],by rw[List.nil_append,List.dropWhile_cons_of_neg (by simp)]⟩
 | cons c a ih=>
  have hc:c≠10:=fun e=>h (e ▸ List.mem_cons_self);obtain⟨i1,i2⟩:=ih fun e=>h (List.mem_cons_of_mem _ e);exact⟨by rw[List.cons_append,List.takeWhile_cons_of_pos (by simpa using hc),i1],by rw[List.cons_append,List.dropWhile_cons_of_pos (by simpa using hc),i2]⟩
theorem Zlj:∀ (l l':List Str),l≠[]->l'≠[]->(∀ z∈l,10∉sg z)->(∀ z∈l',10∉sg z)->Str.join nl l=Str.join nl l'->l=l'
 | [],_,h,_,_,_,_=>absurd rfl h
 | _,[],_,h,_,_,_=>absurd rfl h
 | [a],[b],_,_,_,_,h=>by rw[show a=b from h]
 | [a],b :: c :: r,_,_,ha,hb,h=>by
  have e:=congrArg sg h;rw[Zdj] at e;have e:sg a=sg b++10 :: sg (Str.join nl (c :: r)):=e;exact absurd (by rw[e];simp) (ha a List.mem_cons_self)
 | a :: c :: r,[b],_,_,ha,hb,h=>by
  have e:=congrArg sg h;rw[Zdj] at e;have e:sg a++10 :: sg (Str.join nl (c :: r))=sg b:=e;exact absurd (by rw[<- e];simp) (hb b List.mem_cons_self)
 | a :: c :: r,b :: d :: t,_,_,ha,hb,h=>by
  have e:=congrArg sg h;rw[Zdj,Zdj] at e;have x1:=tw10 (b:=sg (Str.join nl (c :: r))) (ha a List.mem_cons_self);have x2:=tw10 (b:=sg (Str.join nl (d :: t))) (hb b List.mem_cons_self);rw[e] at x1;have ab:a=b:=Ziq (x1.1.symm.trans x2.1);have rest:=x1.2.symm.trans x2.2;injection rest with _ rest
  rw[ab,Zlj (c :: r) (d :: t) (by simp) (by simp) (fun z hz=>ha z (List.mem_cons_of_mem _ hz)) (fun z hz=>hb z (List.mem_cons_of_mem _ hz)) (Ziq rest)]
theorem Zmi {l:List Str}(hn:l≠[])(hf:∀ z∈l,10∉sg z):Txt.split (Str.join nl l) nl=l:=by
 have hj:=StrLaws.join_split (Str.join nl l) nl;refine Zlj _ _ (fun e=>?_) hn (fun z hz=>StrLaws.split_free _ 10 z hz) hf hj;have hy:(nl.length == 0)=false:=rfl;unfold Txt.split at e;split at e
 . cases e
 . split at e
   . cases e
   . obtain⟨p,r,h⟩:=StrLaws.partsFrom_ne (Str.join nl l) nl.length 0 (occurrences (Str.join nl l) nl 0 (Str.join nl l).length ((Str.join nl l).length+1));rw[StrLaws.partsBetween_eq,h] at e;cases e
end Tx
namespace L2
open PySem PySem.Spec PyProof.Rows
variable {P:Program}{w:World}{K:W.Frag}{mg:Str->Option Value}{base:Heap}
theorem Zn3:∀ (bs:List Bool),(List.range bs.length).all (fun i=>bs.getD i false)=bs.all id:=fun bs=>by
 rw[Bool.eq_iff_iff,List.all_eq_true,List.all_eq_true]
 constructor
 . intro h b hb;obtain⟨i,hi⟩:=List.getElem?_of_mem hb;have hl:=(List.getElem?_eq_some_iff.mp hi).1;have:=h i (List.mem_range.mpr hl);rw[Xat,hi] at this;exact this
 . intro h i hi;have hl:=List.mem_range.mp hi;rw[Xat,Xab hl];exact h _ (Xbh hl)
theorem Zr0 {X:Cx}(hc:X.calm=true):Zd8 X (.builtin "all") (fun xs H Q=>∃ (p:Addr)(bs:List Bool),xs=[.ref p]/\SqL X.K H p (bs.map V.bl)/\Q (.bl (bs.all id)) H):=by
 intro aa s σ H xs us Q I r h;obtain⟨p,bs,rfl,hq,q⟩:=h;obtain⟨u,rfl,ru⟩:=Zd7 r;obtain rfl:u=Value.ref p:=ru;obtain⟨its,rv,pl,hz⟩:=I.list hq;have hl:its.length=bs.length:=by have:=rv.length;rw[Xad] at this;exact this.symm
 have hp:p<s.heap.objs.size:=by obtain⟨o,e,_⟩:=pl.isList;exact Xai e
 obtain⟨f0,f1,f2,f3,f4,f5⟩:=I.fpOk (Xae _) (I.hok.fresh (Xae _));refine call_all_walk (wpAny_pyIter_list pl.isList ?_);refine⟨s.heap.objs.size,_,_,_,_,_,fun i=>bs.getD i false,rfl,Walks.list (A:=X.A.in1) (I.ok.hd hc) s.heap.objs.size p (Xaw hp) its.toArray,⟨⟨_,Xau _ rfl,rfl,rfl⟩,pl.isList.at fun o e=>Xac _ e⟩,?_,?_⟩
 . intro i v s1 Q1 E1 hv hQ;have hv':its[i]? = some v:=by simpa using hv
   have hi:i<bs.length:=by rw[<- hl];exact(List.getElem?_eq_some_iff.mp hv').1
   obtain⟨u,hu,ru⟩:=rv.get (i:=i) (x:=.bl bs[i]) (by rw[Xas,Xab hi];rfl);rw[hv'] at hu;cases hu
   obtain rfl:v=Value.bool bs[i]:=ru;have e:bs.getD i false=bs[i]:=by rw[Xat,Xab hi];rfl
   dsimp only at hQ;rw[e] at hQ;exact Xbn hQ
 . intro h' tk k;have I2:Inv X aa σ H { s with heap:=h',toks:=tk }:=I.turned (it:=s.heap.objs.size) (fun b o hb e=>k b o (by simpa using hb) (Xac _ e)) f0 f1 f3 f4 f5;refine⟨.bl _,H,I2,rfl,?_⟩;rw[Xar,hl,Zn3];exact q
noncomputable abbrev Zlo (C t:Addr):Obj:={ cls:=.ref C,data:=.fields #[.ref t,.none,.none,.none,.bool false,.none] }
noncomputable abbrev tupO (vs:List Value):Obj:={ cls:=.type "tuple",data:=.seq vs.toArray }
noncomputable abbrev Zmg (h:Heap) (C:Addr) (vs:List Value):Heap:=(h.push (tupO vs)).push (Zlo C h.objs.size)
section
variable {prog:Program}{w:World}{A:Around}{E:Value->Shared->Prop}{h:Heap}{g:Array GenState}{d:Drawn}{t:Nat}{os:OsState}
variable {nm q:Str}{C N fi:Addr}{bs bm bmB:List Value}{hdct:Bool}{sn:List Str}{sub:List Value}{ab:Bool}{col:Option Bool}{dd:Option Addr}{k0 k1 k2 k3 k5:Option Value}{B Bn newId nid initId inN:String}{bmN:List Value}{fo:Obj}
theorem Zhm (Fn:ExcBaseFacts Bn newId inN bmN)(hBn:bmB.contains (.type Bn)=true)(F:ExcBaseFacts B nid initId bmB)(T:OwnTail h bmB bm){mN:Str->Option Value}{vs:List Value}{Q:Fin->Shared->Prop}
 (hC:h.get? C=some (excClassObj nm q C N bs bm hdct sn sub ab col dd k0 k1 k2 k3 k5 newId))(hn:h.Ns N mN)(hi:mN "__init__" = some (.ref fi))(hf:h.get? fi=some fo)(hfc:fo.cls = .type "function")(hvs:vs.length<=sizeLine)
 (hq:wpAny (model prog w) A (call (.ref fi) (.ref (h.objs.size+1) :: vs)) (fun v s'=>v = .none/\Q (.done (.ret (.ref (h.objs.size+1)))) s') E ⟨Zmg h C vs,g,d,t,os⟩) :
 wpAny (model prog w) A (Builtin.«type.__call__» ⟨.ref C :: vs,[]⟩) Q E ⟨h,g,d,t,os⟩:=by
 repeat first | (with_reducible refine Xb7 hC ?_) | (with_reducible refine wpAny_madeBy_exc hC ?_) | wp_step
 refine codeAny_call_builtin_code (Code.quiet_builtin _ Fn.quiet) ?_;refine wpAny_check_new_subU Fn hBn T hC ?_;refine codeAny_exc_new_subU Fn hBn F T hC ?_ hvs;show wpAny (model prog w) _ _ _ _ _;have keep:∀ b o,h.get? b=some o->(Zmg h C vs).get? b=some o:=fun b o e=>Xac _ (Xac _ e);have hC1:=keep _ _ hC;have hn1:(Zmg h C vs).Ns N mN:=by
  obtain⟨o,es,ep,e,r⟩:=hn;exact⟨o,es,ep,keep _ _ e,r⟩
 have he:(Zmg h C vs).get? (h.objs.size+1)=some (Zlo C h.objs.size):=by
  have:=Xau (h.push (tupO vs)) (o:=Zlo C h.objs.size) rfl
  rwa [Heap.size_push] at this
 have hcC:(Value.ref C :: bm).contains (.ref C)=true:=by simp
 have T1:=T.keeps (h':=Zmg h C vs) keep;unfold isInstance
 repeat first | (with_reducible refine Xb7 he ?_) | ((with_reducible refine wpAny_isSubtype_exc hC1 ?_);rw[hcC]) | wp_step
 show wpAny (model prog w) _ (typeLookup (.ref C) _) _ _ _;refine wpAny_typeLookup_tail hC1 hn1 T1 F.mroIs F.init.lookup ?_;rw[hi];refine Xbi (Xaa (wpAny_bindSpecial_def (s:=⟨Zmg h C vs,g,d,t,os⟩) (keep _ _ hf) hfc ?_));refine Xaa (Xaq hq (fun v s' z=>?_) fun _ _ z=>z);obtain⟨rfl,z⟩:=z;obtain⟨h2,g2,d2,t2,os2⟩:=s'
 wp_walk
 exact z
theorem Ze2 (Fn:ExcBaseFacts Bn newId inN bmN)(hBn:bmB.contains (.type Bn)=true)(F:ExcBaseFacts B nid initId bmB)(T:OwnTail h bmB bm){mN:Str->Option Value}{vs:List Value}{Q:Value->Shared->Prop}
 (hC:h.get? C=some (excClassObj nm q C N bs bm hdct sn sub ab col dd k0 k1 k2 k3 k5 newId))(hn:h.Ns N mN)(hi:mN "__init__" = some (.ref fi))(hf:h.get? fi=some fo)(hfc:fo.cls = .type "function")(hvs:vs.length<=sizeLine)
 (hq:wpAny (model prog w) (A.under (.builtin "type.__call__" ⟨.ref C :: vs,[]⟩)) (call (.ref fi) (.ref (h.objs.size+1) :: vs)) (fun v s'=>v = .none/\Q (.ref (h.objs.size+1)) s') E ⟨Zmg h C vs,g,d,t,os⟩) :
 wpAny (model prog w) A (call (.ref C) vs) Q E ⟨h,g,d,t,os⟩:=by
 have f1:=tc_lookup;have f2:=tc_bind (.ref C);have hT:(⟨h,g,d,t,os⟩:Shared).TypeIs (.ref C) "type":=⟨_,hC,rfl⟩
 refine Xb5 (codeAny_of_tree (?_:wpAny (model prog w) _ (callAny (.ref C) _) _ _ _))
 repeat any_goals first | assumption | (with_reducible refine Xb7 hC ?_) | wp_step
 refine⟨rfl,?_⟩;refine codeAny_call_builtin_at (Code.quiet_builtin _ (by decide +kernel)) entry_typeCall (wpAny_check_type_call_sub hC ?_);refine Zhm Fn hBn F T hC hn hi hf hfc hvs ?_;exact hq
end
section
variable {prog:Program}{w:World}{A:Around}{E:Value->Shared->Prop}{s:Shared}{K:W.Frag}{x C:Addr}{cd:ClassData}{vs:Array Value}{name:Str}{v:Value}
theorem Zvi {Q:Unit->Shared->Prop}(X:K.In s.heap)(hx:s.heap.get? x=some ⟨.ref C,none,.fields vs,#[]⟩)(hc:PySem.W.clsIn K C=some cd)(hh:cd.hasDict=true)
 (mo:PySem.W.mroIn K C (.type "object")=some true)(hl:refuseLoop (.ref x) "__setattr__" cd.mro=pure ())(hs:W.findIn K (.ref C) "__setattr__" = some (some (.builtin "object.__setattr__")))(ht:W.findIn K (.ref C) name=some none)
 (h:∀ h' d t',h'.get? x=some ⟨.ref C,some d,.fields vs,#[]⟩->h'.Ns1 d (fun y=>if y=name then some v else none)->s.heap.objs.size<=d->(∀ b o,b≠x->s.heap.get? b=some o->h'.get? b=some o)->Q () { s with heap:=h',toks:=t' }) :
 wpAny (model prog w) A (setAttr (.ref x) name v) Q E s:=by
 have I:PySem.W.InstAt s.heap x ⟨.ref C,none,.fields vs,#[]⟩ C none:=⟨hx,rfl,rfl,trivial⟩
 have SO:=PySem.F.store_object;refine PySem.W.set_plain X I hs ?_;have isO:PySem.W.Looks (model prog w) s.heap (isInstance (.ref x) (.type "object")) true:=I.type.andThen (PySem.W.looks_mroIn X mo);have mro:PySem.W.Looks (model prog w) s.heap (mroOf (.ref C)) cd.mro:=(PySem.W.looks_clsIn X hc).andThen .now;have ag:argsOk "object.__setattr__" ⟨[.ref x,.str name s.toks,v],[]⟩:=SO.args (.ref x) (.str name s.toks) v;refine codeAny_call_builtin SO.slot.plain SO.entry (PySem.W.check_slot (i:="object.__setattr__") (owner:="object") (n:="__setattr__") (self:=.ref x)
  (rest:=[.str name s.toks,v]) (kw:=[]) (s:={ s with toks:=s.toks+1 }) SO.kind SO.split isO ag ?_)
 rw[PySem.W.osa_eq,refuse_eq];refine Xaa (Xaa (I.type _ _ _ _ (fun _ _ e=>e) (Xaa (mro _ _ _ _ (fun _ _ e=>e) ?_))));rw[hl];refine Xak (Xaa (I.type _ _ _ _ (fun _ _ e=>e) (Xaa (Xb1 X ht _ _ _ _ (fun _ _ e=>e) ?_))));refine Xaa (Xak ?_);refine Xaa (Xak (Xaa (Xaa (wpAny_loadPart (s:={ s with toks:=s.toks+1 }) hx ?_))));refine Xaa (PySem.W.looks_clsIn X hc _ _ _ _ (fun _ _ e=>e) ?_);rw[hh];show wpAny (model prog w) A.in1 (alloc { cls:=.type "dict",data:=.dict #[] } >>= fun d=>update x (fun o=>{ o with dict:=some d }) >>= fun _=>dictMade (.ref C) x d) _ _ _;have lt:=Xai hx;have nx:x≠s.heap.objs.size:=Xaw lt;refine Xaa (wpAny_alloc ?_);have hx1:(s.heap.push { cls:=.type "dict",data:=.dict #[] }).get? x=some ⟨.ref C,none,.fields vs,#[]⟩:=Xac _ hx;refine Xaa (wpAny_update hx1 (Xak ?_));have hd:((s.heap.push { cls:=.type "dict",data:=.dict #[] }).update x fun o=>{ o with dict:=some s.heap.objs.size }).get? s.heap.objs.size=some { cls:=.type "dict",data:=.dict #[] }:=
  (Xa5 _ _ nx).trans (Xau _ rfl)
 have hn:((s.heap.push { cls:=.type "dict",data:=.dict #[] }).update x fun o=>{ o with dict:=some s.heap.objs.size }).Ns s.heap.objs.size (fun _=>none):=
  ⟨_,#[],_,hd,rfl,fun e he=>absurd he (by simp),fun _=>rfl⟩
 show wpAny (model prog w) A.in1 (Builtin.ObjectAttr.storeInDict s.heap.objs.size (.str name s.toks) name v) _ _ _;unfold Builtin.ObjectAttr.storeInDict Builtin.ObjectAttr.newKeyGuard;refine Xaa (Xak (Xaa (wpAny_nsSet1 (.of_empty hn) fun h2 n2 s2=>?_)));obtain⟨oD,es,ep,ho,hd2,hk⟩:=n2.count (Within.cons name v Within.nil);have fits:oD.data.pastItsLine=none:=by
  rw[hd2];exact pastItsLine_dict (Xan hk (by show 1<=sizeLine+1;decide))
 refine Xaa (wpAny_lookBehind ho fits ?_)
 wp_walk
 refine h h2 s.heap.objs.size _ ?_ n2 (Xae _) fun b o hb e=>?_
 . exact(s2.2 x nx).trans (Xa9 _ hx1 rfl)
 . exact(s2.2 b (Xaw (Xai e))).trans ((Xa5 _ _ (Ne.symm hb)).trans (Xac _ e))
end
section
variable {X:Cx}
theorem Zno {a b:Str}{ja jb:Nat}{pa pb pv' pos:Pos}{e:Expr}{te:TE}(he:PE X e te)(hab:a.length+b.length<=1000):PE X (.JoinedStr [.Constant (.str a) ja pa,.FormattedValue e (-1) none pv',.Constant (.str b) jb pb] pos)
 (fun σ H Q=>te σ H fun x H1=>∃ i:Int,x = .int i/\i.natAbs.log2<1920/\∀ z,z.length<=sizeLine->Q (.str z) H1):=by
 intro aa s σ H Q I h;refine wpAny_JoinedStr ?_;have hz:sizeLine=16777216:=Xam;have l0:(Str.empty:Str).length=0:=rfl;show wpAny (model X.prog X.w) X.A (eval (.Constant (.str a) ja pa) X.env) _ X.xe s;refine Calls.Constant_str ⟨a,_,rfl,by rw[strLen_append,l0,hz];omega,?_⟩;show wpAny (model X.prog X.w) X.A (eval (.FormattedValue e (-1) none pv') X.env) _ X.xe _;refine wpAny_FormattedValue_plain (thn (he aa _ σ H _ (I.tok _) h) fun v s1 hz=>?_);obtain⟨x,H1,I1,r1,i,ex,hi,q⟩:=hz;subst ex;obtain⟨t,rfl⟩:=r1;have li:=int_text_len_1921 hi;refine wpAny_formatField_int hi ⟨_,_,rfl,by rw[strLen_append,strLen_append,l0,hz];omega,?_⟩;show wpAny (model X.prog X.w) X.A (eval (.Constant (.str b) jb pb) X.env) _ X.xe _;have lz:((Str.empty++a++Str.ofString (toString i))++b).length<=sizeLine:=by
  rw[strLen_append,strLen_append,strLen_append,l0,hz];omega
 refine Calls.Constant_str ⟨b,_,rfl,lz,lz,?_⟩;exact⟨.str _,H1,I1.tok _,⟨_,rfl⟩,q _ lz⟩
def Ex0 (C e:Addr):Heap->Prop:=fun h=>∃ t,h.get? e=some (Zlo C t)
def Ex1 (C e d:Addr):Heap->Prop:=fun h=>∃ t,h.get? e=some { Zlo C t with dict:=some d }
def RowO (name:Str)(v:V)(od:Obj):Prop:=∀ (h:Heap)(d:Addr),h.get? d=some od->∃ m u,h.Ns1 d m/\m name=some u/\RelV v u
structure XSet (K:W.Frag)(C:Addr)(name:Str):Prop where
 ex:∃ cd,PySem.W.clsIn K C=some cd/\cd.hasDict=true/\∀ x,refuseLoop (.ref x) "__setattr__" cd.mro=pure ()
 mo:PySem.W.mroIn K C (.type "object")=some true
 sa:W.findIn K (.ref C) "__setattr__" = some (some (.builtin "object.__setattr__"))
 no:W.findIn K (.ref C) name=some none
def sXrow (C:Addr)(name:Str)(ta tv:TE):TS:=fun D σ H=>tv σ H fun v H1=>ta σ H1 fun x H2=>∃ e,x = .ref e/\H2 e=some (.ext (Ex0 C e))/\
 ∀ d od,H2 d=none->RowO name v od->D.nx σ (upd (upd H2 e (.ext (Ex1 C e d))) d (.frz od (.own 0)))
theorem Zn4 {C:Addr}{o value:Expr}{f:Str}{ta tv:TE}{pos pos':Pos}(T:XSet X.K C f)(ha:PE X o ta)(hv:PE X value tv)(hs:swapsWith value (some (.Attribute o f pos')) pos.line X.env=pure false) :
 PS X (.Assign [.Attribute o f pos'] value pos) (sXrow C f ta tv):=by
 intro aa s σ H D I h;refine plainObj_wpAny_Assign_Attribute (thn (hv aa s σ H _ I h) fun u s1=>ex5 fun y H1 I1 ry q=>thn (ha aa s1 σ H1 _ I1 q) fun ov s2 hz=>?_) hs;obtain⟨x,H2,I2,rx,e,ex,he,q2⟩:=hz;subst ex;obtain rfl:ov=Value.ref e:=rx;obtain⟨⟨t,ht⟩,_,_⟩:=I2.hok _ _ he;obtain⟨cd,hc,hh,hl⟩:=T.ex;refine Zvi I2.kIn ht hc hh T.mo (hl e) T.sa T.no fun h' d t' hx n nsz k=>?_;have nd:s2.heap.get? d=none:=Xb4 nsz;have I3:Inv X aa σ (upd H2 e (.ext (Ex1 C e d))) { s2 with heap:=h',toks:=t' }:=by
  refine I2.write (x:=e) (e:=e) (by rw[he];trivial) (.inl rfl) (fun b w hb z=>k b w hb z) ⟨_,hx⟩ ⟨⟨t,hx⟩,⟨_,hx⟩,fun h1 h2 ⟨t1,z⟩ kk=>⟨t1,kk _ z⟩⟩
 obtain⟨od,es,ep,e1,e2,e3,e4,e5⟩:=id n;have ned:d≠e:=by rintro rfl;rw[ht] at nd;cases nd
 have h0:H2 d=none:=by
  cases z:H2 d with
  | none=>rfl
  | some w'=>obtain⟨ob,zb⟩:=(I2.hok _ _ z).there;rw[nd] at zb;cases zb
 have I4:=I3.track' (a:=d) (o:=od) e1 (by rw[Zaf ned];exact h0) ?_ ?_ ?_ ?_
 . refine⟨σ,_,I4,q2 d od h0 fun h3 d3 z3=>⟨_,u,⟨od,es,ep,z3,e2,e3,e4,e5⟩,by simp,ry⟩⟩
 . rintro rfl;obtain⟨m,⟨o,_,_,z,_⟩,_⟩:=I2.loc;rw[nd] at z;cases z
 . rintro y c z rfl;obtain⟨_,o,z2,_⟩:=I2.cell y _ z;rw[nd] at z2;cases z2
 . rintro p hp rfl;have z:=(I2.pin p hp).1;rw[nd] at z;cases z
 . exact Xb4 (Xan I2.sz nsz)
end
noncomputable abbrev Zvq:List Value:=[.type "ValueError",.type "Exception",.type "BaseException",.type "object"]
structure Ztb (K:W.Frag)(C:Addr):Prop where
 ex:∃ (nm q:Str) (N:Addr) (bs bm:List Value) (hdct:Bool) (sn:List Str) (sub:List Value) (ab:Bool) (col:Option Bool) (dd:Option Addr) (k0 k1 k2 k3 k5:Option Value),
  K.lookup C=some (excClassObj nm q C N bs bm hdct sn sub ab col dd k0 k1 k2 k3 k5 "ValueError.__new__")/\tailQ K Zvq bm=true/\bm.contains (Value.type "BaseException")=true
theorem Zxh {H:Hp}{a:Addr}{o:HO}(h:H a=some o):upd H a o=H:=by
 funext b
 unfold upd;split
 . next e=>rw[e,h]
 . rfl
section
variable {X:Cx}{C:Addr}
theorem Zmr (T:Ztb X.K C):Zd8 X (.builtin "ValueError.__init__") (fun xs H Q=>∃ e z,xs=[.ref e,.str z]/\H e=some (.ext (Ex0 C e))/\Q .non H):=by
 intro aa s σ H xs us Q I r h;obtain⟨e,z,rfl,he,q⟩:=h;obtain⟨u,w',rfl,ru,rz⟩:=Znn r;obtain rfl:u=Value.ref e:=ru;obtain⟨tz,rfl⟩:=rz;obtain⟨⟨t,ht⟩,_,_⟩:=I.hok _ _ he;obtain⟨nm,q',N,bs,bm,hdct,sn,sub,ab,col,dd,k0,k1,k2,k3,k5,lk,tl,has⟩:=T.ex;have XK:=I.kIn;have hC:=XK _ _ lk;have tail:=(tailQ.ok XK tl).tail;have F:=F.excBase_ValueError;have done:∀ h' tk',(∀ b o,b≠e->s.heap.get? b=some o->h'.get? b=some o)->(∃ t',h'.get? e=some (Zlo C t'))->EP X aa σ Q .none { s with heap:=h',toks:=tk' }:=fun h' tk' k ⟨t',z'⟩=>by
  have I':Inv X aa σ (upd H e (.ext (Ex0 C e))) { s with heap:=h',toks:=tk' }:=
   I.write (x:=e) (e:=e) (by rw[he];trivial) (.inl rfl) (fun b w hb y=>k b w hb y) ⟨_,z'⟩ ⟨⟨t',z'⟩,⟨_,z'⟩,fun h1 h2 ⟨t1,y⟩ kk=>⟨t1,kk _ y⟩⟩
  rw[Zxh he] at I';exact⟨.non,H,I',rfl,q⟩
 obtain⟨hp,g,d,tk,os⟩:=s;refine Xb5 (codeAny_call_builtin F.init.plain F.initEntry (wpAny_check_init_subU F tail hC ht rfl ?_))
 wp_walk
 refine done _ _ (fun b o hb y=>?_) ⟨hp.objs.size,?_⟩
 . rw[Xa5 _ _ (Ne.symm hb)];exact Xac _ y
 . rw[Xa9 _ (Xac _ ht) rfl]
   rfl
structure Zq4 (K:W.Frag)(B:Addr):Prop where
 sp:PySem.W.specialIn K (.ref B) "__getattribute__" = some (some (.builtin "type.__getattribute__"))
 rd:PySem.W.readsIn K B (.type "type")=true
 fc:PySem.W.findCls K (.ref B) (.type "type") "__init__" = some (.val (.builtin "ValueError.__init__"))
theorem Zkz {pl:Sem Bool}{x:Str}{B:Addr}{e:Expr}{es:List Expr}{t:TA}{np ae pos:Pos}(T:Ztb X.K C)(R:Zq4 X.K B)(hg:Gl X x)(hm:X.mg x=some (.ref B))(ha:PA X (e :: es) t)(hdb:NDa x:=by decide)
 (he:SEa X e es:=by rfl)(hpl:SPa X es pos:=by rfl)
 (ht:eval (.Call (.Attribute (.Name x np) "__init__" ae) (e :: es) [] pos) X.env=(do
  let ov <- eval (.Name x np) X.env
  standAt ae.atName
  let (f,first) <- holding [ov] (getMethod ov "__init__" pl)
  callWith pos f first (backTo pos (starEach (e :: es) X.env)) (backToKw pos (keywordEach [] X.env))):=by rfl) :
 PE X (.Call (.Attribute (.Name x np) "__init__" ae) (e :: es) [] pos) (tCB (fun xs H Q=>∃ e z,xs=[.ref e,.str z]/\H e=some (.ext (Ex0 C e))/\Q .non H) t):=by
 intro aa s σ H Q I h;refine Xby (pl:=pl) (Zcp I hg hm ?_ hdb) ht;refine PySem.W.method_cls I.kIn R.sp (PySem.W.cls_value I.kIn R.rd R.fc rfl ?_);exact PyProof.Rows.callWith_builtin1 (thn (ha pos aa _ σ H _ (I.tok _) h) fun us s1=>ex5 fun vs H1 I1 r1 q1=>Zmr T aa s1 σ H1 vs us Q I1 r1 q1) he hpl
end
theorem Znm {K:W.Frag}{h:Heap}{N:Addr}{m:Str->Option Value}{x:Str}{v:Value}(hk:K.In h)(hm:h.Ns N m)(hv:W.nsIn K N x=some (some v)):m x=some v:=by
 obtain⟨ob,es,ep,ho,hd,_,look⟩:=hm;unfold W.nsIn at hv;split at hv
 . next lk=>
   have there:=hk _ _ lk;rw[ho] at there;cases there
   cases hd
   split at hv
   . next en he=>
     rw[<- look x];unfold nsFind findBy;rw[<- Array.find?_toList,he];simpa using hv
   . split at hv <;> cases hv
 . cases hv
structure Zhi (K:W.Frag)(C fi:Addr):Prop where
 ex:∃ (nm q:Str) (N:Addr) (bs bm:List Value) (hdct:Bool) (sn:List Str) (sub:List Value) (ab:Bool) (col:Option Bool) (dd:Option Addr) (k0 k1 k2 k3 k5:Option Value),
  K.lookup C=some (excClassObj nm q C N bs bm hdct sn sub ab col dd k0 k1 k2 k3 k5 "ValueError.__new__")/\tailQ K Zvq bm=true/\bm.contains (Value.type "BaseException")=true/\
  PySem.W.nsOkIn K N=true/\W.nsIn K N "__init__" = some (some (.ref fi))
 fn:∃ fo,K.lookup fi=some fo/\fo.cls = .type "function"
 kp:W.keepIn K (.ref C)=true
section
variable {X:Cx}{C fi:Addr}{k:Nat}{fd:FuncData}{ps:List Str}{sp:Sp}
theorem Zoz {aa:List (Addr×Obj)}{σ:St}{H:Hp}{s:Shared}{Q:VK}{us:List Value}{vs:List V}(T:Zhi X.K C fi)(F:FnOk X.prog X.w X.K X.mg X.base CX0 k fi fd ps sp)(hr:Room (k+1) X.A)(hb:Binds X.K fd ps [])
 (I:Inv X aa σ H s)(r:Vals vs us)(hl:us.length<=sizeLine)(h:∀ e,H e=none->X.s₀.heap.get? e=none->sp (.ref e :: vs) (upd H e (.ext (Ex0 C e))) (fun v H2=>v = .non/\Q (.ref e) H2) E0) :
 wpAny (model X.prog X.w) X.A (call (.ref C) us) (EP X aa σ Q) X.xe s:=by
 obtain⟨nm,q',N,bs,bm,hdct,sn,sub,ab,col,dd,k0,k1,k2,k3,k5,lk,tl,has,no,ni⟩:=T.ex;obtain⟨fo,lf,fc⟩:=T.fn;have XK:=I.kIn;have tail:=(tailQ.ok XK tl).tail;have FB:=PySem.F.excBase_ValueError;have hn:=Heap.Ns.of_isNs (PySem.W.isNs_of_in XK no);have hi:s.heap.nsMap N "__init__" = some (.ref fi):=Znm XK hn ni;have he:(Zmg s.heap C us).get? (s.heap.objs.size+1)=some (Zlo C s.heap.objs.size):=by
  have:=Xau (s.heap.push (tupO us)) (o:=Zlo C s.heap.objs.size) rfl
  rwa [Heap.size_push] at this
 have I2:Inv X aa σ (upd H (s.heap.objs.size+1) (.ext (Ex0 C (s.heap.objs.size+1)))) { s with heap:=Zmg s.heap C us }:=
  I.laid (t':=s.toks) (fun b o e=>Xac _ (Xac _ e)) (Nat.le_succ _) ⟨⟨_,he⟩,⟨_,he⟩,fun h1 h2 ⟨t1,y⟩ kk=>⟨t1,kk _ y⟩⟩
 have hq:=h (s.heap.objs.size+1) (I.hok.fresh (Nat.le_succ _)) (Xb4 (Xan I.sz (Nat.le_succ _)));have r2:Vals (V.ref (s.heap.objs.size+1) :: vs) (Value.ref (s.heap.objs.size+1) :: us):=.cons rfl r;have ai:(Value.ref (s.heap.objs.size+1) :: us++[]).length=ps.length:=by
  have e:=r2.length;rw[F.len _ _ _ _ hq] at e;rw[Xba];exact e.symm
 have bd:=hb { s with heap:=Zmg s.heap C us } (Value.ref (s.heap.objs.size+1) :: us) I2.kIn ai;rw[Xba] at bd;obtain⟨hp,g,d,t,os⟩:=s;refine Ze2 FB (by decide) FB tail (XK _ _ lk) hn hi (XK _ _ lf) fc hl ?_;refine Xb5 (codeAny_mono (F.run _ X.stack _ _ ⟨Value.ref (hp.objs.size+1) :: us,[]⟩ _ _ _ E0 (hr.make C us []) (I2.env0.make C us []) bd r2 hq) fun r s' hq'=>?_);cases r with
 | error e=>exact Zb6 aa σ _ _ e s' I2 hq'
 | ok fl=>
  cases fl with
  | ret u=>
   obtain⟨v,H',I3,rv,ev,q3⟩:=I2.after hq';subst ev;exact⟨rv,V.ref (hp.objs.size+1),H',I3,rfl,q3⟩
  | next=>exact False.elim hq'
  | brk=>exact False.elim hq'
  | cont=>exact False.elim hq'
end
section
variable {X:Cx}{C fi:Addr}{k:Nat}{fd:FuncData}{ps:List Str}{sp:Sp}
def Zky (h0:Heap)(C:Addr)(sp:Sp)(t:TA):TE:=fun σ H Q=>t σ H fun vs H1=>vs.length<=1000/\∀ e,H1 e=none->h0.get? e=none->sp (.ref e :: vs) (upd H1 e (.ext (Ex0 C e))) (fun v H2=>v = .non/\Q (.ref e) H2) E0
theorem Zse {x:Str}{e:Expr}{es:List Expr}{t:TA}{p pos:Pos}(T:Zhi X.K C fi)(F:FnOk X.prog X.w X.K X.mg X.base CX0 k fi fd ps sp)(hr:Room (k+1) X.A)(hb:Binds X.K fd ps [])(hg:Gl X x)(hm:X.mg x=some (.ref C))(ha:PA X (e :: es) t)
 (hdb:NDa x:=by decide)(he:SEa X e es:=by rfl)(hpl:SPa X es pos:=by rfl) :
 PE X (.Call (.Name x p) (e :: es) [] pos) (Zky X.s₀.heap C sp t):=by
 intro aa s σ H Q I h;refine Xbp (Zcp I hg hm ?_ hdb);refine Xbq (h₀:=X.base) I.ok.mod.kin T.kp (thn (ha pos aa s σ H _ I h) fun us s1 ⟨vs,H1,I1,r,hl,q⟩=>⟨I1.kIn,?_⟩) he hpl;exact Zoz T F hr hb I1 r (by show us.length<=_;rw[<- r.length,Xam];omega) q
end
section
variable {M:Model}{A:Around}{E:Value->Shared->Prop}{env:Env}{s:Shared}
variable {nm q:Str}{C N:Addr}{bs bm:List Value}{hdct:Bool}{sn:List Str}{sub:List Value}{ab:Bool}{col:Option Bool}{dd:Option Addr}{k0 k1 k2 k3 k5:Option Value}{newId:String}
theorem Zlp {x:Sem Value}{Q:Flow->Shared->Prop}(hbase:bm.contains (.type "BaseException")=true)(hh:A.handled=none)
 (h:wpAny M A x (fun v s1=>∃ e t d,v = .ref e/\s1.heap.get? C=some (excClassObj nm q C N bs bm hdct sn sub ab col dd k0 k1 k2 k3 k5 newId)/\s1.heap.get? e=some { Zlo C t with dict:=some d }/\E (.ref e) s1) E s) :
 wpAny M A (raiseStmt env (some x) none) Q E s:=by
 have isB:(Value.ref C :: bm).contains (.type "BaseException")=true:=by rw[List.contains_cons,hbase,Bool.or_true]
 unfold raiseStmt;refine Xaa (Xaq h (fun v s1 z=>?_) fun _ _ z=>z);obtain⟨e,t,d,rfl,hC,he,hE⟩:=z;obtain⟨hp,g,dr,tk,os⟩:=s1
 repeat first | (with_reducible refine Xb7 he ?_) | (with_reducible refine Xb7 hC ?_) | ((with_reducible refine wpAny_isSubtype_exc hC ?_);rw[isB]) | wp_step
 exact wpAny_raiseNew_none hh hE
end
section
variable {X:Cx}
noncomputable def drp (H:Hp) (a:Addr):Hp:=fun b=>if b=a then none else H b
theorem Zcm {H:Hp}{a b:Addr}(h:b≠a):drp H a b=H b:=if_neg h
theorem Zdu {H:Hp}{a:Addr}:drp H a a=none:=if_pos rfl
theorem Inv.drop {aa:List (Addr×Obj)}{σ:St}{H:Hp}{s:Shared}{a:Addr}{φ:Heap->Prop}(I:Inv X aa σ H s)(h:H a=some (.ext φ)):Inv X aa σ (drp H a) s:=by
 have ne:∀ {b:Addr}{o:HO},H b=some o->(∀ ψ,o≠.ext ψ)->b≠a:=fun z n e=>by subst e;rw[h] at z;cases z;exact n _ rfl
 have no:∀ b,H b=none->drp H a b=none:=fun b z=>by
  by_cases e:b=a
  . rw[e];exact Zdu
  . rw[Zcm e];exact z
 refine⟨I.ok,I.os,I.bare,⟨I.base.keep,I.base.slot,fun b o e n x=>no b (I.base.free b o e n x),I.base.there,fun b xs e=>?_,fun b o u e=>?_,fun b ps e=>?_⟩,I.loc,I.cell,no _ I.free,fun x c e=>?_,fun p hp=>?_,fun b o z=>?_,I.len⟩
 . have q:=I.base.tups b xs e;rw[Zcm (ne q fun _ z=>nomatch z)];exact q
 . have q:=I.base.frzs b o u e;rw[Zcm (ne q fun _ z=>nomatch z)];exact q
 . obtain⟨more,q⟩:=I.base.tbls b ps e;exact⟨more,by rw[Zcm (ne q fun _ z=>nomatch z)];exact q⟩
 . rcases I.freeC x c e with z | ⟨z1,o,z⟩
   . exact .inl (no c z)
   . exact .inr ⟨z1,o,by rw[Zcm (ne z fun _ y=>nomatch y)];exact z⟩
 . obtain⟨e,n,r⟩:=I.pin p hp;exact⟨e,no _ n,r⟩
 . have hb:b≠a:=fun e=>by rw[e,Zdu] at z;cases z
   rw[Zcm hb] at z;exact(I.hok b o z).stay (fun c v _ y=>y) (fun c y=>by rw[Zcm (ne y fun _ q=>nomatch q)];exact y) fun c xs y=>by rw[Zcm (ne y fun _ q=>nomatch q)];exact y
end
def DictAt (h:Heap)(e d:Addr):Prop:=∃ oe,h.get? e=some oe/\oe.dict=some d
theorem DictAt.kp {h h':Heap}{e d:Addr}(x:DictAt h e d)(k:KpH h h'):DictAt h' e d:=by
 obtain⟨oe,e1,e2⟩:=x;obtain⟨o',e3,kr⟩:=k e oe e1;exact⟨o',e3,kr.2.1.trans e2⟩
def ChO (H:Hp)(e:Addr)(oe:Obj):Prop:=∃ vs,oe.data = .fields vs/\(vs[2]? = some Value.none\/∃ e1 o1 v1,vs[2]? = some (.ref e1)/\e1≠e/\H e1=some (.frz o1 (.own 0))/\o1.data = .fields v1/\v1[2]? = some Value.none)
def Chn (H:Hp)(h:Heap)(e:Addr):Prop:=∃ oe,h.get? e=some oe/\ChO H e oe
theorem Chn.kp {H:Hp}{h h':Heap}{e:Addr}(x:Chn H h e)(k:KpH h h'):Chn H h' e:=by
 obtain⟨oe,e1,vs,e2,e3⟩:=x;obtain⟨o',e4,kr⟩:=k e oe e1;obtain⟨vs',e5,_,e6⟩:=kr.2.2.2 vs e2;refine⟨o',e4,vs',e5,?_⟩;rw[e6 2 (by decide) (by decide)];exact e3
def CXR (P:Program)(w:World):CXT:=fun outer H s E e s'=>∃ ea t C B H' d,e = .ref ea/\Fly P w outer H H' s C ea t B s'/\DictAt s'.heap ea d/\Chn H' s'.heap ea/\E (.ref C) (some d) H'
def Zi4 (X:Cx)(E:XK):Prop:=∀ (aa:List (Addr×Obj))(σ:St)(H:Hp)(s:Shared)(e C t d:Addr),Inv X aa σ H s->s.heap.get? e=some { Zlo C t with dict:=some d }->H e=none->X.s₀.heap.get? e=none->E (.ref C) (some d) H->X.xe (.ref e) s
theorem Zdx {N:List Str}{qual:Str}{scope:Scope}{f:Addr}{cd:Value}{A:Around}{outer:List Env}{s:Shared}{H:Hp}{E:XK} :
 Zi4 (Zc1 (CXR P w) P w K mg base N qual scope f cd A outer s H E) E:=by
 intro aa σ H1 s1 e C t d I he hne h0 q;have h0:s.heap.get? e=none:=h0;have hfr:∀ b∈frs (envOfC qual scope s.heap.objs.size f cd :: outer),H1 b=none:=I.stkFree;have hsub:∀ b∈frs outer,b∈frs (envOfC qual scope s.heap.objs.size f cd :: outer):=fun b hb=>Xal _ hb;have noex:∀ b:Addr,b∉(Zc1 (CXR P w) P w K mg base N qual scope f cd A outer s H E).ex:=fun b z=>absurd (show b∈([]:List Addr) from z) (by simp);have hB:∀ {b o},s1.heap.get? b=some o->b≠e->b∉frs (envOfC qual scope s.heap.objs.size f cd :: outer)->(W.hideAll s1.heap (e :: frs (envOfC qual scope s.heap.objs.size f cd :: outer))).get? b=some o:=fun z n1 n2=>W.hideAll_get _ z (fun y=>(List.mem_cons.mp y).elim n1 n2);have hnew:∀ b o,s.heap.get? b=some o->b∉frs outer->b∉frs (envOfC qual scope s.heap.objs.size f cd :: outer):=fun b o z n y=>by
  rcases List.mem_cons.mp (show b∈s.heap.objs.size :: frs outer from y) with y | y
  . exact absurd (Xai z) (by rw[y];exact Xbl _)
  . exact n y
 have nee:∀ b o,s.heap.get? b=some o->b≠e:=fun b o z y=>by rw[y,h0] at z;cases z
 have hBe:(W.hideAll s1.heap (e :: frs (envOfC qual scope s.heap.objs.size f cd :: outer))).get? e=none:=Xbr _ Xaz;have stays:(W.hideAll s1.heap (e :: frs (envOfC qual scope s.heap.objs.size f cd :: outer))).StaysIn s1.heap:=fun b o z=>PySem.W.of_hideAll _ z;have funs:=Zb0 (b2:=W.hideAll s1.heap (e :: frs (envOfC qual scope s.heap.objs.size f cd :: outer))) I.stack fun a ha=>Xbr _ (Xal _ ha);have trkne:∀ b u,H1 b=some u->b≠e:=fun b u z y=>by rw[y,hne] at z;cases z
 have keepT:∀ b u,H1 b=some u->b∉frs (envOfC qual scope s.heap.objs.size f cd :: outer):=fun b u z y=>by rw[hfr b y] at z;cases z
 have step:=wpAny_leaving_firstW (M:=model P w) (E:=fun _ _=>False) (a0:=.ref t) (Q:=fun _ s'=>∃ h',s'={ s1 with heap:=h' }/\Heap.LeftW (W.hideAll s1.heap (e :: frs (envOfC qual scope s.heap.objs.size f cd :: outer))) (envOfC qual scope s.heap.objs.size f cd :: outer) e (.ref C) (.ref t) s1.heap h')
  I.ok.frames funs rfl he stays hBe rfl rfl rfl fun h' hL=>⟨h',rfl,hL⟩
 refine Xaq (Zbb (Zda _ _) step) (fun _ s' z=>?_) fun _ _ z=>z.1.elim;obtain⟨⟨h2,rfl,k1,⟨_,_,k2⟩,k3,up⟩,kh⟩:=z;have old:∀ b o,s.heap.get? b=some o->H b=none->b∉frs outer->(W.hideAll s1.heap (e :: frs (envOfC qual scope s.heap.objs.size f cd :: outer))).get? b=some o:=fun b o z n nf=>
  hB (I.base.keep b o z n nf (noex b)) (nee b o z) (hnew b o z nf)
 have slot:∀ b o,s.heap.get? b=some o->b∈frs outer->∃ sl,h2.get? b=some { o with slots:=sl }:=fun b o z hb=>by
  obtain⟨sl,e1⟩:=I.base.slot b o z (I.ok.frf b hb) hb (noex b);obtain⟨_,o2,e2,d2⟩:=I.ok.funs.mem hb;have e2':s.heap.get? b=some o2:=e2;rw[z] at e2';cases e2';obtain⟨sl2,e3⟩:=up b _ e1 d2;exact⟨sl2,e3⟩
 have all:∀ b o,s.heap.get? b=some o->b∈frs outer\/∃ o',(W.hideAll s1.heap (e :: frs (envOfC qual scope s.heap.objs.size f cd :: outer))).get? b=some o':=fun b o z=>by
  by_cases hb:b∈frs outer
  . exact .inl hb
  . obtain⟨o',e1⟩:=I.base.there b o z (noex b);exact .inr ⟨o',hB e1 (nee b o z) (hnew b o z hb)⟩
 refine⟨e,t,C,_,H1,d,rfl,⟨I.os,I.bare,⟨k1,hBe,k2,k3⟩,⟨fun b o z n nf _=>k1 _ _ (old b o z n nf),fun b o z n hb _=>slot b o z hb,I.base.free,fun b o z _=>?_,I.base.tups,I.base.frzs,I.base.tbls⟩,fun a u z=>?_,old,fun b u z=>⟨fun y=>keepT b u z (hsub b y),fun o zo=>?_⟩,all⟩,DictAt.kp ⟨_,he,rfl⟩ kh,Chn.kp ⟨_,he,_,rfl,.inl rfl⟩ kh,q⟩
 . rcases all b o z with hb | ⟨o',y⟩
   . obtain⟨sl,y⟩:=slot b o z hb;exact⟨_,y⟩
   . exact⟨o',k1 _ _ y⟩
 . refine(I.hok a u z).stay (fun b v hb hv=>k1 _ _ ?_) (fun _ y=>y) fun _ _ y=>y;rcases hb with rfl | hb
   . exact hB hv (trkne _ _ z) (keepT _ _ z)
   . exact hB hv (trkne _ _ hb) (keepT _ _ hb)
 . obtain⟨o',e1⟩:=(I.hok b u z).there;have e2:=hB e1 (trkne b u z) (keepT b u z);have e3:=k1 _ _ e2;rw[zo] at e3;cases e3;exact e2
section
variable {X:Cx}{C fi:Addr}{k:Nat}{fd:FuncData}{ps:List Str}{sp:Sp}
def Zjm (h0:Heap)(C:Addr)(sp:Sp)(E:XK)(t:TA):TS:=fun _ σ H=>Zky h0 C sp t σ H fun v H2=>∃ e d,v = .ref e/\h0.get? e=none/\H2 e=some (.ext (Ex1 C e d))/\E (.ref C) (some d) (drp H2 e)
theorem Zm7 {x:Str}{E:XK}{e:Expr}{es:List Expr}{t:TA}{np af pos:Pos}(hx:Zi4 X E)(hh:X.A.handled=none)(T:Zhi X.K C fi)(F:FnOk X.prog X.w X.K X.mg X.base CX0 k fi fd ps sp)(hr:Room (k+1) X.A)(hb:Binds X.K fd ps [])(hg:Gl X x)(hm:X.mg x=some (.ref C))(ha:PA X (e :: es) t)
 (hdb:NDa x:=by decide)(he:SEa X e es:=by rfl)(hpl:SPa X es af:=by rfl) :
 PS X (.Raise (some (.Call (.Name x np) (e :: es) [] af)) none pos) (Zjm X.s₀.heap C sp E t):=by
 intro aa s σ H D I h;obtain⟨nm,q',N,bs,bm,hdct,sn,sub,ab,col,dd,k0,k1,k2,k3,k5,lk,tl,has,no,ni⟩:=T.ex;have mk:=Zse (p:=np) (pos:=af) T F hr hb hg hm ha hdb he hpl aa s σ H _ I h;rw[arm_exec_Raise];refine Xaa (wpAny_standAt (Zlp (C:=C) (nm:=nm) (q:=q') (N:=N) (bs:=bs) (bm:=bm) (hdct:=hdct) (sn:=sn) (sub:=sub) (ab:=ab) (col:=col) (dd:=dd) (k0:=k0) (k1:=k1) (k2:=k2) (k3:=k3) (k5:=k5) (newId:="ValueError.__new__") has hh ?_));refine Xaa (Xaq mk (fun v s1 z=>Xaa (wpAny_standAt (Xak ?_))) fun _ _ z=>z);obtain⟨x',H2,I2,rx,a,d,rfl,n0,h2,q⟩:=z;obtain rfl:v=Value.ref a:=rx;obtain⟨⟨t',ht⟩,_,_⟩:=I2.hok _ _ h2;exact⟨a,t',d,rfl,I2.kIn _ _ lk,ht,hx aa σ _ s1 a C t' d (I2.drop h2) ht Zdu n0 q⟩
end
theorem Zdb {N:List Str}{qual:Str}{scope:Scope}{f:Addr}{cd:Value}{A:Around}{outer:List Env}{s:Shared}{H:Hp}{E:XK} :
 Zbu (CXR P w) (Zc1 (CXR P w) P w K mg base N qual scope f cd A outer s H E) E:=by
 intro aa σ H1 s1 ev s2 I hq;obtain⟨ea,t,C,B,H2,d,rfl,F,da,ch,q⟩:=hq;have F:Fly P w (envOfC qual scope s.heap.objs.size f cd :: outer) H1 H2 s1 C ea t B s2:=F;have hsub:∀ b∈frs outer,b∈frs (envOfC qual scope s.heap.objs.size f cd :: outer):=fun b hb=>Xal _ hb;have hnew:∀ b o,s.heap.get? b=some o->b∉frs outer->b∉frs (envOfC qual scope s.heap.objs.size f cd :: outer):=fun b o e n z=>by
  rcases List.mem_cons.mp (show b∈s.heap.objs.size :: frs outer from z) with z | z
  . exact absurd (Xai e) (by rw[z];exact Xbl _)
  . exact n z
 have noex:∀ b:Addr,b∉(Zc1 (CXR P w) P w K mg base N qual scope f cd A outer s H E).ex:=fun b z=>absurd (show b∈([]:List Addr) from z) (by simp);have step:=wpAny_leaves_onW (M:=model P w) (E:=fun _ _=>False) (s:=s2) (base:=B) (env:=envOfC qual scope s.heap.objs.size f cd) (outer:=outer) (L:=s.heap.objs.size) (Q:=fun _ s'=>∃ h',s'={ s2 with heap:=h' }/\B.FlyingW outer ea (.ref C) (.ref t) h'/\s2.heap.UpToSlots h') I.ok.frames rfl F.fly fun h' fly up=>⟨h',rfl,fly,up⟩
 refine Xaq (Zbb (Zda _ _) step) (fun _ s' z=>?_) fun _ _ z=>z.1.elim;obtain⟨⟨h2,rfl,fly,up⟩,kh⟩:=z;have old:∀ b o,s.heap.get? b=some o->H b=none->b∉frs outer->B.get? b=some o:=fun b o e n nf=>
  F.old b o (I.base.keep b o e n nf (noex b)) (I.base.free b o e n (noex b)) (hnew b o e nf)
 have slot:∀ b o,s.heap.get? b=some o->H b=none->b∈frs outer->∃ sl,h2.get? b=some { o with slots:=sl }:=fun b o e hn hb=>by
  obtain⟨sl,e1⟩:=I.base.slot b o e hn hb (noex b);obtain⟨sl2,e2⟩:=F.un.slot b _ e1 (I.base.free b o e hn (noex b)) (hsub b hb) (by simp);obtain⟨_,o2,e3,d3⟩:=I.ok.funs.mem hb;have e3':s.heap.get? b=some o2:=e3;rw[e] at e3';cases e3';obtain⟨sl3,e4⟩:=up b _ e2 d3;exact⟨sl3,e4⟩
 have all:∀ b o,s.heap.get? b=some o->b∈frs outer\/∃ o',B.get? b=some o':=fun b o e=>by
  obtain⟨o',e1⟩:=I.base.there b o e (noex b);rcases F.all b o' e1 with z | z
  . by_cases hb:b∈frs outer
    . exact .inl hb
    . exact absurd z (hnew b o e hb)
  . exact .inr z
 have stay:∀ b u,H2 b=some u->∀ o,s2.heap.get? b=some o->h2.get? b=some o:=fun b u z o zo=>fly.1 _ _ ((F.trk b u z).2 o zo);refine⟨ea,t,C,B,H2,d,rfl,⟨F.os.trans I.os,F.bare,fly,⟨fun b o e n nf _=>fly.1 _ _ (old b o e n nf),fun b o e n hb _=>slot b o e n hb,fun b o e n _=>?_,fun b o e _=>?_,fun b xs e=>F.un.tups b xs (I.base.tups b xs e),fun b o u e=>F.un.frzs b o u (I.base.frzs b o u e),fun b ps e=>?_⟩,fun a u z=>?_,old,fun b u z=>⟨fun y=>(F.trk b u z).1 (hsub b y),fun o zo=>?_⟩,all⟩,da.kp kh,ch.kp kh,q⟩
 . obtain⟨o',e1⟩:=I.base.there b o e (noex b);exact F.un.free b o' e1 (I.base.free b o e n (noex b)) (by simp)
 . rcases all b o e with hb | ⟨o',z⟩
   . obtain⟨sl,z⟩:=slot b o e (I.ok.frf b hb) hb;exact⟨_,z⟩
   . exact⟨o',fly.1 _ _ z⟩
 . obtain⟨m1,e1⟩:=I.base.tbls b ps e;obtain⟨m2,e2⟩:=F.un.tbls b _ e1;exact⟨m1++m2,by rw[<- Array.append_assoc];exact e2⟩
 . refine(F.hok a u z).stay (fun b v hb hv=>?_) (fun _ y=>y) fun _ _ y=>y;rcases hb with rfl | hb
   . exact stay _ _ z _ hv
   . exact stay _ _ hb _ hv
 . obtain⟨o',e1⟩:=(F.hok b u z).there;have e2:=(F.trk b u z).2 _ e1;have e3:=fly.1 _ _ e2;rw[zo] at e3;cases e3;exact e2
def FnR (P:Program)(w:World)(K:W.Frag)(mg:Str->Option Value)(base:Heap)(k:Nat)(x:Str)(ps:List Str)(sp:Sp):Prop:=
 ∃ f fd,mg x=some (.ref f)/\W.keepIn K (.ref f)=true/\Binds K fd ps []/\FnOk P w K mg base (CXR P w) k f fd ps sp
theorem FunAt.okR {x:Str}{st:Stmt}{N ps:List Str}{k:Nat}{sp:Sp}(F:FunAt K mg x st)(S:Zak N ps (Zad st))
 (hb:∀ (kV doc pm:Value)(an:Option Addr)(ad ct:Value)(us:List Value),us.length=ps.length->bindArgs (W.fnOf x x (Za3 st) (Zaq st) (Zad st) .none kV doc pm an ad ct) ⟨us,[]⟩=pure (ps.zip us))
 (len:∀ vs H Q E,sp vs H Q E->vs.length=ps.length)
 (ah:∀ (f:Addr)(ad:Value)(A:Around)(outer:List Env)(s:Shared)(H:Hp)(vs:List V)(Q:VK)(E:XK),Room k (A.deeper (envOfC x (Zad st) s.heap.objs.size f ad))->sp vs H Q E->
  ∃ t,PSs (Zc1 (CXR P w) P w K mg base N x (Zad st) f ad A outer s H E) (Zaq st) t/\t { nx:=fun _ H'=>Q .non H',rt:=Q } (Zce N vs) H):FnR P w K mg base (k+1) x ps sp:=by
 obtain⟨f,fd,h1,F⟩:=F;refine⟨f,fd,h1,F.kp,F.binds hb,?_⟩;obtain⟨oc,od,kV,doc,pm,an,ad,ct,osl,rfl,lk,hcd⟩:=F.ex;exact Zhf lk hcd S len fun A outer s H vs Q E hr hsp=>ah f ad A outer s H vs Q E hr hsp
section
variable {X:Cx}
theorem Zea {E:XK}{k:Nat}{x:Str}{ps:List Str}{sp:Sp}{e:Expr}{es:List Expr}{t:TA}{p pos:Pos}(hx:Zbu (CXR X.prog X.w) X E)(F:FnR X.prog X.w X.K X.mg X.base k x ps sp)(hr:Room k X.A)(hg:Gl X x)(ha:PA X (e :: es) t)
 (hdb:NDa x:=by decide)(he:SEa X e es:=by rfl)(hpl:SPa X es pos:=by rfl):PE X (.Call (.Name x p) (e :: es) [] pos) (Zl5 sp [] E t):=by
 obtain⟨f,fd,h1,h2,h3,h4⟩:=F;exact Zj0 h4 hr hg h1 h2 h3 .nil hx ha hdb he hpl
end
structure IsR (C d:Addr)(oe:Obj):Prop where
 cls:oe.cls = .ref C
 dict:oe.dict=some d
 fld:∃ vs,oe.data = .fields vs
section
variable {X:Cx}
theorem Zqr {aa:List (Addr×Obj)}{σ0:St}{H0 H':Hp}{s0 s1:Shared}{C ea t d:Addr}{B:Heap}{x:Str}{np hpos:Pos}{rest:List ExceptHandler}{name:Option Str}{suite:List Stmt}{Q:Flow->Shared->Prop}
 (hex:X.ex=[])(hst:X.stack=X.env :: X.outer/\X.env.frame=some X.env.locals)(xc:Ztb X.K C)(hg:Gl X x)(hm:X.mg x=some (.ref C))(hdb:(x == ("__debug__" : Str))=false)
 (I0:Inv X aa σ0 H0 s0)(F:Fly X.prog X.w X.stack H0 H' s0 C ea t B s1)(da:DictAt s1.heap ea d)(ch:Chn H' s1.heap ea)
 (h:∀ (s3:Shared),(∀ {Q':Unit->Shared->Prop}{E':Value->Shared->Prop},(∀ s4 oe,Inv X aa σ0 H' s4->Inv X aa σ0 (upd H' ea (.frz oe (.own 0))) s4->H' ea=none->IsR C d oe->ChO H' ea oe->Q' () s4)->wpAny (model X.prog X.w) (X.A.mark (some (.ref ea))) (setFlight (.ref ea) none) Q' E' s3)->
  codeAny (model X.prog X.w) (X.A.mark (some (.ref ea))) (.handlers (.ref ea) [.ExceptHandler none name suite hpos] X.env) (fun r s₂=>match r with
   | .ok f=>match name with
    | none=>Q f s₂
    | some n=>wpAny (model X.prog X.w) X.A (do bindName X.env n Value.none;unbindBehindTheSuite X.env n hpos) (fun _ s₃=>Q f s₃) X.xe s₂
   | .error x=>cameBackBy (model X.prog X.w) X.A X.env X.xe x s₂) s3) :
 wpAny (model X.prog X.w) X.A (noteFrame (.ref ea) X.env) (fun _ s₂=>wpAny (model X.prog X.w) X.A (setFlight (.ref ea) none) (fun _ s₃=>wpAny (model X.prog X.w) X.A (handleBy (.ref ea) X.env (.ExceptHandler (some (.Name x np)) name suite hpos :: rest)) Q X.xe s₃) X.xe s₂) X.xe s1:=by
 have hfl:B.FlyingW (X.env :: X.outer) ea (.ref C) (.ref t) s1.heap:=by rw[<- hst.1];exact F.fly
 have st1:=wpAny_looks_onW (M:=model X.prog X.w) (E:=fun _ _=>False) (s:=s1) (base:=B) (env:=X.env) (outer:=X.outer) (Q:=fun _ s'=>∃ h2,s'={ s1 with heap:=h2 }/\B.HeldW (X.env :: X.outer) ea (.ref C) (.ref t) X.env.locals h2/\s1.heap.UpToSlots h2) (by rw[I0.ok.frames,hst.1]) hst.2 hfl fun h2 held up=>⟨h2,rfl,held,up⟩
 refine Xaq (Zbb (Zhw _ _) st1) (fun _ s' z=>?_) fun _ _ z=>z.1.elim;obtain⟨⟨h2,rfl,held,up⟩,kh2⟩:=z;have st2:=wpAny_landsW (M:=model X.prog X.w) (A:=X.A) (E:=fun _ _=>False) (s:={ s1 with heap:=h2 }) (Q:=fun _ s'=>∃ h3,s'={ s1 with heap:=h3 }/\B.FlyingW (X.env :: X.outer) ea (.ref C) (.ref t) h3/\h2.UpToSlots h3) held fun h3 fly3 up3=>⟨h3,rfl,fly3,up3⟩
 refine Xaq (Zbb (Zbv _ _) st2) (fun _ s' z=>?_) fun _ _ z=>z.1.elim;obtain⟨⟨h3,rfl,fly3,up3⟩,kh3⟩:=z;have up13:s1.heap.UpToSlots h3:=UpToSlots.trans up up3;have I3:Inv X aa σ0 H' { s1 with heap:=h3 }:=I0.fly F fly3.1 up13;obtain⟨st3,hne,ff3,tr3⟩:=id fly3;obtain⟨oe,vs,T,oT,ts,he,⟨hc,h0⟩,hd,_⟩:=id tr3;obtain⟨nm,q,N,bs,bm,hdct,sn,sub,ab,col,dd,k0,k1,k2,k3,k5,lk,tl,has⟩:=xc.ex;refine wpAny_handleBy_cons (codeAny_handlers_test ?_) (by nofun);refine Zcp (X:=X.hand ea) (I3.hand ea) hg hm ?_ hdb;refine wpAny_excMatches_sub_self (I3.kIn _ _ lk) he hc has ?_;refine h { s1 with heap:=h3 } fun {Q' E'} k=>?_;have st5:=wpAny_setFlight_noneW (M:=model X.prog X.w) (A:=X.A.mark (some (.ref ea))) (E:=fun _ _=>False) (s:={ s1 with heap:=h3 }) (base:=B) (l:=X.env :: X.outer) (fl:=.none) (Q:=fun _ s'=>∃ h4,s'={ s1 with heap:=h4 }/\B.StaysIn h4/\h4.FunFrames B (X.env :: X.outer)/\h4.TracedW B ea (.ref C) (.ref t)/\∀ b o,h3.get? b=some o->(∀ vs,o.data≠.fields vs)->h4.get? b=some o) st3 ff3 tr3 fun h4 st4 ff4 tr4 k4=>⟨h4,rfl,st4,ff4,tr4,k4⟩
 refine Xaq (Zbb (Zbv _ _) st5) (fun _ s' z=>?_) fun _ _ z=>z.1.elim;obtain⟨⟨h4,rfl,st4,ff4,tr4,k4⟩,kh4⟩:=z;have up34:h3.UpToSlots h4:=fun b o e d=>⟨o.slots,k4 b o e d⟩
 have I4:Inv X aa σ0 H' { s1 with heap:=h4 }:=I0.fly F st4 (UpToSlots.trans up13 up34);obtain⟨oe4,vs4,T4,oT4,ts4,he4,⟨hc4,h04⟩,hd4,_⟩:=id tr4;have n0:H' ea=none:=by
  cases z:H' ea with
  | none=>rfl
  | some u=>
   obtain⟨_,y⟩:=F.trk ea u z;obtain⟨_,_,_,tr⟩:=F.fly;obtain⟨o1,_,_,_,_,e1,_⟩:=tr;have:=y _ e1;rw[F.fly.2.1] at this;cases this
 have nst:ea∉frs X.stack:=fun z=>by
  obtain⟨_,o,e,d⟩:=I4.stack.mem z;have e':h4.get? ea=some o:=e;rw[he4] at e';cases e';exact d _ hd4
 have nall:s0.heap.get? ea=none:=by
  cases z:s0.heap.get? ea with
  | none=>rfl
  | some o=>
   rcases F.all ea o z with y | ⟨o',y⟩
   . exact absurd y nst
   . rw[F.fly.2.1] at y;cases y
 refine k _ oe4 I4 (I4.track' he4 n0 (fun z=>?_) (fun y c e z=>?_) (fun p hp z=>?_) ?_) n0 ⟨hc4,by
  obtain⟨oz,ez,dz⟩:=da.kp (kh2.trans (kh3.trans kh4));have ez:h4.get? ea=some oz:=ez;rw[he4] at ez;cases ez;exact dz,_,hd4⟩ (by
  obtain⟨oz,ez,cz⟩:=ch.kp (kh2.trans (kh3.trans kh4));have ez:h4.get? ea=some oz:=ez;rw[he4] at ez;cases ez;exact cz)
 . obtain⟨m,⟨o,es,ep,e,d,_⟩,_⟩:=I4.loc;have e':h4.get? X.env.locals=some o:=e;rw[<- z,he4] at e';cases e';rw[hd4] at d;cases d
 . obtain⟨v,o,e',d⟩:=I4.cell y c e;have e':h4.get? c=some o:=e';rw[z,he4] at e';cases e';rw[hd4] at d;cases d
 . obtain⟨e,_⟩:=I0.pin p hp;rw[z,nall] at e;cases e
 . cases z:X.s₀.heap.get? ea with
   | none=>rfl
   | some o=>
    obtain⟨o',e⟩:=I0.base.there ea o z (by rw[hex];simp);rw[nall] at e;cases e
end
structure XGet (K:W.Frag)(C:Addr):Prop where
 own:Ztb K C
 hd:∃ cd,PySem.W.clsIn K C=some cd/\cd.hasDict=true
 ga:W.findIn K (.ref C) "__getattribute__" = some (some (.builtin "BaseException.__getattribute__"))
 gn:W.findIn K (.ref C) "__getattr__" = some none
 fo:W.findIn K (.ref C) "__class__" = some (some (.builtin "object.__class__"))
 sp:PySem.W.specialIn K (.builtin "object.__class__") "__get__" = some (some (.builtin "getset_descriptor.__get__"))
 tk:PySem.W.takesIn K (.builtin "object.__class__")=some true
 mo:PySem.W.mroIn K C (.type "object")=some true
section
variable {K:W.Frag}{C e:Addr}{oe:Obj}{prog:Program}{w:World}{A:Around}{E:Value->Shared->Prop}{s:Shared}
theorem Zra {name:Str}{fill ex:Bool}{tk:Tok}{u:Value}{Q:Value->Shared->Prop}(x:XGet K C)(X:K.In s.heap)(he:s.heap.get? e=some oe)(hc:oe.cls = .ref C)(hu:handedOut u=pure u)
 (h:∀ {A':Around}{E':Value->Shared->Prop},wpAny (model prog w) A' (Builtin.«object.__getattribute__» ⟨[.ref e,.str name tk],[]⟩) (fun f s'=>f = .done (.ret u)/\Q u s') E' s) :
 wpAny (model prog w) A (getAttrBy (.ref e) (.str name tk) fill ex) Q E s:=by
 have ty:∀ {A:Around}{Q:Value->Shared->Prop}{E:Value->Shared->Prop},Q (.ref C) s->wpAny (model prog w) A (typeOf (.ref e)) Q E s:=fun q=>wpAny_typeOf_ref he (by rw[hc];exact q);obtain⟨nm,q,N,bs,bm,hdct,sn,sub,ab,col,dd,k0,k1,k2,k3,k5,lk,tl,has⟩:=x.own.ex;have TQ:=tailQ.ok X tl;have hC:=X _ _ lk;have F4:=F.attrBase_ValueError;unfold getAttrBy;refine Xbi (Xaa (ty ?_));refine Xaa (Xb1 X x.ga A _ _ s (fun _ _ z=>z) ?_);show wpAny _ _ (getAttrByItsOwn _ _ _ _ _ _) _ _ _;unfold getAttrByItsOwn;refine Xaa (PySem.W.looks_hook X (r:=none) (by show W.findIn K (.ref C) _=_;exact x.gn) A _ _ s (fun _ _ z=>z) ?_);refine Xaa (wpAny_attempt (Xbi ?_));have hg:callGetattribute (.ref e) (.str name tk) (.builtin "BaseException.__getattribute__") ex=boundAndCalled (.builtin "BaseException.__getattribute__") (.ref e) (.str name tk):=by cases ex <;> rfl
 rw[hg];unfold boundAndCalled;rw[F4.ga.bind];refine Xaa (Xak ?_);refine Xb5 (codeAny_call_builtin F4.ga.plain F.entry_bexc_ga ?_);refine wpAny_check_ga_own F4 hC TQ he hc ?_;refine Xaq h (fun f s' z=>?_) fun _ _ z=>z;obtain⟨rfl,z⟩:=z;show wpAny _ _ (handedOut u) _ _ _;rw[hu];exact Xak z
theorem Znd {name:Str}{d:Addr}{m:Str->Option Value}{u:Value}{ex:Bool}{Q:Value->Shared->Prop}(x:XGet K C)(X:K.In s.heap)(he:s.heap.get? e=some oe)(ho:IsR C d oe)(no:W.findIn K (.ref C) name=some none)
 (hn:s.heap.Ns d m)(hm:m name=some u)(hu:handedOut u=pure u)(h:Q u { s with toks:=s.toks+1 }):wpAny (model prog w) A (getAttr (.ref e) name ex) Q E s:=by
 obtain⟨cd,hcd,hh⟩:=x.hd;obtain⟨vs,hf⟩:=ho.fld;unfold getAttr;refine Xaa (wpAny_mkText ?_);refine Zra (u:=u) (s:={ s with toks:=s.toks+1 }) x X he ho.cls hu fun {A' E'}=>?_;unfold Builtin.«object.__getattribute__»;refine Xaa (Xak ?_);refine Xaa (Xak ?_);refine Xaa (wpAny_typeOf_ref he ?_);rw[ho.cls];refine Xaa ?_;unfold Builtin.ObjectAttr.find;refine Xaa (Xb1 X no _ _ _ { s with toks:=s.toks+1 } (fun _ _ z=>z) ?_);refine Xaa (Xak ?_);refine Xaa (Xak ?_);show wpAny _ _ (Builtin.ObjectAttr.ownThenClass _ _ _ _) _ _ _;unfold Builtin.ObjectAttr.ownThenClass;refine Xaa ?_;show wpAny _ _ (Builtin.ObjectAttr.ownDict e >>= fun d=>Builtin.ObjectAttr.inDict name d) _ _ _;refine Xaa ?_;unfold Builtin.ObjectAttr.ownDict;refine Xaa (wpAny_loadPart (s:={ s with toks:=s.toks+1 }) he ?_);rw[hf];show wpAny _ _ (instanceDict e false) _ _ _;unfold instanceDict;refine Xaa (wpAny_loadPart (s:={ s with toks:=s.toks+1 }) he ?_);rw[ho.cls,ho.dict];refine Xaa (PySem.W.looks_clsIn X hcd _ _ _ { s with toks:=s.toks+1 } (fun _ _ z=>z) ?_);rw[hh];refine Xak ?_;refine wpAny_nsGet (s:={ s with toks:=s.toks+1 }) hn ?_;rw[hm];refine Xaa (wpAny_rule (Xak ?_));exact Xak ⟨rfl,h⟩
end
def tRow (K:W.Frag)(ta:TE)(f:Str):TE:=fun σ H Q=>ta σ H fun x H1=>∃ a C d oe od i,x = .ref a/\H1 a=some (.frz oe (.own 0))/\IsR C d oe/\XGet K C/\W.findIn K (.ref C) f=some none/\H1 d=some (.frz od (.own 0))/\RowO f (.int i) od/\Q (.int i) H1
theorem Zwk {X:Cx}{e:Expr}{f:Str}{ta:TE}{pos:Pos}(he:PE X e ta)(hb:attributeBase e f X.env (eval e X.env)=eval e X.env):PE X (.Attribute e f pos) (tRow X.K ta f):=by
 intro aa s σ H Q I h;refine Zpu hb (thn (he aa s σ H _ I h) fun u s1 hz=>?_);obtain⟨x,H1,I1,rx,a,C,d,oe,od,i,ex,ea,ix,xg,no,ed,ro,q⟩:=hz;subst ex;obtain rfl:u=Value.ref a:=rx;obtain⟨m,uv,hn,hm,ru⟩:=ro _ _ (I1.hok _ _ ed).1;obtain⟨t,rfl⟩:=id ru;exact Znd xg I1.kIn (I1.hok _ _ ea).1 ix no hn.ns hm rfl ⟨.int i,H1,I1.tok _,ru,q⟩
abbrev XRr:=St->Addr->Addr->Hp->Prop
def XQR (X:Cx)(aa:List (Addr×Obj))(R:XRr)(e:Value)(s':Shared):Prop:=
 ∃ ea t C B H H' σ s d,e = .ref ea/\Inv X aa σ H s/\Fly X.prog X.w X.stack H H' s C ea t B s'/\DictAt s'.heap ea d/\Chn H' s'.heap ea/\R σ C d H'
abbrev TSr:=Zex->XRr->St->Hp->Prop
def PSsr (X:Cx)(st:List Stmt)(t:TSr):Prop:=
 ∀ (aa:List (Addr×Obj)) (s:Shared) (σ:St) (H:Hp) (D:Zex) (R:XRr),Inv X aa σ H s->t D R σ H->wpAny (model X.prog X.w) X.A (execs st X.env) (SP X aa D) (XQR X aa R) s
section
variable {X:Cx}{e:Expr}{es:List Expr}{pos:Pos}
theorem Zto {aa:List (Addr×Obj)}{σ:St}{H:Hp}{s:Shared}{Q:VK}{R:XRr}{us:List Value}{vs:List V}{k:Nat}{f:Addr}{fd:FuncData}{ps:List Str}{sp:Sp}(F:FnOk X.prog X.w X.K X.mg X.base (CXR X.prog X.w) k f fd ps sp)(hr:Room k X.A)(hb:Binds X.K fd ps [])
 (I:Inv X aa σ H s)(r:Vals vs us)(h:sp vs H Q (fun c d H2=>∃ C d',c = .ref C/\d=some d'/\R σ C d' H2)):wpAny (model X.prog X.w) X.A (call (.ref f) us) (EP X aa σ Q) (XQR X aa R) s:=by
 have hl:us.length=ps.length:=by rw[<- r.length];exact F.len _ _ _ _ h
 have hb':BindsTo s fd ⟨us,[]⟩ (ps.zip us):=by
  have z:=hb s us I.kIn (by simpa using hl)
  rwa [Xba] at z
 refine Xb5 (codeAny_mono (F.run X.A X.stack s H ⟨us,[]⟩ us vs Q _ hr I.env0 hb' r h) fun r s' hq=>?_);cases r with
 | error e=>
  obtain⟨ea,t,C,B,H',d,e1,F,da,ch,C',d',e2,e3,q⟩:=hq;cases e2;cases e3
  exact⟨ea,t,C,B,H,H',σ,s,d,e1,I,F,da,ch,q⟩
 | ok fl=>
  cases fl with
  | ret u=>exact I.after hq
  | next=>exact False.elim hq
  | brk=>exact False.elim hq
  | cont=>exact False.elim hq
end
theorem Zrp {H:Hp}{a c:Addr}{xs:List V}(ha:H a=some (.tup xs))(hc:H c=some (.tup xs))(hf:∀ x∈xs,Zd4 x=true):EqB H 1 (.ref a) (.ref c) true:=by
 refine .inr (.inl ⟨a,c,xs,xs,fun _=>true,rfl,rfl,ha,hc,fun i u v h1 h2=>?_,?_⟩)
 . rw[h1] at h2;cases h2;have f:=hf u (Xa7 h1);exact .inl ⟨f,f,(Zb4 f).symm⟩
 . rw[Zcx];simp
theorem Zdt {H:Hp}{n:Nat}{a c:Addr}{xs ys:List V}(ha:H a=some (.lst xs))(hc:H c=some (.lst ys))(hl:xs.length=ys.length)(hf:∀ (i:Nat) u v,xs[i]? = some u->ys[i]? = some v->EqB H n u v true):EqB H (n+1) (.ref a) (.ref c) true:=by
 refine .inr (.inr ⟨a,c,xs,ys,fun _=>true,rfl,rfl,ha,hc,hf,?_⟩);rw[Zcx,hl];simp
theorem Zu9 {X:Cx}(K:W.Frag)(hK:X.K=K){e:Expr}{f:Str}{ta:TE}{pos:Pos}(he:PE X e ta)(hb:attributeBase e f X.env (eval e X.env)=eval e X.env):PE X (.Attribute e f pos) (tRow K ta f):=by subst hK;exact Zwk he hb
def Clean (h:Heap)(e:Addr):Prop:=∃ oe vs,h.get? e=some oe/\oe.data = .fields vs/\vs[2]? = some Value.none
theorem Clean.kp {h h':Heap}{e:Addr}(x:Clean h e)(k:KpH h h'):Clean h' e:=by
 obtain⟨oe,vs,e1,e2,e3⟩:=x;obtain⟨o',e4,kr⟩:=k e oe e1;obtain⟨vs',e5,_,e6⟩:=kr.2.2.2 vs e2;exact⟨o',vs',e4,e5,(e6 2 (by decide) (by decide)).trans e3⟩
def CXN (P:Program)(w:World):CXT:=fun outer H s E e s'=>∃ ea t C B H',e = .ref ea/\Fly P w outer H H' s C ea t B s'/\Clean s'.heap ea/\E (.ref C) none H'
theorem Zgo {N:List Str}{qual:Str}{scope:Scope}{f:Addr}{cd:Value}{A:Around}{outer:List Env}{s:Shared}{H:Hp}{E:XK} :
 Znj (Zc1 (CXN P w) P w K mg base N qual scope f cd A outer s H E) E:=by
 intro aa σ H1 s1 h' e C vs I M q;have hfr:∀ b∈frs (envOfC qual scope s.heap.objs.size f cd :: outer),H1 b=none:=I.stkFree;have hB:∀ {b o},s1.heap.get? b=some o->b∉frs (envOfC qual scope s.heap.objs.size f cd :: outer)->(W.hideAll s1.heap (frs (envOfC qual scope s.heap.objs.size f cd :: outer))).get? b=some o:=fun e n=>W.hideAll_get _ e n;have hsub:∀ b∈frs outer,b∈frs (envOfC qual scope s.heap.objs.size f cd :: outer):=fun b hb=>Xal _ hb;have hnew:∀ b o,s.heap.get? b=some o->b∉frs outer->b∉frs (envOfC qual scope s.heap.objs.size f cd :: outer):=fun b o e n z=>by
  rcases List.mem_cons.mp (show b∈s.heap.objs.size :: frs outer from z) with z | z
  . exact absurd (Xai e) (by rw[z];exact Xbl _)
  . exact n z
 obtain⟨t0,me,mt⟩:=M.there;have step:=wpAny_leaves_madeW (M:=model P w) (A:=A.deeper (envOfC qual scope s.heap.objs.size f cd)) (E:=fun _ _=>False) (s:={ s1 with heap:=h' }) (base:=W.hideAll s1.heap (frs (envOfC qual scope s.heap.objs.size f cd :: outer))) (h:=s1.heap) (outer:=outer) (L:=s.heap.objs.size) (env:=envOfC qual scope s.heap.objs.size f cd)
  (Q:=fun _ s'=>∃ h2 t,s'={ s1 with heap:=h2 }/\Heap.FlyingW (W.hideAll s1.heap (frs (envOfC qual scope s.heap.objs.size f cd :: outer))) outer e (.ref C) (.ref t) h2/\h'.UpToSlots h2) I.ok.frames rfl (fun b o z=>PySem.W.of_hideAll _ z)
  (Zb0 I.stack fun a ha=>Xbr _ ha) M fun h2 t fly tup tn up=>⟨h2,t,rfl,fly,up⟩
 refine Xaq (Zbb (Zda _ _) step) (fun _ s' z=>?_) fun _ _ z=>z.1.elim;obtain⟨⟨h2,t,rfl,fly,up⟩,kh⟩:=z;have keepT:∀ b u,H1 b=some u->b∉frs (envOfC qual scope s.heap.objs.size f cd :: outer):=fun b u e z=>by rw[hfr b z] at e;cases e
 have old:∀ b o,s.heap.get? b=some o->H b=none->b∉frs outer->(W.hideAll s1.heap (frs (envOfC qual scope s.heap.objs.size f cd :: outer))).get? b=some o:=fun b o e n nf=>
  hB (I.base.keep b o e n nf (fun z=>absurd (show b∈([]:List Addr) from z) (by simp))) (hnew b o e nf)
 have slot:∀ b o,s.heap.get? b=some o->b∈frs outer->∃ sl,h2.get? b=some { o with slots:=sl }:=fun b o e hb=>by
  have hn:H b=none:=I.ok.frf b hb;obtain⟨sl,e1⟩:=I.base.slot b o e hn hb (fun z=>absurd (show b∈([]:List Addr) from z) (by simp));obtain⟨_,o2,e2,d2⟩:=I.ok.funs.mem hb;have e2':s.heap.get? b=some o2:=e2;rw[e] at e2';cases e2';obtain⟨sl2,e3⟩:=up b _ (M.keeps _ _ e1) d2;exact⟨sl2,e3⟩
 have all:∀ b o,s.heap.get? b=some o->b∈frs outer\/∃ o',(W.hideAll s1.heap (frs (envOfC qual scope s.heap.objs.size f cd :: outer))).get? b=some o':=fun b o e=>by
  by_cases hb:b∈frs outer
  . exact .inl hb
  . obtain⟨o',e1⟩:=I.base.there b o e (fun z=>absurd (show b∈([]:List Addr) from z) (by simp));exact .inr ⟨o',hB e1 (hnew b o e hb)⟩
 refine⟨e,t,C,_,H1,rfl,⟨I.os,I.bare,fly,⟨fun b o e n nf _=>fly.1 _ _ (old b o e n nf),fun b o e n hb _=>slot b o e hb,I.base.free,fun b o e _=>?_,I.base.tups,I.base.frzs,I.base.tbls⟩,fun a u z=>?_,old,fun b u z=>⟨fun y=>keepT b u z (hsub b y),fun o zo=>?_⟩,all⟩,Clean.kp ⟨_,_,me,rfl,rfl⟩ kh,q⟩
 . rcases all b o e with hb | ⟨o',z⟩
   . obtain⟨sl,z⟩:=slot b o e hb;exact⟨_,z⟩
   . exact⟨o',fly.1 _ _ z⟩
 . refine(I.hok a u z).stay (fun b v hb hv=>fly.1 _ _ (hB hv ?_)) (fun _ y=>y) fun _ _ y=>y;rcases hb with rfl | hb
   . exact keepT _ _ z
   . exact keepT _ _ hb
 . obtain⟨o',e1⟩:=(I.hok b u z).there;have e2:=hB e1 (keepT b u z);have e3:=fly.1 _ _ e2;rw[zo] at e3;cases e3;exact e2
theorem Zgz {N:List Str}{qual:Str}{scope:Scope}{f:Addr}{cd:Value}{A:Around}{outer:List Env}{s:Shared}{H:Hp}{E:XK} :
 Zbu (CXN P w) (Zc1 (CXN P w) P w K mg base N qual scope f cd A outer s H E) E:=by
 intro aa σ H1 s1 ev s2 I hq;obtain⟨ea,t,C,B,H2,rfl,F,cn,q⟩:=hq;have F:Fly P w (envOfC qual scope s.heap.objs.size f cd :: outer) H1 H2 s1 C ea t B s2:=F;have hsub:∀ b∈frs outer,b∈frs (envOfC qual scope s.heap.objs.size f cd :: outer):=fun b hb=>Xal _ hb;have hnew:∀ b o,s.heap.get? b=some o->b∉frs outer->b∉frs (envOfC qual scope s.heap.objs.size f cd :: outer):=fun b o e n z=>by
  rcases List.mem_cons.mp (show b∈s.heap.objs.size :: frs outer from z) with z | z
  . exact absurd (Xai e) (by rw[z];exact Xbl _)
  . exact n z
 have noex:∀ b:Addr,b∉(Zc1 (CXN P w) P w K mg base N qual scope f cd A outer s H E).ex:=fun b z=>absurd (show b∈([]:List Addr) from z) (by simp);have step:=wpAny_leaves_onW (M:=model P w) (E:=fun _ _=>False) (s:=s2) (base:=B) (env:=envOfC qual scope s.heap.objs.size f cd) (outer:=outer) (L:=s.heap.objs.size) (Q:=fun _ s'=>∃ h',s'={ s2 with heap:=h' }/\B.FlyingW outer ea (.ref C) (.ref t) h'/\s2.heap.UpToSlots h') I.ok.frames rfl F.fly fun h' fly up=>⟨h',rfl,fly,up⟩
 refine Xaq (Zbb (Zda _ _) step) (fun _ s' z=>?_) fun _ _ z=>z.1.elim;obtain⟨⟨h2,rfl,fly,up⟩,kh⟩:=z;have old:∀ b o,s.heap.get? b=some o->H b=none->b∉frs outer->B.get? b=some o:=fun b o e n nf=>
  F.old b o (I.base.keep b o e n nf (noex b)) (I.base.free b o e n (noex b)) (hnew b o e nf)
 have slot:∀ b o,s.heap.get? b=some o->H b=none->b∈frs outer->∃ sl,h2.get? b=some { o with slots:=sl }:=fun b o e hn hb=>by
  obtain⟨sl,e1⟩:=I.base.slot b o e hn hb (noex b);obtain⟨sl2,e2⟩:=F.un.slot b _ e1 (I.base.free b o e hn (noex b)) (hsub b hb) (by simp);obtain⟨_,o2,e3,d3⟩:=I.ok.funs.mem hb;have e3':s.heap.get? b=some o2:=e3;rw[e] at e3';cases e3';obtain⟨sl3,e4⟩:=up b _ e2 d3;exact⟨sl3,e4⟩
 have all:∀ b o,s.heap.get? b=some o->b∈frs outer\/∃ o',B.get? b=some o':=fun b o e=>by
  obtain⟨o',e1⟩:=I.base.there b o e (noex b);rcases F.all b o' e1 with z | z
  . by_cases hb:b∈frs outer
    . exact .inl hb
    . exact absurd z (hnew b o e hb)
  . exact .inr z
 have stay:∀ b u,H2 b=some u->∀ o,s2.heap.get? b=some o->h2.get? b=some o:=fun b u z o zo=>fly.1 _ _ ((F.trk b u z).2 o zo);refine⟨ea,t,C,B,H2,rfl,⟨F.os.trans I.os,F.bare,fly,⟨fun b o e n nf _=>fly.1 _ _ (old b o e n nf),fun b o e n hb _=>slot b o e n hb,fun b o e n _=>?_,fun b o e _=>?_,fun b xs e=>F.un.tups b xs (I.base.tups b xs e),fun b o u e=>F.un.frzs b o u (I.base.frzs b o u e),fun b ps e=>?_⟩,fun a u z=>?_,old,fun b u z=>⟨fun y=>(F.trk b u z).1 (hsub b y),fun o zo=>?_⟩,all⟩,cn.kp kh,q⟩
 . obtain⟨o',e1⟩:=I.base.there b o e (noex b);exact F.un.free b o' e1 (I.base.free b o e n (noex b)) (by simp)
 . rcases all b o e with hb | ⟨o',z⟩
   . obtain⟨sl,z⟩:=slot b o e (I.ok.frf b hb) hb;exact⟨_,z⟩
   . exact⟨o',fly.1 _ _ z⟩
 . obtain⟨m1,e1⟩:=I.base.tbls b ps e;obtain⟨m2,e2⟩:=F.un.tbls b _ e1;exact⟨m1++m2,by rw[<- Array.append_assoc];exact e2⟩
 . refine(F.hok a u z).stay (fun b v hb hv=>?_) (fun _ y=>y) fun _ _ y=>y;rcases hb with rfl | hb
   . exact stay _ _ z _ hv
   . exact stay _ _ hb _ hv
 . obtain⟨o',e1⟩:=(F.hok b u z).there;have e2:=(F.trk b u z).2 _ e1;have e3:=fly.1 _ _ e2;rw[zo] at e3;cases e3;exact e2
def MtN (P:Program)(w:World)(K:W.Frag)(mg:Str->Option Value)(base:Heap)(C:Addr)(k:Nat)(m:Str)(ps:List Str)(sp:Sp):Prop:=∃ f fd,Zmq K C m f/\Binds K fd ps []/\FnOk P w K mg base (CXN P w) k f fd ps sp
theorem MethAt.okN {C:Addr}{m qual:Str}{st:Stmt}{N ps:List Str}{k:Nat}{sp:Sp}(F:MethAt K C m qual st)(S:Zak N ps (Zad st))
 (hb:∀ (kV doc pm:Value)(an:Option Addr)(ad ct:Value)(us:List Value),us.length=ps.length->bindArgs (W.fnOf m qual (Za3 st) (Zaq st) (Zad st) .none kV doc pm an ad ct) ⟨us,[]⟩=pure (ps.zip us))
 (len:∀ vs H Q E,sp vs H Q E->vs.length=ps.length)
 (ah:∀ (f:Addr)(ad:Value)(A:Around)(outer:List Env)(s:Shared)(H:Hp)(vs:List V)(Q:VK)(E:XK),Room k (A.deeper (envOfC qual (Zad st) s.heap.objs.size f ad))->sp vs H Q E->
  ∃ t,PSs (Zc1 (CXN P w) P w K mg base N qual (Zad st) f ad A outer s H E) (Zaq st) t/\t { nx:=fun _ H'=>Q .non H',rt:=Q } (Zce N vs) H):MtN P w K mg base C (k+1) m ps sp:=by
 obtain⟨f,fd,h1,F⟩:=F;refine⟨f,fd,h1,F.binds hb,?_⟩;obtain⟨oc,od,kV,doc,pm,an,ad,ct,osl,rfl,lk,hcd⟩:=F.ex;exact Zhf lk hcd S len fun A outer s H vs Q E hr hsp=>ah f ad A outer s H vs Q E hr hsp
structure IsN (K:W.Frag)(C:Addr)(oe:Obj):Prop where
 x:Zpx K C oe
 cl:∃ vs,oe.data = .fields vs/\vs[2]? = some Value.none
section
variable {X:Cx}
theorem Zrd {aa:List (Addr×Obj)}{σ0:St}{H0 H':Hp}{s0 s1:Shared}{C ea t:Addr}{B:Heap}{x:Str}{np hpos:Pos}{rest:List ExceptHandler}{name:Option Str}{suite:List Stmt}{Q:Flow->Shared->Prop}
 (hex:X.ex=[])(hst:X.stack=X.env :: X.outer/\X.env.frame=some X.env.locals)(xc:Zq0 X.K C)(hg:Gl X x)(hm:X.mg x=some (.ref C))(hdb:(x == ("__debug__" : Str))=false)
 (I0:Inv X aa σ0 H0 s0)(F:Fly X.prog X.w X.stack H0 H' s0 C ea t B s1)(cn:Clean s1.heap ea)
 (h:∀ (s3:Shared),(∀ {Q':Unit->Shared->Prop}{E':Value->Shared->Prop},(∀ s4 oe,Inv X aa σ0 H' s4->Inv X aa σ0 (upd H' ea (.frz oe (.own 0))) s4->H' ea=none->IsN X.K C oe->Q' () s4)->wpAny (model X.prog X.w) (X.A.mark (some (.ref ea))) (setFlight (.ref ea) none) Q' E' s3)->
  codeAny (model X.prog X.w) (X.A.mark (some (.ref ea))) (.handlers (.ref ea) [.ExceptHandler none name suite hpos] X.env) (fun r s₂=>match r with
   | .ok f=>match name with
    | none=>Q f s₂
    | some n=>wpAny (model X.prog X.w) X.A (do bindName X.env n Value.none;unbindBehindTheSuite X.env n hpos) (fun _ s₃=>Q f s₃) X.xe s₂
   | .error x=>cameBackBy (model X.prog X.w) X.A X.env X.xe x s₂) s3) :
 wpAny (model X.prog X.w) X.A (noteFrame (.ref ea) X.env) (fun _ s₂=>wpAny (model X.prog X.w) X.A (setFlight (.ref ea) none) (fun _ s₃=>wpAny (model X.prog X.w) X.A (handleBy (.ref ea) X.env (.ExceptHandler (some (.Name x np)) name suite hpos :: rest)) Q X.xe s₃) X.xe s₂) X.xe s1:=by
 have hfl:B.FlyingW (X.env :: X.outer) ea (.ref C) (.ref t) s1.heap:=by rw[<- hst.1];exact F.fly
 have st1:=wpAny_looks_onW (M:=model X.prog X.w) (E:=fun _ _=>False) (s:=s1) (base:=B) (env:=X.env) (outer:=X.outer) (Q:=fun _ s'=>∃ h2,s'={ s1 with heap:=h2 }/\B.HeldW (X.env :: X.outer) ea (.ref C) (.ref t) X.env.locals h2/\s1.heap.UpToSlots h2) (by rw[I0.ok.frames,hst.1]) hst.2 hfl fun h2 held up=>⟨h2,rfl,held,up⟩
 refine Xaq (Zbb (Zhw _ _) st1) (fun _ s' z=>?_) fun _ _ z=>z.1.elim;obtain⟨⟨h2,rfl,held,up⟩,kh2⟩:=z;have st2:=wpAny_landsW (M:=model X.prog X.w) (A:=X.A) (E:=fun _ _=>False) (s:={ s1 with heap:=h2 }) (Q:=fun _ s'=>∃ h3,s'={ s1 with heap:=h3 }/\B.FlyingW (X.env :: X.outer) ea (.ref C) (.ref t) h3/\h2.UpToSlots h3) held fun h3 fly3 up3=>⟨h3,rfl,fly3,up3⟩
 refine Xaq (Zbb (Zbv _ _) st2) (fun _ s' z=>?_) fun _ _ z=>z.1.elim;obtain⟨⟨h3,rfl,fly3,up3⟩,kh3⟩:=z;have up13:s1.heap.UpToSlots h3:=UpToSlots.trans up up3;have I3:Inv X aa σ0 H' { s1 with heap:=h3 }:=I0.fly F fly3.1 up13;obtain⟨st3,hne,ff3,tr3⟩:=id fly3;obtain⟨oe,vs,T,oT,ts,he,⟨hc,h0⟩,hd,_⟩:=id tr3;obtain⟨nm,q,N,bs,bm,bmB,hdct,sn,sub,ab,col,dd,k0,k1,k2,k3,k5,newId,B',nid,initId,Bn,inN,bmN,lk,qn,tl,has,F1,F2,F3,F4⟩:=xc.ex;refine wpAny_handleBy_cons (codeAny_handlers_test ?_) (by nofun);refine Zcp (X:=X.hand ea) (I3.hand ea) hg hm ?_ hdb;refine wpAny_excMatches_sub_self (I3.kIn _ _ lk) he hc has ?_;refine h { s1 with heap:=h3 } fun {Q' E'} k=>?_;have st5:=wpAny_setFlight_noneW (M:=model X.prog X.w) (A:=X.A.mark (some (.ref ea))) (E:=fun _ _=>False) (s:={ s1 with heap:=h3 }) (base:=B) (l:=X.env :: X.outer) (fl:=.none) (Q:=fun _ s'=>∃ h4,s'={ s1 with heap:=h4 }/\B.StaysIn h4/\h4.FunFrames B (X.env :: X.outer)/\h4.TracedW B ea (.ref C) (.ref t)/\∀ b o,h3.get? b=some o->(∀ vs,o.data≠.fields vs)->h4.get? b=some o) st3 ff3 tr3 fun h4 st4 ff4 tr4 k4=>⟨h4,rfl,st4,ff4,tr4,k4⟩
 refine Xaq (Zbb (Zbv _ _) st5) (fun _ s' z=>?_) fun _ _ z=>z.1.elim;obtain⟨⟨h4,rfl,st4,ff4,tr4,k4⟩,kh4⟩:=z;have up34:h3.UpToSlots h4:=fun b o e d=>⟨o.slots,k4 b o e d⟩
 have I4:Inv X aa σ0 H' { s1 with heap:=h4 }:=I0.fly F st4 (UpToSlots.trans up13 up34);obtain⟨oe4,vs4,T4,oT4,ts4,he4,⟨hc4,h04⟩,hd4,_⟩:=id tr4;have n0:H' ea=none:=by
  cases z:H' ea with
  | none=>rfl
  | some u=>
   obtain⟨_,y⟩:=F.trk ea u z;obtain⟨_,_,_,tr⟩:=F.fly;obtain⟨o1,_,_,_,_,e1,_⟩:=tr;have:=y _ e1;rw[F.fly.2.1] at this;cases this
 have nst:ea∉frs X.stack:=fun z=>by
  obtain⟨_,o,e,d⟩:=I4.stack.mem z;have e':h4.get? ea=some o:=e;rw[he4] at e';cases e';exact d _ hd4
 have nall:s0.heap.get? ea=none:=by
  cases z:s0.heap.get? ea with
  | none=>rfl
  | some o=>
   rcases F.all ea o z with y | ⟨o',y⟩
   . exact absurd y nst
   . rw[F.fly.2.1] at y;cases y
 refine k _ oe4 I4 (I4.track' he4 n0 (fun z=>?_) (fun y c e z=>?_) (fun p hp z=>?_) ?_) n0 ⟨⟨xc,hc4⟩,by
  obtain⟨oz,vz,ez,dz,cz⟩:=cn.kp (kh2.trans (kh3.trans kh4));have ez:h4.get? ea=some oz:=ez;rw[he4] at ez;cases ez;exact⟨vz,dz,cz⟩⟩
 . obtain⟨m,⟨o,es,ep,e,d,_⟩,_⟩:=I4.loc;have e':h4.get? X.env.locals=some o:=e;rw[<- z,he4] at e';cases e';rw[hd4] at d;cases d
 . obtain⟨v,o,e',d⟩:=I4.cell y c e;have e':h4.get? c=some o:=e';rw[z,he4] at e';cases e';rw[hd4] at d;cases d
 . obtain⟨e,_⟩:=I0.pin p hp;rw[z,nall] at e;cases e
 . cases z:X.s₀.heap.get? ea with
   | none=>rfl
   | some o=>
    obtain⟨o',e⟩:=I0.base.there ea o z (by rw[hex];simp);rw[nall] at e;cases e
end
def XQN (X:Cx)(aa:List (Addr×Obj))(R:XR)(e:Value)(s':Shared):Prop:=
 ∃ ea t C B H H' σ s,e = .ref ea/\Inv X aa σ H s/\Fly X.prog X.w X.stack H H' s C ea t B s'/\Clean s'.heap ea/\R σ C H'
def PSn (X:Cx)(st:Stmt)(t:TSx):Prop:=
 ∀ (aa:List (Addr×Obj)) (s:Shared) (σ:St) (H:Hp) (D:Zex) (R:XR),Inv X aa σ H s->t D R σ H->wpAny (model X.prog X.w) X.A (exec st X.env) (SP X aa D) (XQN X aa R) s
def PSsn (X:Cx)(st:List Stmt)(t:TSx):Prop:=
 ∀ (aa:List (Addr×Obj)) (s:Shared) (σ:St) (H:Hp) (D:Zex) (R:XR),Inv X aa σ H s->t D R σ H->wpAny (model X.prog X.w) X.A (execs st X.env) (SP X aa D) (XQN X aa R) s
section
variable {X:Cx}{o e:Expr}{es:List Expr}{st:Stmt}{rest:List Stmt}{pos:Pos}
theorem Zyb {c:Expr}{a b:List Stmt}{tc:TT}{t u:TSx}(hc:PT X.nox c tc)(ha:PSsn X a t)(hb:PSsn X b u):PSn X (.If c a b pos) (txIf tc t u):=by
 intro aa s σ H D R I h;refine wpAny_If (Xaq (hc aa s σ H _ (I.wish _) h) (fun d s1 hz=>?_) fun _ _ z=>False.elim z);obtain⟨H1,I1,q1⟩:=hz;cases d with
 | true=>exact ha aa s1 σ H1 D R I1.unwish q1
 | false=>exact hb aa s1 σ H1 D R I1.unwish q1
theorem Zht {t:TSx}(h1:PSn X st t):PSsn X [st] t:=by
 intro aa s σ H D R I h;refine Xbw (thn (h1 aa s σ H D R I h) fun f s1 q=>?_);cases f with
 | next=>exact Xb6 q
 | brk=>exact q
 | cont=>exact q
 | ret v=>exact q
def Zxw (C:Addr)(m:Str)(sp:Sp)(ta:TE)(t:TA):TSx:=fun D R σ H=>ta σ H fun x H1=>∃ a dx fs,x = .ref a/\H1 a=some (.ins C dx fs)/\fs.lookup m=none/\
 t σ H1 fun vs H2=>sp (x :: vs) H2 (fun _ H3=>D.nx σ H3) (fun c _ H3=>∃ C',c = .ref C'/\R σ C' H3)
theorem Zkb {C:Addr}{k:Nat}{ps:List Str}{sp:Sp}{m:Str}{ta:TE}{t:TA}{ae af:Pos}{pl:Sem Bool}(F:MtN X.prog X.w X.K X.mg X.base C k m ps sp)(he:PE X.nox o ta)(c:Cls X.K C)(hr:Room k X.A)(ha:PA X.nox (e :: es) t)
 (hs:swapsWith (.Call (.Attribute o m ae) (e :: es) [] af) none pos.line X.env=pure false:=by rfl)
 (hst:SEa X e es:=by rfl)(hpl:SPa X es af:=by rfl)
 (ht:MCa X o m (e :: es) pl ae af:=by rfl) :
 PSn X (.Expr (.Call (.Attribute o m ae) (e :: es) [] af) pos) (Zxw C m sp ta t):=by
 obtain⟨f,fd,h1,h3,h4⟩:=F;intro aa s σ H D R I h;refine wpAny_Expr_any ?_ I.quiet hs;refine Xby (pl:=pl) (Xaq (he aa s σ H _ (I.wish _) h) (fun u s1 hq=>?_) fun _ _ z=>False.elim z) ht;obtain⟨x,H1,I1,rx,a,dx,fs,ex,ea,l,q⟩:=hq;subst ex;obtain rfl:u=Value.ref a:=rx;refine Zc7 I1.unwish ea c h1 l ?_;refine Xbq (first:=[.ref a]) (h₀:=X.base) I1.unwish.ok.mod.kin h1.kp (Xaq (ha af aa s1 σ H1 _ I1 q) (fun us s2 hq2=>?_) fun _ _ z=>False.elim z) hst hpl;obtain⟨vs,H2,I2,r,q2⟩:=hq2;have I2:=I2.unwish;refine⟨I2.kIn,?_⟩;have r2:Vals (V.ref a :: vs) (Value.ref a :: us):=.cons rfl r;have hl:(Value.ref a :: us).length=ps.length:=by rw[<- r2.length];exact h4.len _ _ _ _ q2
 have hb':BindsTo s2 fd ⟨.ref a :: us,[]⟩ (ps.zip (.ref a :: us)):=by
  have z:=h3 s2 (.ref a :: us) I2.kIn (by simpa using hl)
  rwa [Xba] at z
 refine Xb5 (codeAny_mono (h4.run X.A X.stack s2 H2 ⟨.ref a :: us,[]⟩ (.ref a :: us) (.ref a :: vs) _ _ hr I2.env0 hb' (.cons rfl r) q2) fun r s' hq=>?_);cases r with
 | error e=>
  obtain⟨ea,t,C,B,H',e1,F,cn,C',e2,q⟩:=hq;cases e2
  exact⟨ea,t,C,B,H2,H',σ,s2,e1,I2,F,cn,q⟩
 | ok fl=>
  cases fl with
  | ret u=>
   obtain⟨v,H3,I3,_,q3⟩:=I2.after hq;exact⟨σ,H3,I3,q3⟩
  | next=>exact False.elim hq
  | brk=>exact False.elim hq
  | cont=>exact False.elim hq
end
section
variable {X:Cx}
end
theorem Zho:entryFor table "proto.unchain" = some Builtin.«proto.unchain»:=entryFor_of_tree (by kernel_rfl)
noncomputable abbrev ctx2 (h:Value):Obj->Obj:=Obj.mapFields (·.setIfInBounds 2 h)
section
variable {prog:Program}{w:World}{A:Around}{E:Value->Shared->Prop}{s:Shared}
theorem Zu4 {α:Type}{e h:Addr}{oh oe:Obj}{vs ve:Array Value}{Q:α->Shared->Prop}(hA:A.handled=some (.ref h))(hh:s.heap.get? h=some oh)(hd:oh.data = .fields vs)(h2:vs[2]? = some Value.none)(ne:h≠e)
 (he:s.heap.get? e=some oe)(hf:oe.data = .fields ve)(hz:2<ve.size)(hE:E (.ref e) { s with heap:=s.heap.update e (ctx2 (.ref h)) }):wpAny (model prog w) A (raiseNew (.ref e):Sem α) Q E s:=by
 unfold raiseNew;refine Xaa (wpAny_handled ?_);rw[hA];have nb:(Value.ref h != Value.ref e)=true:=by simpa using ne
 show wpAny _ _ (if (Value.ref h != Value.ref e)=true then _ else _) _ _ _;rw[if_pos nb];refine Xaa (Xbi (wpAny_runValue (codeAny_builtin Zho ?_)));show wpAny _ _ (field (.ref h) 2 >>= _) _ _ _;refine Xaa (wpAny_field hh hd h2 ?_);refine Xak ?_;refine Xaa (wpAny_setField (i:=2) he hf hz ?_);exact wpAny_throw hE
end
structure RoomH (k:Nat)(A:Around):Prop where
 dp:A.depth+3 * k+5<recursionLimit
 un:A.units+16 * k+200<cLine
theorem RoomH.deeper {k:Nat}{A:Around}(r:RoomH (k+1) A)(env:Env):RoomH k (A.deeper env):=
 ⟨by have:=r.dp;show A.depth+1+3 * k+5<_;omega,by have:=r.un;show A.units+3+16 * k+200<_;omega⟩
theorem Room.toH {k:Nat}{A:Around}(r:Room k A)(v:Option Value):RoomH k (A.mark v):=⟨r.dp,r.un⟩
noncomputable abbrev Cx.still (X:Cx):Cx:={ X with calm:=false }
structure Zlu (P:Program)(w:World)(K:W.Frag)(mg:Str->Option Value)(base:Heap)(CX:CXT)(k:Nat)(f:Addr)(fd:FuncData)(ps:List Str)(sp:Addr->Sp):Prop where
 len:∀ h vs H Q E,sp h vs H Q E->vs.length=ps.length
 run:∀ (A:Around) (h:Addr) (outer:List Env) (s:Shared) (H:Hp) (args:Args) (us:List Value) (vs:List V) (Q:VK) (E:XK),A.handled=some (.ref h)->RoomH k A->Env0 P w K mg base A outer s H->BindsTo s fd args (ps.zip us)->Vals vs us->sp h vs H Q E->
  codeAny (model P w) A (.call (.ref f) args) (CR CX outer P w H s Q E) s
theorem Zlr {CX:CXT}{P:Program}{w:World}{K:W.Frag}{mg:Str->Option Value}{base:Heap}{N ps:List Str}{qual:Str}{scope:Scope}{f:Addr}{cd:Value}{A:Around}{outer:List Env}{s s1:Shared}{H:Hp}{E:XK}{us:List Value}{vs:List V}
 (S:Zak N ps scope)(e0:Env0 P w K mg base A outer s H)(hl:vs.length=ps.length)(r:Vals vs us)
 (x:InCallC s s.heap.objs.size (bindL (envOfC qual scope s.heap.objs.size f cd).kindOf (ps.zip us) fun _=>none) (cellsFrom (s.heap.objs.size+1) scope.names []) (bindC (envOfC qual scope s.heap.objs.size f cd).kindOf (ps.zip us) fun _=>none) s1) :
 Inv (Zc1 CX P w K mg base N qual scope f cd A outer s H E).still [] (Zce N vs) H s1:=by
 have I:=Zfp (CX:=CX) (A:={ A with handled:=none }) (E:=E) S rfl ⟨e0.frames,e0.mod,e0.bs,e0.bsz,e0.funs,e0.frf,e0.hok,e0.bare⟩ hl r x;exact⟨⟨I.ok.mod,I.ok.kind,I.ok.glob,I.ok.blt,I.ok.above,I.ok.inj,I.ok.has,I.ok.cab,(fun z=>by cases z),Around.frames_deeper e0.frames,I.ok.stk,I.ok.exf,I.ok.bs,I.ok.bsz,I.ok.noex,I.ok.exfs,I.ok.funs,I.ok.frf⟩,I.os,I.bare,I.base,I.loc,I.cell,I.free,I.freeC,I.pin,I.hok,I.len⟩
theorem Zwt {CX:CXT}{P:Program}{w:World}{K:W.Frag}{mg:Str->Option Value}{base:Heap}{k:Nat}{f:Addr}{name qual:Str}{params:Arguments}{body:List Stmt}{scope:Scope}{dV kV doc pm ad ct oc:Value}{an od:Option Addr}
 {osl:Array (Option Value)}{N ps:List Str}{sp:Addr->Sp}(lk:K.lookup f=some ⟨oc,od,.func (W.fnOf name qual params body scope dV kV doc pm an ad ct),osl⟩) (hcd:PySem.W.codeIn K ad qual=true) (S:Zak N ps scope)
 (len:∀ h vs H Q E,sp h vs H Q E->vs.length=ps.length)
 (ah:∀ (A:Around)(h:Addr)(outer:List Env)(s:Shared)(H:Hp)(vs:List V)(Q:VK)(E:XK),(A.deeper (envOfC qual scope s.heap.objs.size f ad)).handled=some (.ref h)->RoomH k (A.deeper (envOfC qual scope s.heap.objs.size f ad))->sp h vs H Q E->
  ∃ t,PSs (Zc1 CX P w K mg base N qual scope f ad A outer s H E).still body t/\t { nx:=fun _ H'=>Q .non H',rt:=Q } (Zce N vs) H) :
 Zlu P w K mg base CX (k+1) f (W.fnOf name qual params body scope dV kV doc pm an ad ct) ps sp:=by
 refine⟨len,fun A h outer s H args us vs Q E hA hr e0 hb r hsp=>?_⟩;have hl:=len _ _ _ _ _ hsp;have KX:K.In s.heap:=e0.mod.kin.keeps fun b o e=>(e0.bs b o e).1;have lim:s.heap.NoLimit:=e0.mod.nolimit.keeps fun b o e=>(e0.bs b o e).1;have hkind:∀ y∈ps.zip us,scope.names.lookup y.1=some .local\/(scope.names.lookup y.1=some .cell/\((cellsFrom (s.heap.objs.size+1) scope.names []).lookup y.1).isSome=true):=fun⟨n,v⟩ hy=>by
  rcases S.par n (List.of_mem_zip hy).1 with q | q
  . exact .inl q
  . exact .inr ⟨q,PySem.W.cellsFrom_some _ _ _ (.inl q)⟩
 refine codeAny_call_function (by have:=hr.dp;omega) (KX _ _ lk) rfl S.co S.gen rfl (PySem.W.codeRec_of KX hcd) (hb _ _ _ _ ?_);refine wpAny_newFunctionEnv_cells S.kind hkind fun env he s1 x=>?_;subst he;refine⟨lim.keeps x.toInCall.keep,codeAny_func ?_⟩;obtain⟨t,ht,hq⟩:=ah A h outer s H vs Q E hA (hr.deeper _) hsp;have I:Inv (Zc1 CX P w K mg base N qual scope f ad A outer s H E).still [] (Zce N vs) H s1:=Zlr S e0 hl r x;refine Xaq (ht [] s1 (Zce N vs) H _ I hq) (fun fl s' hs=>?_) fun e s' hs=>hs;have fin:∀ {σ':St}{H':Hp}{v:V}{u:Value},Inv (Zc1 CX P w K mg base N qual scope f ad A outer s H E).still [] σ' H' s'->RelV v u->Q v H'->CE outer P w H s Q u s':=
  fun {σ' H' v u} J rv q=>⟨v,H',J.os,J.bare,J.base,J.hok,rv,q⟩
 cases fl with
 | ret u=>
  obtain⟨v,σ',H',J,rv,q⟩:=hs;exact fin J rv q
 | next=>
  obtain⟨σ',H',J,q⟩:=hs;exact fin (v:=V.non) (u:=Value.none) J rfl q
 | brk=>
  obtain⟨_,_,_,q⟩:=hs;exact False.elim q
 | cont=>
  obtain⟨_,_,_,q⟩:=hs;exact False.elim q
def MtH (P:Program)(w:World)(K:W.Frag)(mg:Str->Option Value)(base:Heap)(CX:CXT)(C:Addr)(k:Nat)(m:Str)(ps:List Str)(sp:Addr->Sp):Prop:=∃ f fd,Zmq K C m f/\Binds K fd ps []/\Zlu P w K mg base CX k f fd ps sp
theorem MethAt.okH {CX:CXT}{P:Program}{w:World}{K:W.Frag}{mg:Str->Option Value}{base:Heap}{C:Addr}{m qual:Str}{st:Stmt}{N ps:List Str}{k:Nat}{sp:Addr->Sp}(F:MethAt K C m qual st)(S:Zak N ps (Zad st))
 (hb:∀ (kV doc pm:Value)(an:Option Addr)(ad ct:Value)(us:List Value),us.length=ps.length->bindArgs (W.fnOf m qual (Za3 st) (Zaq st) (Zad st) .none kV doc pm an ad ct) ⟨us,[]⟩=pure (ps.zip us))
 (len:∀ h vs H Q E,sp h vs H Q E->vs.length=ps.length)
 (ah:∀ (f:Addr)(ad:Value)(A:Around)(h:Addr)(outer:List Env)(s:Shared)(H:Hp)(vs:List V)(Q:VK)(E:XK),(A.deeper (envOfC qual (Zad st) s.heap.objs.size f ad)).handled=some (.ref h)->RoomH k (A.deeper (envOfC qual (Zad st) s.heap.objs.size f ad))->sp h vs H Q E->
  ∃ t,PSs (Zc1 CX P w K mg base N qual (Zad st) f ad A outer s H E).still (Zaq st) t/\t { nx:=fun _ H'=>Q .non H',rt:=Q } (Zce N vs) H):MtH P w K mg base CX C (k+1) m ps sp:=by
 obtain⟨f,fd,h1,F⟩:=F;refine⟨f,fd,h1,F.binds hb,?_⟩;obtain⟨oc,od,kV,doc,pm,an,ad,ct,osl,rfl,lk,hcd⟩:=F.ex;exact Zwt lk hcd S len fun A h outer s H vs Q E hA hr hsp=>ah f ad A h outer s H vs Q E hA hr hsp
section
variable {X:Cx}{CX:CXT}{k:Nat}{f C h:Addr}{fd:FuncData}{ps:List Str}{sp:Addr->Sp}{E:XK}{x m:Str}{p pos ae:Pos}{e o:Expr}{es:List Expr}{ta:TE}{t:TA}
end
section
variable {M:Model}{A:Around}{E:Value->Shared->Prop}{s:Shared}{env:Env}{nm q:Str}{C N:Addr}{bs bm:List Value}{hdct:Bool}{sn:List Str}{sub:List Value}{ab:Bool}{col:Option Bool}{dd:Option Addr}{k0 k1 k2 k3 k5:Option Value}{newId:String}
end
section
variable {X:Cx}
end
section
variable {X:Cx}
end
section
variable {X:Cx}
theorem Zi1 {C:Addr}{k:Nat}{ps:List Str}{sp:Sp}{m:Str}{o e:Expr}{es:List Expr}{ta:TE}{t:TA}{ae pos:Pos}{E:XK}{pl:Sem Bool}(F:MtN X.prog X.w X.K X.mg X.base C k m ps sp)(he:PE X o ta)(c:Cls X.K C)(hr:Room k X.A)(hx:Zbu (CXN X.prog X.w) X E)(ha:PA X (e :: es) t)
 (hst:SEa X e es:=by rfl)(hpl:SPa X es pos:=by rfl)
 (ht:MCa X o m (e :: es) pl ae pos:=by rfl) :
 PE X (.Call (.Attribute o m ae) (e :: es) [] pos) (Zge C m sp [] E ta t):=by
 obtain⟨f,fd,h1,h3,h4⟩:=F;exact Zf5 he c h1 h4 hr h3 .nil hx ha hst hpl ht
end
section
variable {M:Model}{A:Around}{E:Value->Shared->Prop}{s:Shared}
theorem Zi9 {base:Heap}{env:Env}{outer:List Env}{L e:Addr}{oe:Obj}{vs:Array Value}{a0:Value}{Q:Unit->Shared->Prop}(hfr:A.frames=some (env :: outer))(hl:s.heap.FunFrames base (env :: outer))(hf:env.frame=some L)(he:s.heap.get? e=some oe)
 (hkb:base.StaysIn s.heap)(hen:base.get? e=none)(hd:oe.data = .fields vs)(h1:vs[1]? = some Value.none)(h0:vs[0]? = some a0)(h:∀ h',Heap.HeldW base (env :: outer) e oe.cls a0 L h'->s.heap.UpToSlots h'->Q () { s with heap:=h' }):wpAny M A (noteFrame (.ref e) env) Q E s:=by
 unfold noteFrame;simp only[hf];refine Xaa (wpAny_field he hd h1 ?_);rw[if_neg (by decide)];exact wpAny_entryW hfr hl hf he hkb hen hd (Array.getElem?_eq_some_iff.mp h1).1 h0 fun h' ⟨k1,k2,k3,k4⟩=>h h' ⟨k1,hen,k2,k3⟩ k4
theorem Zmb {base:Heap}{env:Env}{l:List Env}{L e:Addr}{cls a0:Value}{Q:Unit->Shared->Prop}(hf:env.frame=some L)(hh:Heap.HeldW base l e cls a0 L s.heap)(hQ:∀ h',Heap.HeldW base l e cls a0 L h'->s.heap.UpToSlots h'->Q () { s with heap:=h' }) :
 wpAny M A (do
  if (<- field (.ref e) 1) == .none then unsupported "frame.own-activation:exception-without-traceback"
  setFlight (.ref e) env.frame) Q E s:=by
 obtain⟨k1,k2,k3,oe,vs,T,oT,ts,he,hcls,hd,h1,hnT,hTe,hT,hdT,h3⟩:=hh;have sz:3<ts.size:=(Array.getElem?_eq_some_iff.mp h3).1;refine Xaa (wpAny_field he hd h1 ?_);show wpAny _ _ (setFlight (.ref e) env.frame) _ _ _;unfold setFlight;refine Xaa (wpAny_field he hd h1 ?_);rw[if_pos (show(Value.ref T != Value.none)=true from by simp),hf];have oth:∀ b,b≠T->(s.heap.update T (Obj.mapFields (·.setIfInBounds 3 (rawInt L)))).get? b=s.heap.get? b:=fun b hb=>Xa5 _ _ (Ne.symm hb);have nof:∀ b o,s.heap.get? b=some o->(∀ vs,o.data≠.fields vs)->b≠T:=fun b o hb hnf q=>by
  rw[q,hT] at hb;cases hb;exact hnf ts hdT
 refine wpAny_setField hT hdT sz (hQ _ ⟨fun b o hbo=>(oth b fun q=>by rw[q,hnT] at hbo;cases hbo).trans (k1 b o hbo),k2,k3.of_keeps fun b o hb hnf=>⟨o,(oth b (nof b o hb hnf)).trans hb,rfl⟩,?_⟩ fun b o hb hnf=>⟨o.slots,(oth b (nof b o hb hnf)).trans hb⟩);exact⟨oe,vs,T,_,_,(oth e (Ne.symm hTe)).trans he,hcls,hd,h1,hnT,hTe,Xa9 _ hT (Obj.isFreed_of_fields (Obj.data_mapFields hdT _)),Obj.data_mapFields hdT _,by simp[sz]⟩
theorem Zvk (e:Value)(env:Env):DS (do
 if (<- field e 1) == .none then unsupported "frame.own-activation:exception-without-traceback"
 setFlight e env.frame:Sem Unit):=by
 refine .bnd (fun a=>?_) (Zeo e 1);split
 . exact .bnd (fun _=>Zbv _ _) (.unsup _)
 . exact Zbv _ _
end
def Zpr (X:Cx)(E:XK):Prop:=∀ (aa:List (Addr×Obj))(σ:St)(H:Hp)(s:Shared)(e C t d h:Addr)(oe:Obj)(ve:Array Value),Inv X aa σ H s->s.heap.get? e=some oe->oe.cls = .ref C->oe.dict=some d->oe.data = .fields ve->ve[1]? = some Value.none->ve[0]? = some (.ref t)->ChO H e oe->H e=none->X.s₀.heap.get? e=none->E (.ref C) (some d) H->
 notedBy (model X.prog X.w) (X.A.mark (some (.ref h))) X.env (fun x s2=>cameBackBy (model X.prog X.w) X.A X.env X.xe x s2) (.ref e) s
theorem Zl7 {N:List Str}{qual:Str}{scope:Scope}{f:Addr}{cd:Value}{A:Around}{outer:List Env}{s:Shared}{H:Hp}{E:XK} :
 Zpr (Zc1 (CXR P w) P w K mg base N qual scope f cd A outer s H E) E:=by
 intro aa σ H1 s1 e C t d h oe ve I he hc hdi hd hv1 hv0 cho hne h0 q;have h0:s.heap.get? e=none:=h0;have hfr:∀ b∈frs (envOfC qual scope s.heap.objs.size f cd :: outer),H1 b=none:=I.stkFree;have hsub:∀ b∈frs outer,b∈frs (envOfC qual scope s.heap.objs.size f cd :: outer):=fun b hb=>Xal _ hb;have noex:∀ b:Addr,b∉(Zc1 (CXR P w) P w K mg base N qual scope f cd A outer s H E).ex:=fun b z=>absurd (show b∈([]:List Addr) from z) (by simp);have hB:∀ {b o},s1.heap.get? b=some o->b≠e->b∉frs (envOfC qual scope s.heap.objs.size f cd :: outer)->(W.hideAll s1.heap (e :: frs (envOfC qual scope s.heap.objs.size f cd :: outer))).get? b=some o:=fun z n1 n2=>W.hideAll_get _ z (fun y=>(List.mem_cons.mp y).elim n1 n2);have hnew:∀ b o,s.heap.get? b=some o->b∉frs outer->b∉frs (envOfC qual scope s.heap.objs.size f cd :: outer):=fun b o z n y=>by
  rcases List.mem_cons.mp (show b∈s.heap.objs.size :: frs outer from y) with y | y
  . exact absurd (Xai z) (by rw[y];exact Xbl _)
  . exact n y
 have nee:∀ b o,s.heap.get? b=some o->b≠e:=fun b o z y=>by rw[y,h0] at z;cases z
 have hBe:(W.hideAll s1.heap (e :: frs (envOfC qual scope s.heap.objs.size f cd :: outer))).get? e=none:=Xbr _ Xaz;have stays:(W.hideAll s1.heap (e :: frs (envOfC qual scope s.heap.objs.size f cd :: outer))).StaysIn s1.heap:=fun b o z=>PySem.W.of_hideAll _ z;have funs:=Zb0 (b2:=W.hideAll s1.heap (e :: frs (envOfC qual scope s.heap.objs.size f cd :: outer))) I.stack fun a ha=>Xbr _ (Xal _ ha);have trkne:∀ b u,H1 b=some u->b≠e:=fun b u z y=>by rw[y,hne] at z;cases z
 have keepT:∀ b u,H1 b=some u->b∉frs (envOfC qual scope s.heap.objs.size f cd :: outer):=fun b u z y=>by rw[hfr b y] at z;cases z
 have st1:=Zi9 (M:=model P w) (A:=(A.deeper (envOfC qual scope s.heap.objs.size f cd)).mark (some (.ref h))) (E:=fun _ _=>False) (s:=s1) (a0:=.ref t) (Q:=fun _ s'=>∃ h',s'={ s1 with heap:=h' }/\Heap.HeldW (W.hideAll s1.heap (e :: frs (envOfC qual scope s.heap.objs.size f cd :: outer))) (envOfC qual scope s.heap.objs.size f cd :: outer) e (.ref C) (.ref t) s.heap.objs.size h'/\s1.heap.UpToSlots h')
  I.ok.frames funs rfl he stays hBe hd hv1 hv0 fun h' hL up=>⟨h',rfl,by rw[hc] at hL;exact hL,up⟩
 refine Xaq (Zbb (Zhw _ _) st1) (fun _ s' z=>?_) fun _ _ z=>z.1.elim;obtain⟨⟨h1,rfl,held1,up1⟩,kh1⟩:=z;have st2:=Zmb (M:=model P w) (A:=A.deeper (envOfC qual scope s.heap.objs.size f cd)) (E:=fun _ _=>False) (s:={ s1 with heap:=h1 }) (env:=envOfC qual scope s.heap.objs.size f cd) (Q:=fun _ s'=>∃ h',s'={ s1 with heap:=h' }/\Heap.HeldW (W.hideAll s1.heap (e :: frs (envOfC qual scope s.heap.objs.size f cd :: outer))) (envOfC qual scope s.heap.objs.size f cd :: outer) e (.ref C) (.ref t) s.heap.objs.size h'/\h1.UpToSlots h')
  rfl held1 fun h' hL up=>⟨h',rfl,hL,up⟩
 refine Xaq (Zbb (Zvk _ _) st2) (fun _ s' z=>?_) fun _ _ z=>z.1.elim;obtain⟨⟨h2',rfl,held2,up2⟩,kh2⟩:=z;have st3:wpAny (model P w) (A.deeper (envOfC qual scope s.heap.objs.size f cd)) (leaving (envOfC qual scope s.heap.objs.size f cd) (.ref e)) (fun _ s'=>∃ h',s'={ s1 with heap:=h' }/\Heap.FlyingW (W.hideAll s1.heap (e :: frs (envOfC qual scope s.heap.objs.size f cd :: outer))) (envOfC qual scope s.heap.objs.size f cd :: outer) e (.ref C) (.ref t) h'/\h2'.UpToSlots h') (fun _ _=>False) { s1 with heap:=h2' }:=by
  unfold leaving;refine Xaa (wpAny_noteFrame_againW (s:={ s1 with heap:=h2' }) rfl held2.2.2.2 ?_);exact wpAny_landsW (s:={ s1 with heap:=h2' }) held2 fun h' fly up=>⟨h',rfl,fly,up⟩
 show wpAny (model P w) (A.deeper (envOfC qual scope s.heap.objs.size f cd)) (leaving (envOfC qual scope s.heap.objs.size f cd) (.ref e)) _ _ _;refine Xaq (Zbb (Zda _ _) st3) (fun _ s' z=>?_) fun _ _ z=>z.1.elim;obtain⟨⟨h2,rfl,⟨k1,_,⟨_,_,k2⟩,k3⟩,up3⟩,kh3⟩:=z;have up:=UpToSlots.trans up1 (UpToSlots.trans up2 up3);have kh:=kh1.trans (kh2.trans kh3);have old:∀ b o,s.heap.get? b=some o->H b=none->b∉frs outer->(W.hideAll s1.heap (e :: frs (envOfC qual scope s.heap.objs.size f cd :: outer))).get? b=some o:=fun b o z n nf=>
  hB (I.base.keep b o z n nf (noex b)) (nee b o z) (hnew b o z nf)
 have slot:∀ b o,s.heap.get? b=some o->b∈frs outer->∃ sl,h2.get? b=some { o with slots:=sl }:=fun b o z hb=>by
  obtain⟨sl,e1⟩:=I.base.slot b o z (I.ok.frf b hb) hb (noex b);obtain⟨_,o2,e2,d2⟩:=I.ok.funs.mem hb;have e2':s.heap.get? b=some o2:=e2;rw[z] at e2';cases e2';obtain⟨sl2,e3⟩:=up b _ e1 d2;exact⟨sl2,e3⟩
 have all:∀ b o,s.heap.get? b=some o->b∈frs outer\/∃ o',(W.hideAll s1.heap (e :: frs (envOfC qual scope s.heap.objs.size f cd :: outer))).get? b=some o':=fun b o z=>by
  by_cases hb:b∈frs outer
  . exact .inl hb
  . obtain⟨o',e1⟩:=I.base.there b o z (noex b);exact .inr ⟨o',hB e1 (nee b o z) (hnew b o z hb)⟩
 refine⟨e,t,C,_,H1,d,rfl,⟨I.os,I.bare,⟨k1,hBe,k2,k3⟩,⟨fun b o z n nf _=>k1 _ _ (old b o z n nf),fun b o z n hb _=>slot b o z hb,I.base.free,fun b o z _=>?_,I.base.tups,I.base.frzs,I.base.tbls⟩,fun a u z=>?_,old,fun b u z=>⟨fun y=>keepT b u z (hsub b y),fun o zo=>?_⟩,all⟩,DictAt.kp ⟨_,he,hdi⟩ kh,Chn.kp ⟨_,he,cho⟩ kh,q⟩
 . rcases all b o z with hb | ⟨o',y⟩
   . obtain⟨sl,y⟩:=slot b o z hb;exact⟨_,y⟩
   . exact⟨o',k1 _ _ y⟩
 . refine(I.hok a u z).stay (fun b v hb hv=>k1 _ _ ?_) (fun _ y=>y) fun _ _ y=>y;rcases hb with rfl | hb
   . exact hB hv (trkne _ _ z) (keepT _ _ z)
   . exact hB hv (trkne _ _ hb) (keepT _ _ hb)
 . obtain⟨o',e1⟩:=(I.hok b u z).there;have e2:=hB e1 (trkne b u z) (keepT b u z);have e3:=k1 _ _ e2;rw[zo] at e3;cases e3;exact e2
section
variable {A:Around}{E:Value->Shared->Prop}{s:Shared}{env:Env}{nm q:Str}{C N:Addr}{bs bm:List Value}{hdct:Bool}{sn:List Str}{sub:List Value}{ab:Bool}{col:Option Bool}{dd:Option Addr}{k0 k1 k2 k3 k5:Option Value}{newId:String}
noncomputable abbrev Zun (h:Addr) (e:Addr) (hp:Heap):Heap:=((hp.update e (Obj.mapFields (·.setIfInBounds 3 Value.none))).update e (Obj.mapFields (·.setIfInBounds 4 (.bool true)))).update e (ctx2 (.ref h))
theorem Zjf {prog:Program}{w:World}{x c:Sem Value}{h:Addr}{Q:Flow->Shared->Prop}(hbase:bm.contains (.type "BaseException")=true)(hA:A.handled=some (.ref h))
 (hx:wpAny (model prog w) A x (fun v s1=>∃ e t d oh vs,v = .ref e/\s1.heap.get? C=some (excClassObj nm q C N bs bm hdct sn sub ab col dd k0 k1 k2 k3 k5 newId)/\s1.heap.get? e=some { Zlo C t with dict:=some d }/\s1.heap.get? h=some oh/\oh.data = .fields vs/\vs[2]? = some Value.none/\h≠e/\e≠C/\
  (∀ {Q':Value->Shared->Prop}{E':Value->Shared->Prop},Q' Value.none s1->wpAny (model prog w) A c Q' E' s1)/\E (.ref e) { s1 with heap:=Zun h e s1.heap }) E s):wpAny (model prog w) A (raiseStmt env (some x) (some c)) Q E s:=by
 have isB:(Value.ref C :: bm).contains (.type "BaseException")=true:=by rw[List.contains_cons,hbase,Bool.or_true]
 unfold raiseStmt;refine Xaa (Xaq hx (fun v s1 z=>?_) fun _ _ z=>z);obtain⟨e,t,d,oh,vs,rfl,hC,he,hh,hd,h2,ne,neC,hc,hE⟩:=z;refine Xaa (Xbi (hc ?_));refine Xaa (Xak ?_);obtain⟨hp,g,dr,tk,os⟩:=s1
 repeat first | (with_reducible refine Xb7 he ?_) | (with_reducible refine Xb7 hC ?_) | ((with_reducible refine wpAny_isSubtype_exc hC ?_);rw[isB]) | wp_step
 have he1:=Xa9 (Obj.mapFields (·.setIfInBounds 3 Value.none)) he rfl;have he2:=Xa9 (Obj.mapFields (·.setIfInBounds 4 (Value.bool true))) he1 rfl;exact Zu4 hA ((Xa5 _ _ (Ne.symm ne)).trans ((Xa5 _ _ (Ne.symm ne)).trans hh)) hd h2 ne he2 rfl (by show 2<6;decide) hE
end
theorem RoomH.make {k:Nat}{A:Around}(r:RoomH (k+1) A)(C:Addr)(us:List Value)(kw:List (Str×Value)):RoomH k (A.under (.builtin "type.__call__" ⟨.ref C :: us,kw⟩)):=
 ⟨by have:=r.dp;rw[Zgm];omega,by have:=r.un;rw[Zgx];omega⟩
section
variable {X:Cx}{C fi h:Addr}{k:Nat}{fd:FuncData}{ps:List Str}{sp:Addr->Sp}
theorem Zls {aa:List (Addr×Obj)}{σ:St}{H:Hp}{s:Shared}{Q:VK}{us:List Value}{vs:List V}(T:Zhi X.K C fi)(F:Zlu X.prog X.w X.K X.mg X.base CX0 k fi fd ps sp)(hA:X.A.handled=some (.ref h))(hr:RoomH (k+1) X.A)(hb:Binds X.K fd ps [])
 (I:Inv X aa σ H s)(r:Vals vs us)(hl:us.length<=sizeLine)(hsp:∀ e,H e=none->X.s₀.heap.get? e=none->sp h (.ref e :: vs) (upd H e (.ext (Ex0 C e))) (fun v H2=>v = .non/\Q (.ref e) H2) E0) :
 wpAny (model X.prog X.w) X.A (call (.ref C) us) (EP X aa σ Q) X.xe s:=by
 obtain⟨nm,q',N,bs,bm,hdct,sn,sub,ab,col,dd,k0,k1,k2,k3,k5,lk,tl,has,no,ni⟩:=T.ex;obtain⟨fo,lf,fc⟩:=T.fn;have XK:=I.kIn;have tail:=(tailQ.ok XK tl).tail;have FB:=PySem.F.excBase_ValueError;have hn:=Heap.Ns.of_isNs (PySem.W.isNs_of_in XK no);have hi:s.heap.nsMap N "__init__" = some (.ref fi):=Znm XK hn ni;have he:(Zmg s.heap C us).get? (s.heap.objs.size+1)=some (Zlo C s.heap.objs.size):=by
  have:=Xau (s.heap.push (tupO us)) (o:=Zlo C s.heap.objs.size) rfl
  rwa [Heap.size_push] at this
 have I2:Inv X aa σ (upd H (s.heap.objs.size+1) (.ext (Ex0 C (s.heap.objs.size+1)))) { s with heap:=Zmg s.heap C us }:=
  I.laid (t':=s.toks) (fun b o e=>Xac _ (Xac _ e)) (Nat.le_succ _) ⟨⟨_,he⟩,⟨_,he⟩,fun h1 h2 ⟨t1,y⟩ kk=>⟨t1,kk _ y⟩⟩
 have hq:=hsp (s.heap.objs.size+1) (I.hok.fresh (Nat.le_succ _)) (Xb4 (Xan I.sz (Nat.le_succ _)));have r2:Vals (V.ref (s.heap.objs.size+1) :: vs) (Value.ref (s.heap.objs.size+1) :: us):=.cons rfl r;have ai:(Value.ref (s.heap.objs.size+1) :: us++[]).length=ps.length:=by
  have e:=r2.length;rw[F.len _ _ _ _ _ hq] at e;rw[Xba];exact e.symm
 have bd:=hb { s with heap:=Zmg s.heap C us } (Value.ref (s.heap.objs.size+1) :: us) I2.kIn ai;rw[Xba] at bd;obtain⟨hp,g,d,t,os⟩:=s;refine Ze2 FB (by decide) FB tail (XK _ _ lk) hn hi (XK _ _ lf) fc hl ?_;refine Xb5 (codeAny_mono (F.run _ h X.stack _ _ ⟨Value.ref (hp.objs.size+1) :: us,[]⟩ _ _ _ E0 hA (hr.make C us []) (I2.env0.make C us []) bd r2 hq) fun r s' hq'=>?_);cases r with
 | error e=>exact Zb6 aa σ _ _ e s' I2 hq'
 | ok fl=>
  cases fl with
  | ret u=>
   obtain⟨v,H',I3,rv,ev,q3⟩:=I2.after hq';subst ev;exact⟨rv,V.ref (hp.objs.size+1),H',I3,rfl,q3⟩
  | next=>exact False.elim hq'
  | brk=>exact False.elim hq'
  | cont=>exact False.elim hq'
theorem Zm9 {x:Str}{e:Expr}{es:List Expr}{t:TA}{p pos:Pos}(T:Zhi X.K C fi)(F:Zlu X.prog X.w X.K X.mg X.base CX0 k fi fd ps sp)(hA:X.A.handled=some (.ref h))(hr:RoomH (k+1) X.A)(hb:Binds X.K fd ps [])(hg:Gl X x)(hm:X.mg x=some (.ref C))(ha:PA X (e :: es) t)
 (hdb:NDa x:=by decide)(he:SEa X e es:=by rfl)(hpl:SPa X es pos:=by rfl) :
 PE X (.Call (.Name x p) (e :: es) [] pos) (Zky X.s₀.heap C (sp h) t):=by
 intro aa s σ H Q I hq;refine Xbp (Zcp I hg hm ?_ hdb);refine Xbq (h₀:=X.base) I.ok.mod.kin T.kp (thn (ha pos aa s σ H _ I hq) fun us s1 ⟨vs,H1,I1,r,hl,q⟩=>⟨I1.kIn,?_⟩) he hpl;exact Zls T F hA hr hb I1 r (by show us.length<=_;rw[<- r.length,Xam];omega) q
end
def Ex2 (C e d h:Addr):Heap->Prop:=fun hp=>∃ t,hp.get? e=some { cls:=.ref C,dict:=some d,data:=.fields #[.ref t,.none,.ref h,.none,.bool true,.none],slots:=#[] }
theorem Ztn {H:Hp}{a:Addr}{o:HO}:drp (upd H a o) a=drp H a:=by
 funext b
 by_cases e:b=a
 . rw[e,Zdu,Zdu]
 . rw[Zcm e,Zcm e,Zaf e]
section
variable {X:Cx}
def tTryS (K:W.Frag)(h0:Heap)(C1 C:Addr)(sp:Addr->Sp)(E:XK)(tb:TSx)(t:TA):TS:=fun D σ H=>tb D (fun σ' C' H'=>C'=C1/\∀ e1 o1,H' e1=none->IsN K C1 o1->Zky h0 C (sp e1) t σ' (upd H' e1 (.frz o1 (.own 0))) fun v H2=>
 ∃ e d,v = .ref e/\h0.get? e=none/\e≠e1/\H2 e=some (.ext (Ex1 C e d))/\H2 e1=some (.frz o1 (.own 0))/\E (.ref C) (some d) (drp H2 e)) σ H
theorem Zts {x y:Str}{C1 C fi:Addr}{k:Nat}{fd:FuncData}{ps:List Str}{sp:Addr->Sp}{E:XK}{body:List Stmt}{tb:TSx}{t:TA}{a:Expr}{as:List Expr}{np yp af cp rpos hpos pos:Pos}{cj:Nat}(hex:X.ex=[])(hst:X.stack=X.env :: X.outer/\X.env.frame=some X.env.locals)
 (xc:Zq0 X.K C1)(hg:Gl X x)(hm:X.mg x=some (.ref C1))(hb:PSsn X body tb)(hx:Zpr X E)(T:Zhi X.K C fi)(F:Zlu X.prog X.w X.K X.mg X.base CX0 k fi fd ps sp)(hr:Room (k+1) X.A)(hbi:Binds X.K fd ps [])(hgy:Gl X y)(hmy:X.mg y=some (.ref C))
 (ha:∀ e1 E',PA ((X.hand e1).wish E') (a :: as) t)(hdb:NDa x:=by decide)(hdy:(y == ("__debug__" : Str))=false:=by decide)(he:starEach (a :: as) X.env=(false,eval a X.env) :: starEach as X.env:=by rfl)(hpl:(backTo af (starEach as X.env)).any (·.1)=false:=by rfl) :
 PS X (.Try body [.ExceptHandler (some (.Name x np)) none [.Raise (some (.Call (.Name y yp) (a :: as) [] af)) (some (.Constant .none cj cp)) rpos] hpos] [] [] pos) (tTryS X.K X.s₀.heap C1 C sp E tb t):=by
 intro aa s σ H D I h;refine wpAny_Try_except (Xaq (hb aa s σ H D _ I h) (fun f s1 q=>?_) fun e s1 q=>?_)
 . cases f with
   | next=>exact Xb6 q
   | brk=>exact q
   | cont=>exact q
   | ret u=>exact q
 . obtain⟨ea,t0,C',B,H0,H',σ',s0,rfl,I0,F0,cn,rfl,q⟩:=q;obtain⟨nm,q',N,bs,bm,hdct,sn,sub,ab,col,dd,k0,k1,k2,k3,k5,lk,tl,has,no,ni⟩:=T.ex;refine Zrd hex hst xc hg hm hdb I0 F0 cn fun s3 kk=>codeAny_handlers_suite (kk fun s4 oe I4 I5 n0 ix=>?_);have q:=q ea oe n0 ix;refine Xbw ?_;rw[arm_exec_Raise];refine Xaa (wpAny_standAt (Zjf (h:=ea) (C:=C) (nm:=nm) (q:=q') (N:=N) (bs:=bs) (bm:=bm) (hdct:=hdct) (sn:=sn) (sub:=sub) (ab:=ab) (col:=col) (dd:=dd) (k0:=k0) (k1:=k1) (k2:=k2) (k3:=k3) (k5:=k5) (newId:="ValueError.__new__") has rfl ?_));refine Xaa (Xaq (Zm9 (X:=(X.hand ea).wish _) (h:=ea) (p:=yp) (pos:=af) T F rfl (hr.toH _) hbi hgy hmy (ha ea _) hdy he hpl aa s4 σ' _ _ ((I5.hand ea).wish _) q) (fun v s5 z=>Xaa (wpAny_standAt (Xak ?_))) fun _ _ z=>z);obtain⟨x',H2,I2,rx,e,d,rfl,hn,ne,h2,h1,q⟩:=z;obtain rfl:v=Value.ref e:=rx;obtain⟨⟨t',ht⟩,_,_⟩:=I2.hok _ _ h2;obtain⟨vs,v1,v2⟩:=ix.cl;have hC:=I2.kIn _ _ lk;have neC:e≠C:=by rintro rfl;rw[ht] at hC;cases congrArg Obj.data (Option.some.inj hC)
   refine⟨e,t',d,oe,vs,rfl,hC,ht,(I2.hok _ _ h1).1,v1,v2,Ne.symm ne,neC,fun {Q' E'} q'=>?_,?_⟩
   . exact Xaa (Constant_none (Xaa (wpAny_standAt (Xak q'))))
   . have IX:Inv X aa σ' H2 s5:=Inv.unhand I0.ok (ea:=ea) I2.unwish;have ob:(Zun ea e s5.heap).get? e=some { cls:=.ref C,dict:=some d,data:=.fields #[.ref t',.none,.ref ea,.none,.bool true,.none],slots:=#[] }:=
      Xa9 (ctx2 (.ref ea)) (Xa9 (Obj.mapFields (·.setIfInBounds 4 (Value.bool true))) (Xa9 (Obj.mapFields (·.setIfInBounds 3 Value.none)) ht rfl) rfl) rfl
     have I3:Inv X aa σ' (upd H2 e (.ext (Ex2 C e d ea))) { s5 with heap:=Zun ea e s5.heap }:=
      IX.write (x:=e) (e:=e) (t':=s5.toks) (by rw[h2];trivial) (.inl rfl) (fun b w hb z=>(Xa5 _ _ (Ne.symm hb)).trans ((Xa5 _ _ (Ne.symm hb)).trans ((Xa5 _ _ (Ne.symm hb)).trans z))) ⟨_,ob⟩ ⟨⟨t',ob⟩,⟨_,ob⟩,fun h1 h2 ⟨t1,z⟩ kk=>⟨t1,kk _ z⟩⟩
     have I4':=I3.drop Zaa;rw[Ztn] at I4';exact hx aa σ' (drp H2 e) _ e C t' d ea _ _ I4' ob rfl rfl rfl rfl rfl ⟨_,rfl,.inr ⟨ea,oe,vs,rfl,Ne.symm ne,by rw[Zcm (Ne.symm ne)];exact h1,v1,v2⟩⟩ Zdu hn q
end
theorem Zjr {X:Cx}:MtM X "list.insert" (fun x vs H Q=>∃ l xs y,∃ k:Nat,x = .ref l/\vs=[.int (k:Int),y]/\k<=xs.length/\xs.length<1000/\H l=some (.lst xs)/\Q .non (upd H l (.lst (xs.take k++y :: xs.drop k)))):=by
 intro aa s σ H x vs v us Q I rx rv h;obtain⟨l,xs,y,k,rfl,rfl,hk,hz,hH,q⟩:=h;cases rx
 obtain⟨u0,u,rfl,⟨t,rfl⟩,ru⟩:=Znn rv;obtain⟨z,its,n,r,hl,e⟩:=I.lstM hH;have ai:=r.length;have fits:¬ (!Builtin.List.listFitsIndex (k:Int))=true:=by
  have:Builtin.List.listFitsIndex (k:Int)=true:=by
   unfold Builtin.List.listFitsIndex;rw[Bool.and_eq_true];exact⟨Xah (Int.le_trans (by decide:(-(2 ^ 63):Int)<=0) om),Xah (Int.lt_of_lt_of_le (show(k:Int)<1000 by omega) (by decide:(1000:Int)<=2 ^ 63))⟩
  rw[this];decide
 have hsz:its.toArray.size<=sizeLine:=by rw[Xar,Xam];omega
 generalize hx:((k:Nat):Int)=xi at fits;have g:=PySem.AutoListH.list_insert_list_int_val_1 l its.toArray n xi t u fits hsz;refine call_meets F.slot_list_insert ⟨_,e,rfl⟩ F.entry_list_insert (F.args_list_insert_3 _ _ _) g ⟨e,?_⟩;refine⟨.non,_,I.lset (its':=its.take k++u :: its.drop k) hH e ?_ ?_ ?_,rfl,q⟩
 . have e1:(if xi<0 then(xi+((its.toArray.size:Nat):Int)).toNat else min xi.toNat its.toArray.size)=k:=by
    rw[if_neg om,<- hx,Int.toNat_natCast,Xar];omega
   show(have k':=if xi<0 then(xi+((its.toArray.size:Nat):Int)).toNat else min xi.toNat its.toArray.size;(its.toArray.extract 0 k').push u++its.toArray.extract k')=_;rw[e1];simp;exact List.take_of_length_le (by rw[Xbe];omega)
 . exact Zdp (Vals.take k r) (.cons ru (Vals.drop k r))
 . rw[Xay,Xav,Xax,Xbe,Xam];omega
section
variable {prog:Program}{w:World}{A:Around}{E:Value->Shared->Prop}{s:Shared}
end
section
variable {C:Addr}
end
section
variable {X:Cx}{k:Nat}{f C:Addr}{fd:FuncData}{ps:List Str}{sp:Sp}{spa:Addr->Sp}{x m:Str}{p pos ae:Pos}{e o:Expr}{es:List Expr}{ta:TE}{t:TA}{i:Nat}
end
section
variable {prog:Program}{w:World}{A:Around}{s:Shared}{n:Nat}{J:Nat->List Value->Heap->Prop}
end
section
variable {prog:Program}{w:World}{K:Type} [DecidableEq K] {knd:KeyKind prog w K}{A:Around}{E:Value->Shared->Prop}{s:Shared}{kvs:List (K×Value)}{ep:Nat}
end
section
variable {X:Cx}
end
section
variable {X:Cx}{k:Nat}{ps:List Str}{sp:Sp}{x:Str}{p pos:Pos}{e:Expr}{es:List Expr}{t:TA}
theorem Zw7:Zbu (CXR X.prog X.w) X (fun _ _ _=>False):=by
 intro aa σ H s e s' I hq;obtain⟨_,_,_,_,_,_,_,_,_,_,z⟩:=hq;exact z.elim
def Zwq (C:Addr)(i:Nat)(tb:TSr)(te:TS)(th:Addr->TS):TS:=fun D σ H=>tb { D with nx:=te D } (fun σ' C' d H'=>C'=C/\∀ ea oe,H' ea=none->IsR C d oe->ChO H' ea oe->th ea (Zfc i D) (σ'.set i (some (.ref ea))) (upd H' ea (.frz oe (.own 0)))) σ H
theorem Zrn {x n:Str}{C:Addr}{i:Nat}{body suite orelse:List Stmt}{b₀:Stmt}{tb:TSr}{te:TS}{th:Addr->TS}{np hpos pos:Pos}(hex:X.ex=[])(hst:X.stack=X.env :: X.outer/\X.env.frame=some X.env.locals)(hN:X.N.Nodup)(hi:X.N[i]? = some n)(hk:X.env.scope.names.lookup n=some .local)
 (xc:Ztb X.K C)(hg:Gl X x)(hm:X.mg x=some (.ref C))(hb:PSsr X body tb)(ho:PSs X orelse te)(hh:∀ e,PSs (X.hand e).nox (b₀ :: suite) (th e))(hdb:NDa x:=by decide) :
 PS X (.Try body [.ExceptHandler (some (.Name x np)) (some n) (b₀ :: suite) hpos] orelse [] pos) (Zwq C i tb te th):=by
 intro aa s σ H D I h;refine wpAny_Try_except (Xaq (hb aa s σ H { D with nx:=te D } _ I h) (fun f s1 q=>?_) fun e s1 q=>?_)
 . cases f with
   | next=>obtain⟨σ1,H1,I1,q⟩:=q;exact ho aa s1 σ1 H1 D I1 q
   | brk=>exact q
   | cont=>exact q
   | ret u=>exact q
 . obtain⟨ea,t,C',B,H0,H',σ',s0,d,rfl,I0,F,da,ch,rfl,q⟩:=q;refine Zqr hex hst xc hg hm hdb I0 F da ch fun s3 k=>codeAny_handlers_suite_as (k fun s4 oe I4 I5 n0 ix co=>?_);refine Zcy (X:=X.hand ea) (I5.hand ea) hN hi (.inl hk) (v:=.ref ea) rfl (fun s6 I6=>?_) (.inr hk);refine Xaq (hh ea aa s6 _ _ (Zfc i D) (I6.wish _) (q ea oe n0 ix co)) (fun f s7 q7=>?_) fun _ _ z=>z.elim;cases f with
   | next=>obtain⟨σ7,H7,I7,q⟩:=q7;exact Zcd (I7.unwish.unhand I0.ok) hN hi hk fun s8 I8=>⟨_,_,I8,q⟩
   | brk=>obtain⟨σ7,H7,I7,q⟩:=q7;exact Zcd (I7.unwish.unhand I0.ok) hN hi hk fun s8 I8=>⟨_,_,I8,q⟩
   | cont=>obtain⟨σ7,H7,I7,q⟩:=q7;exact Zcd (I7.unwish.unhand I0.ok) hN hi hk fun s8 I8=>⟨_,_,I8,q⟩
   | ret u=>obtain⟨v,σ7,H7,I7,r,q⟩:=q7;exact Zcd (I7.unwish.unhand I0.ok) hN hi hk fun s8 I8=>⟨v,_,_,I8,r,q⟩
end
noncomputable def Cx.tryC (X:Cx) (aa:List (Addr×Obj)) (R:Addr->Hp->Prop):Cx:={ X with pn:=X.pn++aa,xe:=XQ X aa (fun _ C H'=>R C H') }
section
variable {X:Cx}{aa pins':List (Addr×Obj)}{R:Addr->Hp->Prop}{σ:St}{H:Hp}{s:Shared}
theorem Inv.toTry (I:Inv X aa σ H s)(R:Addr->Hp->Prop):Inv (X.tryC aa R) [] σ H s:=
 ⟨⟨I.ok.mod,I.ok.kind,I.ok.glob,I.ok.blt,I.ok.above,I.ok.inj,I.ok.has,I.ok.cab,I.ok.hd,I.ok.frames,I.ok.stk,I.ok.exf,I.ok.bs,I.ok.bsz,I.ok.noex,I.ok.exfs,I.ok.funs,I.ok.frf⟩,I.os,I.bare,I.base,I.loc,I.cell,I.free,I.freeC,
  fun p hp=>I.pin p (by have hp:p∈(X.pn++aa)++[]:=hp;rwa [Xba] at hp),I.hok,I.len⟩
theorem Inv.ofTry (I:Inv (X.tryC aa R) pins' σ H s):Inv X aa σ H s:=
 ⟨⟨I.ok.mod,I.ok.kind,I.ok.glob,I.ok.blt,I.ok.above,I.ok.inj,I.ok.has,I.ok.cab,I.ok.hd,I.ok.frames,I.ok.stk,I.ok.exf,I.ok.bs,I.ok.bsz,I.ok.noex,I.ok.exfs,I.ok.funs,I.ok.frf⟩,I.os,I.bare,I.base,I.loc,I.cell,I.free,I.freeC,
  fun p hp=>I.pin p (List.mem_append_left pins' hp),I.hok,I.len⟩
theorem Zdi:Zbu (CXB X.prog X.w) (X.tryC aa R) (fun c _ H2=>∃ C,c = .ref C/\R C H2):=by
 intro pins' σ H s e s' I hq;obtain⟨ea,t,C,B,H',rfl,F,C',e2,q⟩:=hq;cases e2
 exact⟨ea,t,C,B,H,H',σ,s,rfl,I.ofTry,F,q⟩
theorem SP.ofTry {D:Zex}{f:Flow}{s':Shared}(h:SP (X.tryC aa R) [] D f s'):SP X aa D f s':=by
 cases f with
 | next=>obtain⟨σ1,H1,I1,q⟩:=h;exact⟨σ1,H1,I1.ofTry,q⟩
 | brk=>obtain⟨σ1,H1,I1,q⟩:=h;exact⟨σ1,H1,I1.ofTry,q⟩
 | cont=>obtain⟨σ1,H1,I1,q⟩:=h;exact⟨σ1,H1,I1.ofTry,q⟩
 | ret u=>obtain⟨v,σ1,H1,I1,r,q⟩:=h;exact⟨v,σ1,H1,I1.ofTry,r,q⟩
def txTry (n:Nat)(tb:(Addr->Hp->Prop)->TS):TSx:=fun D R σ H=>∃ R0:Addr->Hp->Prop,(∀ σ' C' H',σ'.length=n->R0 C' H'->R σ' C' H')/\tb R0 D σ H
theorem Zr5 {body:List Stmt}{tb:(Addr->Hp->Prop)->TS}{n:Nat}(hn:X.N.length=n)(h:∀ aa R,PSs (X.tryC aa R) body (tb R)):PSsx X body (txTry n tb):=by
 intro aa s σ H D R I ⟨R0,hR,q⟩;refine Xaq (h aa R0 [] s σ H D (I.toTry R0) q) (fun f s1 z=>z.ofTry) fun e s1 z=>?_;obtain⟨ea,t,C,B,H0,H',σ',s0,e1,I0,F,q⟩:=z;exact⟨ea,t,C,B,H0,H',σ',s0,e1,I0,F,hR _ _ _ (by rw[<- hn];exact I0.len) q⟩
end
def MtDX (P:Program)(w:World)(K:W.Frag)(mg:Str->Option Value)(base:Heap)(C:Addr)(k:Nat)(m:Str)(ps:List Str)(sp:Sp)(d:V):Prop:=∃ f fd dv,Zmq K C m f/\Binds K fd ps []/\Binds K fd ps [dv]/\RelV d dv/\FnOk P w K mg base (CXB P w) k f fd ps sp
section
variable {C:Addr}
theorem MtDX.full {k:Nat}{m:Str}{ps:List Str}{sp:Sp}{d:V}(F:MtDX P w K mg base C k m ps sp d):MtX P w K mg base C k m ps sp:=by
 obtain⟨f,fd,dv,h1,h2,h3,h4,h5⟩:=F;exact⟨f,fd,h1,h2,h5⟩
theorem MethV.okX {m qual:Str}{st:Stmt}{N ps:List Str}{k:Nat}{sp:Sp}{d:V}(F:MethV K C m qual st d)(S:Zak N ps (Zad st))
 (hb:∀ (T:Addr)(kV doc pm:Value)(an:Option Addr)(ad ct dv:Value)(us:List Value),us.length=ps.length->∃ k,bindArgs (W.fnOf m qual (Za3 st) (Zaq st) (Zad st) (.ref T) kV doc pm an ad ct) ⟨us,[]⟩=seqItems? (.ref T) >>= k/\k (some #[dv])=pure (ps.zip us))
 (hb2:∀ (T:Addr)(kV doc pm:Value)(an:Option Addr)(ad ct dv:Value)(us:List Value),us.length+1=ps.length->∃ k,bindArgs (W.fnOf m qual (Za3 st) (Zaq st) (Zad st) (.ref T) kV doc pm an ad ct) ⟨us,[]⟩=seqItems? (.ref T) >>= k/\k (some #[dv])=pure (ps.zip (us++[dv])))
 (len:∀ vs H Q E,sp vs H Q E->vs.length=ps.length)
 (ah:∀ (f:Addr)(ad:Value)(A:Around)(outer:List Env)(s:Shared)(H:Hp)(vs:List V)(Q:VK)(E:XK),Room k (A.deeper (envOfC qual (Zad st) s.heap.objs.size f ad))->sp vs H Q E->
  ∃ t,PSs (Zc1 (CXB P w) P w K mg base N qual (Zad st) f ad A outer s H E) (Zaq st) t/\t { nx:=fun _ H'=>Q .non H',rt:=Q } (Zce N vs) H):MtDX P w K mg base C (k+1) m ps sp d:=by
 obtain⟨f,fd,h1,F⟩:=F;obtain⟨oc,od,T,kV,doc,pm,an,ad,ct,osl,oT,dv,n,rfl,lk,hcd,lT,hs,r⟩:=F.ex;refine⟨f,_,dv,h1,fun s us KX hl=>?_,fun s us KX hl=>?_,r,Zhf lk hcd S len fun A outer s H vs Q E hr hsp=>ah f ad A outer s H vs Q E hr hsp⟩
 . rw[Xba] at hl ⊢;obtain⟨k,e1,e2⟩:=hb T kV doc pm an ad ct dv us hl;exact BindsTo.of_defaults rfl (KX _ _ lT) hs e1 e2
 . rw[Xay] at hl;obtain⟨k,e1,e2⟩:=hb2 T kV doc pm an ad ct dv us hl;exact BindsTo.of_defaults rfl (KX _ _ lT) hs e1 e2
def Zva (P:Program)(w:World)(K:W.Frag)(mg:Str->Option Value)(base:Heap)(C:Addr)(k:Nat)(m:Str)(ps:List Str)(sp:Sp):Prop:=∃ f fd,Zmq K C m f/\Binds K fd ps []/\FnOk P w K mg base (CXR P w) k f fd ps sp
theorem MethAt.okR {m qual:Str}{st:Stmt}{N ps:List Str}{k:Nat}{sp:Sp}(F:MethAt K C m qual st)(S:Zak N ps (Zad st))
 (hb:∀ (kV doc pm:Value)(an:Option Addr)(ad ct:Value)(us:List Value),us.length=ps.length->bindArgs (W.fnOf m qual (Za3 st) (Zaq st) (Zad st) .none kV doc pm an ad ct) ⟨us,[]⟩=pure (ps.zip us))
 (len:∀ vs H Q E,sp vs H Q E->vs.length=ps.length)
 (ah:∀ (f:Addr)(ad:Value)(A:Around)(outer:List Env)(s:Shared)(H:Hp)(vs:List V)(Q:VK)(E:XK),Room k (A.deeper (envOfC qual (Zad st) s.heap.objs.size f ad))->sp vs H Q E->
  ∃ t,PSs (Zc1 (CXR P w) P w K mg base N qual (Zad st) f ad A outer s H E) (Zaq st) t/\t { nx:=fun _ H'=>Q .non H',rt:=Q } (Zce N vs) H):Zva P w K mg base C (k+1) m ps sp:=by
 obtain⟨f,fd,h1,F⟩:=F;refine⟨f,fd,h1,F.binds hb,?_⟩;obtain⟨oc,od,kV,doc,pm,an,ad,ct,osl,rfl,lk,hcd⟩:=F.ex;exact Zhf lk hcd S len fun A outer s H vs Q E hr hsp=>ah f ad A outer s H vs Q E hr hsp
end
section
variable {X:Cx}{C:Addr}{k:Nat}{ps:List Str}{sp:Sp}{m x:Str}{o e:Expr}{es:List Expr}{ta:TE}{t:TA}{p ae pos:Pos}{E:XK}{d:V}
theorem Zl9 {pl:Sem Bool}(F:MtDX X.prog X.w X.K X.mg X.base C k m ps sp d)(he:PE X o ta)(c:Cls X.K C)(hr:Room k X.A)(hx:Zbu (CXB X.prog X.w) X E)
 (ht:MCa X o m [] pl ae pos:=by rfl) :
 PE X (.Call (.Attribute o m ae) [] [] pos) (Zge C m sp [d] E ta Zl4):=by
 obtain⟨f,fd,dv,h1,h2,h3,h4,h5⟩:=F;exact Zla he c h1 h5 hr h3 (.cons h4 .nil) hx ht
theorem Zie {pl:Sem Bool}(F:MtDX X.prog X.w X.K X.mg X.base C k m ps sp d)(he:PE X o ta)(c:Cls X.K C)(hr:Room k X.A)(hx:Zbu (CXB X.prog X.w) X E)(ha:PA X (e :: es) t)
 (hst:SEa X e es:=by rfl)(hpl:SPa X es pos:=by rfl)
 (ht:MCa X o m (e :: es) pl ae pos:=by rfl) :
 PE X (.Call (.Attribute o m ae) (e :: es) [] pos) (Zge C m sp [d] E ta t):=by
 obtain⟨f,fd,dv,h1,h2,h3,h4,h5⟩:=F;exact Zf5 he c h1 h5 hr h3 (.cons h4 .nil) hx ha hst hpl ht
theorem Zrq {pl:Sem Bool}(F:Zva X.prog X.w X.K X.mg X.base C k m ps sp)(he:PE X o ta)(c:Cls X.K C)(hr:Room k X.A)(hx:Zbu (CXR X.prog X.w) X E)(ha:PA X (e :: es) t)
 (hst:SEa X e es:=by rfl)(hpl:SPa X es pos:=by rfl)
 (ht:MCa X o m (e :: es) pl ae pos:=by rfl) :
 PE X (.Call (.Attribute o m ae) (e :: es) [] pos) (Zge C m sp [] E ta t):=by
 obtain⟨f,fd,h1,h3,h4⟩:=F;exact Zf5 he c h1 h4 hr h3 .nil hx ha hst hpl ht
def Zyp (i:Nat)(C:Addr)(m:Str)(sp:Sp)(ta:TE)(t:TA):TSr:=fun D R σ H=>ta σ H fun x H1=>∃ a dx fs,x = .ref a/\H1 a=some (.ins C dx fs)/\fs.lookup m=none/\
 t σ H1 fun vs H2=>sp (x :: vs) H2 (fun v H3=>D.nx (σ.set i (some v)) H3) (fun c d H3=>∃ C d',c = .ref C/\d=some d'/\R σ C d' H3)
theorem Zpg {pl:Sem Bool}{i:Nat}{y:Str}{p2 af:Pos}(hN:X.N.Nodup)(hi:X.N[i]? = some y)(hy:Loc X.env.scope y)(F:Zva X.prog X.w X.K X.mg X.base C k m ps sp)(he:PE X.nox o ta)(c:Cls X.K C)(hr:Room k X.A)(ha:PA X.nox (e :: es) t)
 (hs:swapsWith (.Call (.Attribute o m ae) (e :: es) [] af) (some (.Name y p2)) pos.line X.env=pure false:=by rfl)(hf:X.fn y=true\/X.env.scope.names.lookup y=some .local:=by first | exact .inl rfl | exact .inr rfl | assumption)
 (hst:SEa X e es:=by rfl)(hpl:SPa X es af:=by rfl)
 (ht:MCa X o m (e :: es) pl ae af:=by rfl) :
 PSsr X [.Assign [.Name y p2] (.Call (.Attribute o m ae) (e :: es) [] af) pos] (Zyp i C m sp ta t):=by
 obtain⟨f,fd,h1,h3,h4⟩:=F;intro aa s σ H D R I h;refine Xbw (wpAny_Assign_Name ?_ hs);refine Xby (pl:=pl) (Xaq (he aa s σ H _ (I.wish _) h) (fun u s1 hq=>?_) fun _ _ z=>False.elim z) ht;obtain⟨x,H1,I1,rx,a,dx,fs,ex,ea,l,q⟩:=hq;subst ex;obtain rfl:u=Value.ref a:=rx;refine Zc7 I1.unwish ea c h1 l ?_;refine Xbq (first:=[.ref a]) (h₀:=X.base) I1.unwish.ok.mod.kin h1.kp (Xaq (ha af aa s1 σ H1 _ I1 q) (fun us s2 hq2=>?_) fun _ _ z=>False.elim z) hst hpl;obtain⟨vs,H2,I2,r,q2⟩:=hq2;refine⟨I2.unwish.kIn,?_⟩;refine Xaq (Zto (us:=.ref a :: us) (vs:=.ref a :: vs) h4 hr h3 I2.unwish (.cons rfl r) q2) (fun u s3=>ex5 fun v H3 I3 rv q3=>?_) fun _ _ z=>z;exact Zcy I3 hN hi hy rv (fun s4 I4=>Xb6 ⟨_,H3,I4,q3⟩) hf
end
theorem Zcb {S:Sl}{H:Hp}:∀ {t:Tm}{v v':V},isT S H t v->isT S H t v'->EqB H t.dep v v' true
 | .int _,_,_,h,h'=>by cases(show _=_ from h);cases(show _=_ from h');exact .inl ⟨rfl,rfl,(Zb4 rfl).symm⟩
 | .str _,_,_,h,h'=>by cases(show _=_ from h);cases(show _=_ from h');exact .inl ⟨rfl,rfl,(Zb4 rfl).symm⟩
 | .nd m a b,v,v',h,h'=>by
  cases S with
  | num d=>
   have e:=Zi8 h h';subst e;obtain⟨k,rfl⟩:=Zjj h;exact EqB.bas (.inl ⟨Zhu k,Zhu k,(Zb4 (Zhu k)).symm⟩) _
  | plain=>
   obtain⟨p,va,vb,rfl,hp,ha,hb⟩:=h;obtain⟨p',va',vb',rfl,hp',ha',hb'⟩:=h';refine .inr (.inl ⟨p,p',_,_,fun _=>true,rfl,rfl,hp,hp',fun i u v h1 h2=>?_,by rw[Zcx];rfl⟩)
   match i,h1,h2 with
   | 0,h1,h2=>simp at h1 h2;subst h1 h2;exact EqB.bas (.inl ⟨rfl,rfl,(Zb4 rfl).symm⟩) _
   | 1,h1,h2=>simp at h1 h2;subst h1 h2;exact EqB.up (Nat.le_max_left _ _) (Zcb ha ha')
   | 2,h1,h2=>simp at h1 h2;subst h1 h2;exact EqB.up (Nat.le_max_right _ _) (Zcb hb hb')
   | i+3,h1,h2=>simp at h1
  | turned=>
   obtain⟨p,va,vb,rfl,hp,ha,hb⟩:=h;obtain⟨p',va',vb',rfl,hp',ha',hb'⟩:=h';refine .inr (.inl ⟨p,p',_,_,fun _=>true,rfl,rfl,hp,hp',fun i u v h1 h2=>?_,by rw[Zcx];rfl⟩)
   match i,h1,h2 with
   | 0,h1,h2=>simp at h1 h2;subst h1 h2;exact EqB.bas (.inl ⟨rfl,rfl,(Zb4 rfl).symm⟩) _
   | 1,h1,h2=>simp at h1 h2;subst h1 h2;exact EqB.up (Nat.le_max_right _ _) (Zcb hb hb')
   | 2,h1,h2=>simp at h1 h2;subst h1 h2;exact EqB.up (Nat.le_max_left _ _) (Zcb ha ha')
   | 3,h1,h2=>simp at h1 h2;subst h1 h2;exact EqB.bas (.inl ⟨rfl,rfl,(Zb4 rfl).symm⟩) _
   | i+4,h1,h2=>simp at h1
end L2
namespace My
open PySem L2
variable {P:Program}{w:World}{K:W.Frag}{mg:Str->Option Value}{base:Heap}{C cT cE cR cP cB:Addr}
theorem Zb2 {N P:List Str}{sc:Scope}(h1:sc.kind = .function:=by rfl)(h2:sc.isCoroutine=false:=by rfl)(h3:sc.isGenerator=false:=by rfl)(h4:N.Nodup:=by decide +kernel)(h5:N.take P.length=P:=by rfl)(h6:∀ x∈P,sc.names.lookup x=some .local\/sc.names.lookup x=some .cell:=by decide +kernel)(h7:∀ y∈sc.names,y.2≠.free:=by decide +kernel):Zak N P sc:=⟨h1,h2,h3,h4,h5,h6,h7⟩
noncomputable def top (i:Nat):Stmt:=PySem.Challenge.pw_growbook_k11_keeper.main.body.getD i (.Pass ⟨0,0,0,0⟩)
noncomputable abbrev Zli:Stmt:=top 51
noncomputable abbrev Zka:Stmt:=top 52
noncomputable abbrev sDue:Stmt:=top 53
noncomputable abbrev Zim:Stmt:=top 56
noncomputable abbrev Zk1:Stmt:=top 6
noncomputable abbrev Zro:Stmt:=top 7
noncomputable abbrev Zrg:Stmt:=top 9
noncomputable abbrev sTop:Stmt:=top 11
noncomputable abbrev Zrt:Stmt:=top 13
noncomputable abbrev Zrl:Stmt:=top 12
noncomputable abbrev Zrb:Stmt:=top 34
noncomputable abbrev Zi3:Stmt:=top 35
noncomputable abbrev Zf8:Stmt:=top 36
noncomputable abbrev Zbq:Stmt:=top 37
noncomputable abbrev Zhs:Stmt:=top 38
noncomputable abbrev Zhc:Stmt:=top 41
noncomputable abbrev Zqy:Stmt:=top 42
noncomputable abbrev Zkh:Stmt:=top 44
noncomputable abbrev Zg1:Stmt:=top 50
noncomputable abbrev Zti:Stmt:=top 57
noncomputable abbrev Zh7:Stmt:=top 54
noncomputable abbrev Zke:Stmt:=top 43
noncomputable abbrev Zlf:Stmt:=top 8
noncomputable abbrev Zrf:Stmt:=top 10
noncomputable abbrev sInD:Stmt:=top 15
noncomputable abbrev sRow:Stmt:=top 16
noncomputable abbrev Zqo:Stmt:=top 17
noncomputable abbrev Zsg:Stmt:=top 18
noncomputable abbrev Zhl:Stmt:=top 19
noncomputable abbrev Zfb:Stmt:=top 20
noncomputable abbrev Zjv:Stmt:=top 39
noncomputable abbrev Zkw:Stmt:=top 25
noncomputable abbrev Ze6:Stmt:=top 26
noncomputable abbrev Ziz:Stmt:=top 48
noncomputable abbrev Zkl:Stmt:=top 45
noncomputable abbrev Zmj:Stmt:=top 47
noncomputable abbrev Zh0:Stmt:=top 40
noncomputable abbrev Zko:Stmt:=top 28
noncomputable abbrev Zqs:Stmt:=top 46
noncomputable abbrev Zhv:Stmt:=top 49
noncomputable abbrev Zhx:Stmt:=top 55
noncomputable abbrev Zhj:Stmt:=top 27
noncomputable abbrev Zfh:Stmt:=top 29
noncomputable abbrev Zg0:Stmt:=top 31
noncomputable abbrev Zde:Stmt:=Zbh (top 3) 0
noncomputable abbrev Zmy:Stmt:=Zbh (top 32) 0
noncomputable abbrev Zwb:Stmt:=Zbh (top 32) 1
noncomputable abbrev Zmz:Stmt:=Zbh (top 32) 2
noncomputable abbrev Zv9:Stmt:=Zbh (top 32) 3
noncomputable abbrev kTb:Stmt:=Zbh (top 32) 4
noncomputable abbrev Zlq:Stmt:=Zbh (top 32) 5
noncomputable abbrev kTh:Stmt:=Zbh (top 32) 6
noncomputable abbrev Zmk:Stmt:=Zbh (top 32) 7
noncomputable abbrev Zmw:Stmt:=Zbh (top 32) 8
noncomputable abbrev Zeu:Stmt:=Zbh (top 32) 9
noncomputable abbrev Zwc:Stmt:=Zbh (top 32) 10
noncomputable abbrev Zgt:Stmt:=Zbh (top 32) 11
noncomputable abbrev Zmd:Stmt:=Zbh (top 21) 0
noncomputable abbrev Zfk:Stmt:=Zbh (top 21) 1
noncomputable abbrev Zv7:Stmt:=Zbh (top 21) 2
noncomputable abbrev Zwa:Stmt:=Zbh (top 21) 3
noncomputable abbrev Zlv:Stmt:=Zbh (top 21) 5
noncomputable abbrev Zu5:Stmt:=Zbh (top 21) 6
noncomputable abbrev Zm0:Stmt:=Zbh (top 21) 7
noncomputable abbrev Zmt:Stmt:=Zbh (top 21) 8
noncomputable abbrev qN:Str:="_law_numbering.<locals>._law_numbered"
noncomputable abbrev Zbe:Stmt:=(Zaq Zbq).getD 1 (.Pass ⟨0,0,0,0⟩)
theorem scPl:Zak mot mot (Zad Zi3):=Zb2
theorem scTu:Zak mot mot (Zad Zf8):=Zb2
theorem Zql (F:FunAt K mg "_law_plain" Zi3):FnP P w K mg base 1 "_law_plain" mot Znv:=by
 refine F.ok scPl (fun _ _ _ _ _ _=>l3e fun _ _ _=>rfl) (fun vs H Q E h=>?_) (fun f ad A outer s H vs Q E hr h=>?_)
 . obtain⟨m,v1,v2,rfl,_⟩:=h;rfl
 obtain⟨m,v1,v2,rfl,q⟩:=h;refine⟨_,psr (Zbw (pa3 (pv 0) (pv 1) (pv 2))),?_⟩;exact⟨_,rfl,_,rfl,_,rfl,(sl3),fun p hp=>q p hp⟩
theorem Zpo (F:FunAt K mg "_law_turned" Zf8):FnP P w K mg base 1 "_law_turned" mot Zk8:=by
 refine F.ok scTu (fun _ _ _ _ _ _=>l3e fun _ _ _=>rfl) (fun vs H Q E h=>?_) (fun f ad A outer s H vs Q E hr h=>?_)
 . obtain⟨m,v1,v2,rfl,_⟩:=h;rfl
 obtain⟨m,v1,v2,rfl,q⟩:=h;refine⟨_,psr (Zbw (pa4 Zav (pv 2) (pv 1) (pv 0))),?_⟩;exact⟨_,rfl,_,rfl,_,rfl,(sl4),fun p hp=>q p hp⟩
theorem clN:Zpz mot "_law_told" (Zad Zbe):=⟨rfl,rfl,rfl,by decide +kernel,by decide +kernel,by decide +kernel,fun x h=>by
 have e:(Zad Zbe).names=([("_law_mark",NameKind.local),("_law_one",NameKind.local),("_law_two",NameKind.local),("_law_told",NameKind.free),("len",NameKind.globalImplicit)]:List (Str×NameKind)):=rfl;rw[e] at h;have m:=Xbg h;simp at m;exact m,rfl⟩
theorem Zt8 {A:Around}{outer:List Env}{s:Shared}{H:Hp}{us:List Value}{Q:VK}{E:XK}{f d:Addr}{m:Str}{t1 t2:Tm}{v1 v2:V}(ml:mg "len" = none)(hr:Room 1 A)(e0:Env0 P w K mg base A outer s H)(r:Vals [.str m,v1,v2] us)
 (hS:SealAt K mg Zbe (.num d) H f)(hc:Cap (.num d) H 1)(i1:isT (.num d) H t1 v1)(i2:isT (.num d) H t2 v2)(q:∀ v H',Gr (.num d) 1 H H'->isT (.num d) H' (.nd m t1 t2) v->Q v H') :
 codeAny (model P w) A (.call (.ref f) ⟨us,[]⟩) (CR CX0 outer P w H s Q E) s:=by
 obtain⟨c,c',doc,pm,ct,ob,co,cvs,tk,kvs,h1,h2,h3,h4,h5,h6,h7,h8⟩:=id hS;obtain⟨k1,rfl⟩:=Zjj i1;obtain⟨k2,rfl⟩:=Zjj i2;have ai:kvs.length<sizeLine:=by have:=hc d kvs rfl h7;rw[Xam];omega
 have tld:=hS.told;refine Zrw (k:=0) (ps:=mot) (y:="_law_told") clN hr e0 r rfl h1 h2 h3 h4 h5 h6 (cv:=.ref d) rfl (l3e fun _ _ _=>rfl) fun hr1=>?_;have hu:=Zjz hr1;refine⟨_,Zab (Zat (Znx (Zir hu (Zbw (pa3 (pv 0) (pv 1) (pv 2))) (pv 3))) (Zar (Zi5 hu (pv 3) (Zbw (pa3 (pv 0) (pv 1) (pv 2))) (Zai Znw rfl ml boot_len (pa1 (pv 3))) rfl)) Zal)
  (psr (Zjw hu (pv 3) (Zbw (pa3 (pv 0) (pv 1) (pv 2))) (fun _ _=>rfl))),?_⟩
 refine⟨_,rfl,_,rfl,_,rfl,(sl3),fun p hp=>?_⟩;have g1:Gr (.num d) 0 H (upd H p (.tup [.str m,kV k1,kV k2])):=.new tld hp;have d1:upd H p (.tup [.str m,kV k1,kV k2]) d=some (.dT kvs):=by rw[Zaf (Zac h7 hp)];exact h7
 refine⟨_,rfl,d,_,rfl,DGet.t (k:=[.inr m,k1,k2]) d1 Zaa,_,rfl,?_⟩;cases e:Zcf kvs [.inr m,k1,k2] with
 | some v=>
  obtain⟨n,rfl⟩:=h8.val e;refine Zby ?_;refine⟨_,rfl,_,rfl,_,rfl,_,rfl,(sl3),fun p2 hp2=>?_⟩;have g2:Gr (.num d) 0 _ (upd (upd H p (.tup [.str m,kV k1,kV k2])) p2 (.tup [.str m,kV k1,kV k2])):=.new g1.gn.told2 hp2;have d2:upd (upd H p (.tup [.str m,kV k1,kV k2])) p2 (.tup [.str m,kV k1,kV k2]) d=some (.dT kvs):=by rw[Zaf (Zac d1 hp2)];exact d1
  refine⟨d,.int n,rfl,?_,?_⟩
  . have z:=DGet.t (k:=[.inr m,k1,k2]) d2 Zaa;rw[e] at z;exact z
  . have g:=(g1.trans g2).up (by omega:0+0<=1);exact q _ _ g ⟨kvs,k1,k2,n,d2,Zaz g.gn i1,Zaz g.gn i2,e,rfl⟩
 | none=>
  refine Zbz ?_;refine⟨_,rfl,d,kvs,rfl,d1,_,rfl,_,rfl,_,rfl,_,rfl,(sl3),fun p2 hp2=>?_⟩;have g2:Gr (.num d) 0 _ (upd (upd H p (.tup [.str m,kV k1,kV k2])) p2 (.tup [.str m,kV k1,kV k2])):=.new g1.gn.told2 hp2;have d2:upd (upd H p (.tup [.str m,kV k1,kV k2])) p2 (.tup [.str m,kV k1,kV k2]) d=some (.dT kvs):=by rw[Zaf (Zac d1 hp2)];exact d1
  refine⟨d,_,rfl,DPut.t (k:=[.inr m,k1,k2]) d2 Zaa ai,?_⟩;generalize hH3:upd (upd (upd H p (.tup [.str m,kV k1,kV k2])) p2 (.tup [.str m,kV k1,kV k2])) d (.dT (Ze4 kvs [.inr m,k1,k2] (.int kvs.length)))=H3;have d3:H3 d=some (.dT (kvs++[([.inr m,k1,k2],.int kvs.length)])):=by rw[<- hH3,Zaa,Zfg _ e]
  have g3:Gr (.num d) 1 (upd (upd H p (.tup [.str m,kV k1,kV k2])) p2 (.tup [.str m,kV k1,kV k2])) H3:=by
   have ne:∀ b o,upd (upd H p (.tup [.str m,kV k1,kV k2])) p2 (.tup [.str m,kV k1,kV k2]) b=some o->b≠d->H3 b=some o:=fun b o h hb=>by rw[<- hH3,Zaf hb];exact h
   refine⟨⟨fun b o h i=>ne b o h ?_,fun d' ed=>?_⟩,fun b o h hd=>ne b o h fun z=>hd (by rw[z];rfl)⟩
   . rintro rfl;rw[d2] at h;cases h;cases i
   . obtain rfl:d=d':=Option.some.inj ed;exact⟨kvs,_,d2,d3,by simp,fun z=>z.snoc _⟩
  refine⟨_,rfl,_,rfl,_,rfl,_,rfl,(sl3),fun p4 hp4=>?_⟩;have g4:Gr (.num d) 0 H3 (upd H3 p4 (.tup [.str m,kV k1,kV k2])):=.new g3.gn.told2 hp4;have d4:upd H3 p4 (.tup [.str m,kV k1,kV k2]) d=some (.dT (kvs++[([.inr m,k1,k2],.int kvs.length)])):=by rw[Zaf (Zac d3 hp4)];exact d3
  have ev:Zcf (kvs++[([.inr m,k1,k2],V.int (kvs.length:Int))]) [.inr m,k1,k2]=some (.int (kvs.length:Int)):=by rw[Zh9 _ _ _ _ e,if_pos rfl]
  refine⟨d,.int kvs.length,rfl,?_,?_⟩
  . have z:=DGet.t (k:=[.inr m,k1,k2]) d4 Zaa;rw[ev] at z;exact z
  . have g:=(((g1.trans g2).trans g3).trans g4).up (by omega:0+0+1+0<=1);exact q _ _ g ⟨_,k1,k2,_,d4,Zaz g.gn i1,Zaz g.gn i2,ev,rfl⟩
theorem Zvl (Fp:FnP P w K mg base 1 "_law_plain" mot Znv)(Ft:FnP P w K mg base 1 "_law_turned" mot Zk8)(ml:mg "len" = none):Zch P w K mg base CX0 1 (Zc9 K mg Zbe):=by
 intro f A outer s H us vs Q E hr e0 r h;obtain⟨S,m,t1,t2,v1,v2,hS,hc,rfl,i1,i2,q⟩:=h;have tld:=hS.told;cases S with
 | plain=>
  obtain⟨f',fd,h1,h2,h3,h4,_⟩:=Fp;have e:=hS.1.symm.trans h1;cases e
  refine h4.called h3 hr e0 r ⟨m,v1,v2,rfl,fun p hp=>?_⟩;have g:Gr .plain 0 H (upd H p (.tup [.str m,v1,v2])):=.new tld hp;exact q _ _ (g.up om) ⟨p,v1,v2,rfl,Zaa,Zaz g.gn i1,Zaz g.gn i2⟩
 | turned=>
  obtain⟨f',fd,h1,h2,h3,h4,_⟩:=Ft;have e:=hS.1.symm.trans h1;cases e
  refine h4.called h3 hr e0 r ⟨m,v1,v2,rfl,fun p hp=>?_⟩;have g:Gr .turned 0 H (upd H p (.tup [.str "seal of",v2,v1,.str m])):=.new tld hp;exact q _ _ (g.up om) ⟨p,v1,v2,rfl,Zaa,Zaz g.gn i1,Zaz g.gn i2⟩
 | num d=>exact Zt8 ml hr e0 r hS hc i1 i2 q
def Zps (K:W.Frag):Sp:=fun vs H Q _=>∃ (a:Addr)(ns:List Int)(k:Int),vs=[.ref a,.int k]/\SqL K H a (ns.map V.int)/\0<=k/\∀ v:Int,Q (.int v) H
theorem scCe:Zak ["_law_script","_law_k"] ["_law_script","_law_k"] (Zad Zrb):=Zb2
theorem Ztu (F:FunAt K mg "_law_cell_at" Zrb)(ml:mg "len" = none):FnP P w K mg base 1 "_law_cell_at" ["_law_script","_law_k"] (Zps K):=by
 refine F.ok scCe (fun _ _ _ _ _ _=>l2e fun _ _=>rfl) (fun vs H Q E h=>?_) (fun f ad A outer s H vs Q E hr h=>?_)
 . obtain⟨a,ns,k,rfl,_⟩:=h;rfl
 obtain⟨a,ns,k,rfl,hS,h0,q⟩:=h;refine⟨_,Zab (Zat (Zaj Zdg (pv 1) (Zai Zah rfl ml boot_len (pa1 (pv 0))) (Zam _)) (psr (Zaw Zax (pv 0) (pv 1) (fun _ _=>rfl))) Zal) (psr Zae),?_⟩;refine⟨_,rfl,_,rfl,a,_,rfl,.inl hS,_,_,rfl,rfl,_,rfl,?_⟩;refine Zcl (fun c=>?_) (fun c=>?_)
 . have c':k<((ns.map V.int).length:Int):=Xaf c;rw[Xad] at c';have hk:k.toNat<ns.length:=by omega
   have z:atI (ns.map V.int) ((k.toNat:Nat):Int)=some (.int ns[k.toNat]):=Zan (by rw[Xas,Xab hk] <;> rfl);rw[show((k.toNat:Nat):Int)=k by omega] at z;exact⟨_,rfl,_,rfl,a,_,_,_,rfl,rfl,hS,z,q _⟩
 . exact q 0
structure Ext0 (K:W.Frag)(mg:Str->Option Value)(base:Heap)(c0 Pt:Addr):Prop where
 code:W.CodeHd base c0 Pt
 bm:∃ bm ob,mg "__builtins__" = some (.ref bm)/\bm≠builtinsNs/\base.get? bm=some ob/\ob.cls = .type "module"/\ob.dict=some builtinsNs/\ob.data = .plain
 tab:W.tabIn K "_law_numbering" = some (c0,Pt)
def Zfz (K:W.Frag)(mg:Str->Option Value)(Pt:Addr):Sp:=fun vs H Q _=>vs=[]/\H Pt=some (.tbl #[])/\
 ∀ f d H',SealAt K mg Zbe (.num d) H' f->H' d=some (.dT [])->(∀ b o,H b=some o->b≠Pt->H' b=some o)->Q (.ref f) H'
theorem scNu:Zak ["_law_numbered","_law_told"] [] (Zad Zbq):=Zb2
theorem Zh8 {c0 Pt:Addr}(F:FunAt K mg "_law_numbering" Zbq)(kb:K.In base)(nb:base.Ns mainGlobals mg)(X0:Ext0 K mg base c0 Pt):FnP P w K mg base 1 "_law_numbering" [] (Zfz K mg Pt):=by
 obtain⟨f0,fd,hm,F⟩:=F;obtain⟨oc,od,kV,doc,pm,an,ad,ct,osl,rfl,lk,hcd⟩:=F.ex;have hcode:ad = .ref c0:=W.law_code kb nb X0.tab hm (kb _ _ lk) rfl;refine⟨f0,_,hm,F.kp,F.binds (ps:=[]) fun _ _ _ _ _ _=>l0e rfl,?_,_,_,_,lk⟩;refine Zwh lk hcd scNu (fun vs H Q E h=>by rw[h.1];rfl) fun A outer s s1 H vs Q E hr h I=>?_;obtain⟨rfl,hP,q⟩:=h;generalize hX:Zc1 CX0 P w K mg base ["_law_numbered","_law_told"] "_law_numbering" (Zad Zbq) f0 ad A outer s H E=X at I;subst hX;refine Xbw (thn ((Zao (X:=Zc1 CX0 P w K mg base ["_law_numbered","_law_told"] "_law_numbering" (Zad Zbq) f0 ad A outer s H E) (i:=1) scNu.nd rfl (Or.inr rfl) Zq8:PS _ _ _) [] s1 _ H
  { nx:=fun σ H'=>∃ d,H d=none/\σ=[none,some (.ref d)]/\H'=upd H d (.dT []),rt:=fun _ _=>False } I fun d hd=>⟨d,hd,rfl,rfl⟩) fun fl s2 h2=>?_)
 cases fl with
 | brk=>obtain⟨_,_,_,z⟩:=h2;exact False.elim z
 | cont=>obtain⟨_,_,_,z⟩:=h2;exact False.elim z
 | ret u=>obtain⟨_,_,_,_,_,z⟩:=h2;exact False.elim z
 | next=>
 obtain⟨σ2,H2,I2,d,hd,rfl,rfl⟩:=h2;have hPd:Pt≠d:=Zac hP hd;refine Xbw (thn (Zxa (X:=Zc1 CX0 P w K mg base ["_law_numbered","_law_told"] "_law_numbering" (Zad Zbq) f0 ad A outer s H E) (i:=0) (Pt:=Pt) (c0:=c0) (qual:=qN) (clos:=[("_law_told",s.heap.objs.size+1)])
  rfl rfl rfl rfl rfl hcode X0.code X0.bm scNu.nd rfl (Or.inl rfl) (Or.inl rfl) [] s2 _ _
  { nx:=fun σ H'=>∃ (f c':Addr) (ob:Obj) (cvs:Array Value) (tk:Tok) (ctv doc pm:Value) (ps:Array Value),upd H d (.dT []) f=none/\upd H d (.dT []) c'=none/\c'≠f/\Pt≠f/\Pt≠c'/\ob.data = .fields cvs/\cvs[1]? = some (.str qN tk)/\σ=[some (.ref f),some (.ref d)]/\
   H'=upd (upd (upd (upd H d (.dT [])) Pt (.tbl ps)) c' (.frz ob (.own 0))) f (.frz (W.fnMade "_law_numbered" qN (Za3 Zbe) (Zaq Zbe) (Zad Zbe) [("_law_told",s.heap.objs.size+1)] doc pm c' ctv) (.own 0)),rt:=fun _ _=>False } I2
  ⟨#[],by rw[Zaf hPd];exact hP,trivial,rfl,fun f c' ob cvs tk ctv doc pm h1 h2 h3 h4 h5 h6 h7=>⟨f,c',ob,cvs,tk,ctv,doc,pm,_,h1,h2,h3,h4,h5,h6,h7,rfl,rfl⟩⟩) fun fl s3 h3=>?_)
 cases fl with
 | brk=>obtain⟨_,_,_,z⟩:=h3;exact False.elim z
 | cont=>obtain⟨_,_,_,z⟩:=h3;exact False.elim z
 | ret u=>obtain⟨_,_,_,_,_,z⟩:=h3;exact False.elim z
 | next=>
 obtain⟨σ3,H3,I3,f,c',ob,cvs,tk,ctv,doc',pm',ps,n1,n2,n3,n4,n5,n6,n7,rfl,e3⟩:=h3;refine Xbw (wpAny_Return_some (thn ((pv (X:=Zc1 CX0 P w K mg base ["_law_numbered","_law_told"] "_law_numbering" (Zad Zbq) f0 ad A outer s H E) 0:PE _ _ _) [] s3 _ H3 (fun v H'=>v = .ref f/\H'=H3) I3 ⟨_,rfl,rfl,rfl⟩) fun u s4 hz=>?_));obtain⟨v,H4,I4,r4,e4,e5⟩:=hz;subst e4 e5;obtain rfl:u=Value.ref f:=r4;obtain⟨mm,hn,hl⟩:=I4.loc;obtain⟨cu,rcu,lcu⟩:=hl 1 "_law_told" (.ref d) rfl rfl (Or.inr (Or.inl rfl));obtain rfl:cu=Value.ref d:=rcu;rcases lcu with⟨kk,_⟩ | ⟨_,c,hc,co,hco,hcd2⟩
 . exact absurd (show some NameKind.cell=some NameKind.local from kk) (by decide)
 have ec:s.heap.objs.size+1=c:=Option.some.inj ((show(Zc1 CX0 P w K mg base ["_law_numbered","_law_told"] "_law_numbering" (Zad Zbq) f0 ad A outer s H E).env.cells.lookup ("_law_told" : Str)=some (s.heap.objs.size+1) from rfl).symm.trans hc);have hcn:H4 c=none:=(I4.freeC "_law_told" c hc).resolve_right fun z=>absurd (show true=false from z.1) (by decide);have lec:s.heap.objs.size<=c:=by omega
 refine⟨.ref f,upd H4 c (.frz co (.own 0)),I4.os,I4.bare,I4.base.track lec hcn,I4.hok.track hco hcn,rfl,q f d _ ?_ ?_ ?_⟩
 . have ne:∀ b o,H4 b=some o->upd H4 c (.frz co (.own 0)) b=some o:=fun b o h=>by rw[Zaf (Zac h hcn)];exact h
   refine⟨c,c',doc',pm',ctv,ob,co,cvs,tk,[],?_,?_,n6,n7,Zaa,hcd2,?_,.nil⟩
   . rw[<- ec];refine ec ▸ ne _ _ ?_;rw[e3,Zaa,ec]
   . refine ne _ _ ?_;rw[e3,Zaf n3,Zaa]
   . refine ne _ _ ?_;have q1:d≠f:=by rintro rfl;rw[Zaa] at n1;cases n1
     have q2:d≠c':=by rintro rfl;rw[Zaa] at n2;cases n2
     rw[e3,Zaf q1,Zaf q2,Zaf (Ne.symm hPd),Zaa]
 . have hdc:d≠c:=by
    rintro rfl;have q1:d≠f:=by rintro rfl;rw[Zaa] at n1;cases n1
    have q2:d≠c':=by rintro rfl;rw[Zaa] at n2;cases n2
    rw[e3,Zaf q1,Zaf q2,Zaf (Ne.symm hPd),Zaa] at hcn;cases hcn
   have q1:d≠f:=by rintro rfl;rw[Zaa] at n1;cases n1
   have q2:d≠c':=by rintro rfl;rw[Zaa] at n2;cases n2
   rw[Zaf hdc,e3,Zaf q1,Zaf q2,Zaf (Ne.symm hPd),Zaa]
 . intro b o hb hbP;have b1:b≠d:=Zac hb hd;have hb2:upd H d (.dT []) b=some o:=by rw[Zaf b1];exact hb
   have b2:b≠f:=Zac hb2 n1;have b3:b≠c':=Zac hb2 n2;have hb4:H4 b=some o:=by rw[e3,Zaf b2,Zaf b3,Zaf hbP];exact hb2
   rw[Zaf (Zac hb4 hcn)];exact hb4
def Zkm (K:W.Frag)(mg:Str->Option Value)(Pt:Addr):Sp:=fun vs H Q _=>∃ (a:Addr)(ns:List Int),vs=[.ref a]/\SqL K H a (ns.map V.int)/\H Pt=some (.tbl #[])/\
 ∀ S f H',SealAt K mg Zbe S H' f->Cap S H' 10000000->(∀ b o,H b=some o->b≠Pt->H' b=some o)->Q (.ref f) H'
theorem scSb:Zak ["_law_script","_law_kind"] ["_law_script"] (Zad Zhs):=Zb2
theorem Zm1 {Pt:Addr}(F:FunAt K mg "_law_seal_by" Zhs)(Fc:FnP P w K mg base 1 "_law_cell_at" ["_law_script","_law_k"] (Zps K))(Fn:FnP P w K mg base 1 "_law_numbering" [] (Zfz K mg Pt))
 (Fp:FunAt K mg "_law_plain" Zi3)(Ft:FunAt K mg "_law_turned" Zf8):FnP P w K mg base 2 "_law_seal_by" ["_law_script"] (Zkm K mg Pt):=by
 obtain⟨fp,fpd,mp,Fp⟩:=Fp;obtain⟨ft,ftd,mt,Ft⟩:=Ft;obtain⟨_,_,_,_,_,_,_,_,_,rfl,lp,_⟩:=Fp.ex;obtain⟨_,_,_,_,_,_,_,_,_,rfl,lt,_⟩:=Ft.ex;refine F.ok scSb (fun _ _ _ _ _ _=>l1e fun _=>rfl) (fun vs H Q E h=>?_) (fun f ad A outer s H vs Q E hr h=>?_)
 . obtain⟨a,ns,rfl,_⟩:=h;rfl
 obtain⟨a,ns,rfl,hS,hP,q⟩:=h;have nd:=scSb.nd;refine⟨_,Zab (Zao (i:=1) nd rfl (Or.inl rfl) (Zas Zc4 (Zas Zd5 (Zag Fc hr rfl (pa2 (pv 0) Zae)) Zae) Zae))
  (Zab (Zat (Zaj Za2 (pv 1) Zae (Zam _)) (psr (Zep (v:=.ref fp) rfl mp rfl)) Zal)
  (Zab (Zat (Zaj Za2 (pv 1) Zae (Zam _)) (psr (Zep (v:=.ref ft) rfl mt rfl)) Zal)
  (psr (Zpi Fn hr rfl)))),?_⟩
 refine⟨_,rfl,a,ns,0,rfl,hS,om,fun v=>?_⟩;refine⟨_,_,rfl,rfl,⟨by decide,om⟩,_,_,rfl,rfl,(by show(0:Int)<3;decide),?_⟩;refine⟨_,rfl,rfl,_,rfl,?_⟩;refine Zcl (fun _=>?_) (fun _=>?_)
 . exact q .plain fp H ⟨mp,_,_,_,_,lp⟩ (fun d _ e=>nomatch e) fun b o h _=>h
 refine⟨_,rfl,rfl,_,rfl,?_⟩;refine Zcl (fun _=>?_) (fun _=>?_)
 . exact q .turned ft H ⟨mt,_,_,_,_,lt⟩ (fun d _ e=>nomatch e) fun b o h _=>h
 refine⟨rfl,hP,fun f d H' h1 h2 h3=>q (.num d) f H' h1 (fun d' kvs e hk=>?_) h3⟩;obtain rfl:d=d':=Option.some.inj e;rw[h2] at hk;cases hk;simp
theorem Zoe {n:Int}(h:2<=n):(1:Int) * 2 ^ (((Builtin.Int.intBits (n - 1):Nat):Int) - 1).toNat=((Gb.spl n.toNat:Nat):Int):=by
 have e0:(n - 1 == 0)=false:=by simp;omega
 unfold Builtin.Int.intBits Gb.spl;rw[e0];simp only[Bool.false_eq_true,if_false];have e1:(n - 1).natAbs=n.toNat - 1:=by omega
 have e2:((((n - 1).natAbs.log2+1:Nat):Int) - 1).toNat=(n.toNat - 1).log2:=by rw[e1];omega
 rw[e2,Int.one_mul]
 push_cast
 rfl
theorem Zgl {n:Int}(h:2<=n)(h2:n<2 ^ 60):0<=((Builtin.Int.intBits (n - 1):Nat):Int) - 1/\((Builtin.Int.intBits (n - 1):Nat):Int) - 1<=1000000:=by
 have e0:(n - 1 == 0)=false:=by simp;omega
 unfold Builtin.Int.intBits;rw[e0];simp only[Bool.false_eq_true,if_false];have e3:(n - 1).natAbs.log2<60:=(Nat.log2_lt om).mpr om;omega
def Zdm:Sp:=fun vs H Q _=>∃ n:Int,vs=[.int n]/\2<=n/\n<2 ^ 60/\Q (.int (Gb.spl n.toNat:Nat)) H
theorem scSp:Zak ["size"] ["size"] (Zad Zk1):=Zb2
theorem Zqb (F:FunAt K mg "split" Zk1):FnP P w K mg base 1 "split" ["size"] Zdm:=by
 refine F.ok scSp (fun _ _ _ _ _ _=>l1e fun _=>rfl) (fun vs H Q E h=>?_) (fun f ad A outer s H vs Q E hr h=>?_)
 . obtain⟨n,rfl,_⟩:=h;rfl
 obtain⟨n,rfl,h2,h3,q⟩:=h;refine⟨_,Zab (Zat (Zaj Zdg (pv 0) Zae (Zam _)) (psr Zae) Zal)
  (psr (Zas Zgg Zae (Zas Zb7 (Zoy PySem.F.plainAttrs_int PySem.F.slot_int_bit_length PySem.F.type_int_bit_length Zih (Zas Zb7 (pv 0) Zae)) Zae))),?_⟩
 refine⟨_,rfl,_,_,rfl,rfl,_,rfl,?_⟩;rw[Xag om];refine Zby ?_;refine⟨_,rfl,_,_,rfl,rfl,rfl,_,rfl,rfl,_,_,rfl,rfl,_,_,rfl,rfl,⟨(Zgl h2 h3).1,(Zgl h2 h3).2,om⟩,?_⟩;show Q (V.int (1 * 2 ^ (((Builtin.Int.intBits (n - 1):Nat):Int) - 1).toNat)) H;rw[Zoe h2];exact q
theorem scLs:Zak ["_law_size","_law_k"] ["_law_size"] (Zad Zhc):=Zb2
theorem Zo1 (F:FunAt K mg "_law_split" Zhc):FnP P w K mg base 1 "_law_split" ["_law_size"] Zdm:=by
 refine F.ok scLs (fun _ _ _ _ _ _=>l1e fun _=>rfl) (fun vs H Q E h=>?_) (fun f ad A outer s H vs Q E hr h=>?_)
 . obtain⟨n,rfl,_⟩:=h;rfl
 obtain⟨n,rfl,h2,h3,q⟩:=h;have nd:=scLs.nd;refine⟨_,Zab (Zao (i:=1) nd rfl (Or.inl rfl) Zae) (Zab (Zg3 PassesOwn.never (Zaj Zdg (Zas Zfi (pv 1) Zae) (pv 0) (Zam _)) (Zar (Zao (i:=1) nd rfl (Or.inl rfl) (Zas Zfi (pv 1) Zae)))) (psr (pv 1))),?_⟩;refine Zhy (fun σ H'=>H'=H/\∃ j:Nat,σ=[some (.int n),some (.int (2 ^ j:Nat))]/\((2 ^ j:Nat):Int)<n) (fun σ _=>match σ with | [_,some (.int k)]=>(n - k).toNat | _=>0) ⟨rfl,0,rfl,by simp;omega⟩ ?_ ?_
 . rintro σ H' ⟨rfl,j,rfl,hj⟩;have hp:1<=2 ^ j:=Nat.one_le_two_pow;refine⟨_,rfl,_,_,rfl,rfl,.inr ⟨by decide,om⟩,_,rfl,_,_,rfl,rfl,_,rfl,?_⟩;refine Zcl (fun c=>?_) (fun c=>?_)
   . have c':((2 ^ j:Nat):Int) * 2<n:=Xaf c;have e:((2 ^ j:Nat):Int) * 2=((2 ^ (j+1):Nat):Int):=by rw[Nat.pow_succ];push_cast;rfl
     refine⟨_,rfl,_,_,rfl,rfl,.inr ⟨by decide,om⟩,⟨rfl,j+1,?_,by rw[<- e];exact c'⟩,?_⟩
     . rw[<- e];rfl
     . show(n - ((2 ^ j:Nat):Int) * 2).toNat<(n - ((2 ^ j:Nat):Int)).toNat;omega
   . have c':¬ ((2 ^ j:Nat):Int) * 2<n:=Xaj (Bool.eq_false_iff.mpr c);refine⟨_,rfl,?_⟩;have e:2 ^ j=Gb.spl n.toNat:=Gb.spl_unique om om;rw[e];exact q
 . rintro σ H' Q1 Q2 hq ⟨v,e1,i,j,e2,e3,c,v2,e4,i2,j2,e5,e6,k,e7,z⟩;exact⟨v,e1,i,j,e2,e3,c,v2,e4,i2,j2,e5,e6,k,e7,hq _ _ z⟩
noncomputable def cst (ts:List Tm):Nat:=ts.length - 1+(1 - ts.length)
theorem Zdz (ts:List Tm):cst ts<=ts.length+1:=by unfold cst;omega
theorem Zcs {ts:List Tm}{n:Nat}(h:ts.length=n)(hn:1<=n):cst ts=n - 1:=by unfold cst;omega
def Zit (K:W.Frag)(mg:Str->Option Value)(j:Nat):Sp:=fun vs H Q _=>∃ S f a ws ts,vs=[.ref f,.ref a]/\SealAt K mg Zbe S H f/\SqL K H a ws/\Zdc S H ts ws/\ts.length<=2 ^ j/\Cap S H (cst ts)/\
 ∀ v H',Gr S (cst ts) H H'->isT S H' (tpT ts) v->Q v H'
theorem scLt:Zak ["_law_seal","_law_leaves_here","_law_k"] ["_law_seal","_law_leaves_here"] (Zad Zqy):=Zb2
theorem Zbs {xs:List V}{k:Nat}:Zc6 xs none (some (k:Int))=xs.take k:=by
 unfold Zc6;rw[HT.sIx_none,HT.sIx_nat,List.drop_zero,Nat.sub_zero];by_cases h:k<=xs.length
 . rw[Nat.min_eq_left h]
 . rw[Nat.min_eq_right om,List.take_of_length_le (Xae _),List.take_of_length_le om]
theorem Zb8 {xs:List V}{k:Nat}:Zc6 xs (some (k:Int)) none=xs.drop k:=by
 unfold Zc6;rw[HT.sIx_none,HT.sIx_nat];by_cases h:k<=xs.length
 . rw[Nat.min_eq_left h,List.take_of_length_le (by simp)]
 . rw[Nat.min_eq_right om,List.drop_eq_nil_of_le (Xae _),List.drop_eq_nil_of_le om];simp
theorem Zoq (F:FunAt K mg "_law_top" Zqy)(Fs:FnP P w K mg base 1 "_law_split" ["_law_size"] Zdm)(Fl:Zch P w K mg base CX0 1 (Zc9 K mg Zbe))(ml:mg "len" = none):∀ j:Nat,j<=40->FnP P w K mg base (j+2) "_law_top" ["_law_seal","_law_leaves_here"] (Zit K mg j)
 | 0,_=>by
  refine F.ok scLt (fun _ _ _ _ _ _=>l2e fun _ _=>rfl) (fun vs H Q E h=>?_) (fun f ad A outer s H vs Q E hr h=>?_)
  . obtain⟨S,f,a,ws,ts,rfl,_⟩:=h;rfl
  obtain⟨S,f,a,ws,ts,rfl,hS,hq,ht,hj,hc,q⟩:=h;have hl:=Za0 ht;refine⟨_,Zab (Zat (Zaj Za2 (Zai Zah rfl ml boot_len (pa1 (pv 1))) Zae (Zam _)) (psr (Zbd (i:=0) Fl hr Zb6 rfl (Or.inl rfl) (pa3 Zav Zae Zae))) Zal)
   (Zab (Zat (Zaj Za2 (Zai Zah rfl ml boot_len (pa1 (pv 1))) Zae (Zam _)) (psr (Zaw Zax (pv 1) Zae (fun _ _=>rfl))) Zal) Zb3),?_⟩
  refine⟨_,rfl,a,_,rfl,.inl hq,rfl,_,rfl,?_⟩;refine Zcl (fun c=>?_) (fun c=>?_)
  . have c':V.int (ws.length:Int)=V.int 0:=Xaf c;have e:ts=[]:=Xa6 (by injection c' with c';omega);subst e;refine⟨f,rfl,hS.fny,hS.fny,S,_,.int 0,.int 0,_,_,hS,hc,rfl,rfl,rfl,fun v H' g h=>q v H' g ?_⟩;show isT S H' (Gb.topT nlT prT []) v;rw[Gb.topT_nil];exact h
  . have c':¬ V.int (ws.length:Int)=V.int 0:=Xaj (Bool.eq_false_iff.mpr c);have e:ts.length=1:=by
     have:ts.length≠0:=fun z=>c' (by rw[<- hl,z];rfl);simp at hj;omega
    obtain⟨t,rfl⟩:=List.length_eq_one_iff.mp e;obtain⟨v0,rfl⟩:∃ v0,ws=[v0]:=List.length_eq_one_iff.mp (by rw[<- hl];rfl);cases ht with
    | cons ht1 ht2=>
     refine⟨_,rfl,a,_,rfl,.inl hq,rfl,_,rfl,?_⟩;refine Zbz ?_;refine⟨_,rfl,a,_,_,v0,rfl,rfl,hq,Zan (j:=0) rfl,?_⟩;refine q v0 H ((Gr.refl hS.told).up om) ?_;show isT S H (Gb.topT nlT prT [t]) v0;rw[Gb.topT_one];exact ht1
 | j+1,hjj=>by
  have ih:=Zoq F Fs Fl ml j om;refine F.ok scLt (fun _ _ _ _ _ _=>l2e fun _ _=>rfl) (fun vs H Q E h=>?_) (fun f ad A outer s H vs Q E hr h=>?_)
  . obtain⟨S,f,a,ws,ts,rfl,_⟩:=h;rfl
  obtain⟨S,f,a,ws,ts,rfl,hS,hq,ht,hj,hc,q⟩:=h;have hl:=Za0 ht;have nd:=scLt.nd;refine⟨_,Zab (Zat (Zaj Za2 (Zai Zah rfl ml boot_len (pa1 (pv 1))) Zae (Zam _)) (psr (Zbd (i:=0) Fl hr.m Zb6 rfl (Or.inl rfl) (pa3 Zav Zae Zae))) Zal)
   (Zab (Zat (Zaj Za2 (Zai Zah rfl ml boot_len (pa1 (pv 1))) Zae (Zam _)) (psr (Zaw Zax (pv 1) Zae (fun _ _=>rfl))) Zal)
   (Zab (Zao (i:=2) nd rfl (Or.inl rfl) (Zag Fs hr.m rfl (pa1 (Zai Zah rfl ml boot_len (pa1 (pv 1))))))
   (psr (Zbd (i:=0) Fl hr.m Zb6 rfl (Or.inl rfl) (pa3 Zav (Zag ih hr rfl (pa2 (pv 0) (Zay Za8 (pv 1) Za6 (Za5 (pv 2))))) (Zag ih hr rfl (pa2 (pv 0) (Zay Za8 (pv 1) (Za5 (pv 2)) Za6)))))))),?_⟩
  refine⟨_,rfl,a,_,rfl,.inl hq,rfl,_,rfl,?_⟩;refine Zcl (fun c=>?_) (fun c=>?_)
  . have c':V.int (ws.length:Int)=V.int 0:=Xaf c;have e:ts=[]:=Xa6 (by injection c' with c';omega);subst e;refine⟨f,rfl,hS.fny,hS.fny,S,_,.int 0,.int 0,_,_,hS,hc,rfl,rfl,rfl,fun v H' g h=>q v H' g ?_⟩;show isT S H' (Gb.topT nlT prT []) v;rw[Gb.topT_nil];exact h
  have c0:¬ V.int (ws.length:Int)=V.int 0:=Xaj (Bool.eq_false_iff.mpr c);refine⟨_,rfl,a,_,rfl,.inl hq,rfl,_,rfl,?_⟩;refine Zcl (fun c=>?_) (fun c=>?_)
  . have c':V.int (ws.length:Int)=V.int 1:=Xaf c;have e:ts.length=1:=by injection c' with c';omega
    obtain⟨t,rfl⟩:=List.length_eq_one_iff.mp e;obtain⟨v0,rfl⟩:∃ v0,ws=[v0]:=List.length_eq_one_iff.mp (by rw[<- hl];rfl);cases ht with
    | cons ht1 ht2=>
     refine⟨_,rfl,a,_,_,v0,rfl,rfl,hq,Zan (j:=0) rfl,?_⟩;refine q v0 H ((Gr.refl hS.told).up om) ?_;show isT S H (Gb.topT nlT prT [t]) v0;rw[Gb.topT_one];exact ht1
  have cc1:¬ V.int (ws.length:Int)=V.int 1:=Xaj (Bool.eq_false_iff.mpr c);have h2:2<=ts.length:=by
   have a0:ts.length≠0:=fun z=>c0 (by rw[<- hl,z];rfl);have a1:ts.length≠1:=fun z=>cc1 (by rw[<- hl,z];rfl);omega
  have x1:=Gb.spl_lt h2;have x2:=Gb.spl_pos ts.length;have x3:=Gb.spl_ge h2;have xj:Gb.spl ts.length<=2 ^ j:=by
   unfold Gb.spl;refine Xb3 om ?_;have:2 ^ Nat.log2 (ts.length - 1)<2 ^ (j+1):=Xao (Gb.spl_lt h2) hj;have:=(Nat.pow_lt_pow_iff_right (by omega:1<2)).mp this;omega
  have l1:(ts.take (Gb.spl ts.length)).length=Gb.spl ts.length:=by rw[Xav];omega
  have l2:(ts.drop (Gb.spl ts.length)).length=ts.length - Gb.spl ts.length:=Xbe;have c1:=Zcs l1 x2;have c2:=Zcs l2 om;have c3:=Zcs (ts:=ts) rfl om;have big:ts.length<2 ^ 60:=Xbm hj (Xb2 om om);refine⟨_,rfl,a,_,rfl,.inl hq,_,rfl,om,om,?_⟩;have ek:(ws.length:Int).toNat=ts.length:=by omega
  rw[ek];clear ek big;refine⟨f,rfl,hS.fny,?_⟩;refine⟨_,rfl,_,rfl,_,rfl,_,rfl,a,ws,rfl,hq,fun p1 hp1=>?_⟩;have g1:Gr S 0 H (upd H p1 (.lst (Zc6 ws none (some (Gb.spl ts.length:Nat))))):=.new hS.told hp1;refine⟨S,f,p1,ws.take (Gb.spl ts.length),ts.take (Gb.spl ts.length),rfl,hS.up g1.gn,SqL.of (by rw[Zaa,Zbs]),Zap g1.gn (Zb5 _ ht),by simp;omega,hc.go g1.gn om,fun v1 H1 g2 i1=>?_⟩;have g12:=g1.trans g2;have hq1:=g12.sq hq;refine⟨_,rfl,_,rfl,_,rfl,_,rfl,a,ws,rfl,hq1,fun p2 hp2=>?_⟩;have g3:Gr S 0 H1 (upd H1 p2 (.lst (Zc6 ws (some (Gb.spl ts.length:Nat)) none))):=.new g12.gn.told2 hp2;have g13:=g12.trans g3;refine⟨S,f,p2,ws.drop (Gb.spl ts.length),ts.drop (Gb.spl ts.length),rfl,hS.up g13.gn,SqL.of (by rw[Zaa,Zb8]),Zap g13.gn (Zcr _ ht),by simp;omega,hc.go g13.gn om,fun v2 H2 g4 i2=>?_⟩;have g14:=g13.trans g4;have g24:=g3.trans g4;refine⟨(hS.up g14.gn).fny,S,_,tpT (ts.take (Gb.spl ts.length)),tpT (ts.drop (Gb.spl ts.length)),_,_,hS.up g14.gn,hc.go g14.gn om,rfl,Zaz g24.gn i1,i2,fun v H' g5 i3=>?_⟩;refine q v H' ((g14.trans g5).up om) ?_;show isT S H' (Gb.topT nlT prT ts) v;rw[Gb.topT_more nlT prT h2];exact i3
def Zn2 (K:W.Frag)(mg:Str->Option Value):Sp:=fun vs H Q _=>∃ S f,vs=[.ref f]/\SealAt K mg Zbe S H f/\Cap S H 1/\∀ v H',Gr S 1 H H'->isT S H' nlT v->Q v H'
def Zth (K:W.Frag)(mg:Str->Option Value):Sp:=fun vs H Q _=>∃ S f t1 t2 v1 v2,vs=[.ref f,v1,v2]/\SealAt K mg Zbe S H f/\Cap S H 1/\isT S H t1 v1/\isT S H t2 v2/\∀ v H',Gr S 1 H H'->isT S H' (prT t1 t2) v->Q v H'
theorem scNo:Zak ["seal"] ["seal"] (Zad Zro):=Zb2
theorem scPa:Zak ["seal","first","rest"] ["seal","first","rest"] (Zad Zrg):=Zb2
theorem Zv4 (F:FunAt K mg "none_seal" Zro)(Fl:Zch P w K mg base CX0 1 (Zc9 K mg Zbe)):FnP P w K mg base 2 "none_seal" ["seal"] (Zn2 K mg):=by
 refine F.ok scNo (fun _ _ _ _ _ _=>l1e fun _=>rfl) (fun vs H Q E h=>?_) (fun f ad A outer s H vs Q E hr h=>?_)
 . obtain⟨S,f,rfl,_⟩:=h;rfl
 obtain⟨S,f,rfl,hS,hc,q⟩:=h;refine⟨_,psr (Zbd (i:=0) Fl hr Zb6 rfl (Or.inl rfl) (pa3 Zav Zae Zae)),?_⟩;exact⟨f,rfl,hS.fny,hS.fny,S,_,.int 0,.int 0,_,_,hS,hc,rfl,rfl,rfl,q⟩
theorem Zvr (F:FunAt K mg "pair_seal" Zrg)(Fl:Zch P w K mg base CX0 1 (Zc9 K mg Zbe)):FnP P w K mg base 2 "pair_seal" ["seal","first","rest"] (Zth K mg):=by
 refine F.ok scPa (fun _ _ _ _ _ _=>l3e fun _ _ _=>rfl) (fun vs H Q E h=>?_) (fun f ad A outer s H vs Q E hr h=>?_)
 . obtain⟨S,f,t1,t2,v1,v2,rfl,_⟩:=h;rfl
 obtain⟨S,f,t1,t2,v1,v2,rfl,hS,hc,i1,i2,q⟩:=h;refine⟨_,psr (Zbd (i:=0) Fl hr Zb6 rfl (Or.inl rfl) (pa3 Zav (pv 1) (pv 2))),?_⟩;exact⟨f,rfl,hS.fny,_,rfl,_,rfl,hS.fny,S,_,t1,t2,_,_,hS,hc,rfl,i1,i2,q⟩
theorem scTo:Zak ["seal","leaves","first"] ["seal","leaves"] (Zad sTop):=Zb2
theorem Zsy (F:FunAt K mg "top_of" sTop)(Fs:FnP P w K mg base 1 "split" ["size"] Zdm)(Fno:FnP P w K mg base 2 "none_seal" ["seal"] (Zn2 K mg))(Fpa:FnP P w K mg base 2 "pair_seal" ["seal","first","rest"] (Zth K mg))(ml:mg "len" = none):∀ j:Nat,j<=40->FnP P w K mg base (j+3) "top_of" ["seal","leaves"] (Zit K mg j)
 | 0,_=>by
  refine F.ok scTo (fun _ _ _ _ _ _=>l2e fun _ _=>rfl) (fun vs H Q E h=>?_) (fun f ad A outer s H vs Q E hr h=>?_)
  . obtain⟨S,f,a,ws,ts,rfl,_⟩:=h;rfl
  obtain⟨S,f,a,ws,ts,rfl,hS,hq,ht,hj,hc,q⟩:=h;have hl:=Za0 ht;refine⟨_,Zab (Zat (Zaj Za2 (Zai Zah rfl ml boot_len (pa1 (pv 1))) Zae (Zam _)) (psr (Zag Fno hr rfl (pa1 (pv 0)))) Zal)
   (Zab (Zat (Zaj Za2 (Zai Zah rfl ml boot_len (pa1 (pv 1))) Zae (Zam _)) (psr (Zaw Zax (pv 1) Zae (fun _ _=>rfl))) Zal) Zb3),?_⟩
  refine⟨_,rfl,a,_,rfl,.inl hq,rfl,_,rfl,?_⟩;refine Zcl (fun c=>?_) (fun c=>?_)
  . have c':V.int (ws.length:Int)=V.int 0:=Xaf c;have e:ts=[]:=Xa6 (by injection c' with c';omega);subst e;refine⟨_,rfl,S,f,rfl,hS,hc,fun v H' g h=>q v H' g ?_⟩;show isT S H' (Gb.topT nlT prT []) v;rw[Gb.topT_nil];exact h
  . have c':¬ V.int (ws.length:Int)=V.int 0:=Xaj (Bool.eq_false_iff.mpr c);have e:ts.length=1:=by
     have:ts.length≠0:=fun z=>c' (by rw[<- hl,z];rfl);simp at hj;omega
    obtain⟨t,rfl⟩:=List.length_eq_one_iff.mp e;obtain⟨v0,rfl⟩:∃ v0,ws=[v0]:=List.length_eq_one_iff.mp (by rw[<- hl];rfl);cases ht with
    | cons ht1 ht2=>
     refine⟨_,rfl,a,_,rfl,.inl hq,rfl,_,rfl,?_⟩;refine Zbz ?_;refine⟨_,rfl,a,_,_,v0,rfl,rfl,hq,Zan (j:=0) rfl,?_⟩;refine q v0 H ((Gr.refl hS.told).up om) ?_;show isT S H (Gb.topT nlT prT [t]) v0;rw[Gb.topT_one];exact ht1
 | j+1,hjj=>by
  have ih:=Zsy F Fs Fno Fpa ml j om;refine F.ok scTo (fun _ _ _ _ _ _=>l2e fun _ _=>rfl) (fun vs H Q E h=>?_) (fun f ad A outer s H vs Q E hr h=>?_)
  . obtain⟨S,f,a,ws,ts,rfl,_⟩:=h;rfl
  obtain⟨S,f,a,ws,ts,rfl,hS,hq,ht,hj,hc,q⟩:=h;have hl:=Za0 ht;have nd:=scTo.nd;refine⟨_,Zab (Zat (Zaj Za2 (Zai Zah rfl ml boot_len (pa1 (pv 1))) Zae (Zam _)) (psr (Zag Fno hr.m rfl (pa1 (pv 0)))) Zal)
   (Zab (Zat (Zaj Za2 (Zai Zah rfl ml boot_len (pa1 (pv 1))) Zae (Zam _)) (psr (Zaw Zax (pv 1) Zae (fun _ _=>rfl))) Zal)
   (Zab (Zao (i:=2) nd rfl (Or.inl rfl) (Zag Fs hr.m rfl (pa1 (Zai Zah rfl ml boot_len (pa1 (pv 1))))))
   (psr (Zag Fpa hr.m rfl (pa3 (pv 0) (Zag ih hr rfl (pa2 (pv 0) (Zay Za8 (pv 1) Za6 (Za5 (pv 2))))) (Zag ih hr rfl (pa2 (pv 0) (Zay Za8 (pv 1) (Za5 (pv 2)) Za6)))))))),?_⟩
  refine⟨_,rfl,a,_,rfl,.inl hq,rfl,_,rfl,?_⟩;refine Zcl (fun c=>?_) (fun c=>?_)
  . have c':V.int (ws.length:Int)=V.int 0:=Xaf c;have e:ts=[]:=Xa6 (by injection c' with c';omega);subst e;refine⟨_,rfl,S,f,rfl,hS,hc,fun v H' g h=>q v H' g ?_⟩;show isT S H' (Gb.topT nlT prT []) v;rw[Gb.topT_nil];exact h
  have c0:¬ V.int (ws.length:Int)=V.int 0:=Xaj (Bool.eq_false_iff.mpr c);refine⟨_,rfl,a,_,rfl,.inl hq,rfl,_,rfl,?_⟩;refine Zcl (fun c=>?_) (fun c=>?_)
  . have c':V.int (ws.length:Int)=V.int 1:=Xaf c;have e:ts.length=1:=by injection c' with c';omega
    obtain⟨t,rfl⟩:=List.length_eq_one_iff.mp e;obtain⟨v0,rfl⟩:∃ v0,ws=[v0]:=List.length_eq_one_iff.mp (by rw[<- hl];rfl);cases ht with
    | cons ht1 ht2=>
     refine⟨_,rfl,a,_,_,v0,rfl,rfl,hq,Zan (j:=0) rfl,?_⟩;refine q v0 H ((Gr.refl hS.told).up om) ?_;show isT S H (Gb.topT nlT prT [t]) v0;rw[Gb.topT_one];exact ht1
  have cc1:¬ V.int (ws.length:Int)=V.int 1:=Xaj (Bool.eq_false_iff.mpr c);have h2:2<=ts.length:=by
   have a0:ts.length≠0:=fun z=>c0 (by rw[<- hl,z];rfl);have a1:ts.length≠1:=fun z=>cc1 (by rw[<- hl,z];rfl);omega
  have x1:=Gb.spl_lt h2;have x2:=Gb.spl_pos ts.length;have x3:=Gb.spl_ge h2;have xj:Gb.spl ts.length<=2 ^ j:=by
   unfold Gb.spl;refine Xb3 om ?_;have:2 ^ Nat.log2 (ts.length - 1)<2 ^ (j+1):=Xao (Gb.spl_lt h2) hj;have:=(Nat.pow_lt_pow_iff_right (by omega:1<2)).mp this;omega
  have l1:(ts.take (Gb.spl ts.length)).length=Gb.spl ts.length:=by rw[Xav];omega
  have l2:(ts.drop (Gb.spl ts.length)).length=ts.length - Gb.spl ts.length:=Xbe;have c1:=Zcs l1 x2;have c2:=Zcs l2 om;have c3:=Zcs (ts:=ts) rfl om;have big:ts.length<2 ^ 60:=Xbm hj (Xb2 om om);refine⟨_,rfl,a,_,rfl,.inl hq,_,rfl,om,om,?_⟩;have ek:(ws.length:Int).toNat=ts.length:=by omega
  rw[ek];clear ek big;refine⟨_,rfl,?_⟩;refine⟨_,rfl,_,rfl,_,rfl,_,rfl,a,ws,rfl,hq,fun p1 hp1=>?_⟩;have g1:Gr S 0 H (upd H p1 (.lst (Zc6 ws none (some (Gb.spl ts.length:Nat))))):=.new hS.told hp1;refine⟨S,f,p1,ws.take (Gb.spl ts.length),ts.take (Gb.spl ts.length),rfl,hS.up g1.gn,SqL.of (by rw[Zaa,Zbs]),Zap g1.gn (Zb5 _ ht),by simp;omega,hc.go g1.gn om,fun v1 H1 g2 i1=>?_⟩;have g12:=g1.trans g2;have hq1:=g12.sq hq;refine⟨_,rfl,_,rfl,_,rfl,_,rfl,a,ws,rfl,hq1,fun p2 hp2=>?_⟩;have g3:Gr S 0 H1 (upd H1 p2 (.lst (Zc6 ws (some (Gb.spl ts.length:Nat)) none))):=.new g12.gn.told2 hp2;have g13:=g12.trans g3;refine⟨S,f,p2,ws.drop (Gb.spl ts.length),ts.drop (Gb.spl ts.length),rfl,hS.up g13.gn,SqL.of (by rw[Zaa,Zb8]),Zap g13.gn (Zcr _ ht),by simp;omega,hc.go g13.gn om,fun v2 H2 g4 i2=>?_⟩;have g14:=g13.trans g4;have g24:=g3.trans g4;refine⟨S,f,tpT (ts.take (Gb.spl ts.length)),tpT (ts.drop (Gb.spl ts.length)),_,_,rfl,hS.up g14.gn,hc.go g14.gn om,Zaz g24.gn i1,i2,fun v H' g5 i3=>?_⟩;refine q v H' ((g14.trans g5).up om) ?_;show isT S H' (Gb.topT nlT prT ts) v;rw[Gb.topT_more nlT prT h2];exact i3
def Zj7 (K:W.Frag)(mg:Str->Option Value)(j:Nat):Sp:=fun vs H Q _=>∃ S f a ws ts,∃ place:Nat,vs=[.ref f,.ref a,.int place]/\SealAt K mg Zbe S H f/\SqL K H a ws/\Zdc S H ts ws/\ts.length<=2 ^ j/\place<ts.length/\Cap S H (ts.length+1)/\
 ∀ r rs H',Gr S (ts.length+1) H H'->H r=none->H' r=some (.lst rs)->Zdc S H' (paT ts place) rs->Q (.ref r) H'
theorem Zhn {n j:Nat}(h2:2<=n)(hj:n<=2 ^ (j+1)):Gb.spl n<=2 ^ j:=by
 unfold Gb.spl;refine Xb3 om ?_;have:2 ^ Nat.log2 (n - 1)<2 ^ (j+1):=Xao (Gb.spl_lt h2) hj;have:=(Nat.pow_lt_pow_iff_right (by omega:1<2)).mp this;omega
theorem Zcw {S:Sl}{H H1 H2:Hp}{n1 n2 N:Nat}{gs:List Tm}{t:Tm}{r p l:Addr}{rs:List V}{v:V}(g1:Gr S n1 H H1)(hr:H r=none)(er:H1 r=some (.lst rs))(ir:Zdc S H1 gs rs)(g2:Gr S n2 H1 H2)(it:isT S H2 t v)(hp:H2 p=none)(hl:upd H2 p (.lst [v]) l=none)(hN:n1+n2<=N) :
 Gr S N H (upd (upd H2 p (.lst [v])) l (.lst (rs++[v])))/\H l=none/\upd (upd H2 p (.lst [v])) l (.lst (rs++[v])) l=some (.lst (rs++[v]))/\Zdc S (upd (upd H2 p (.lst [v])) l (.lst (rs++[v]))) (gs++[t]) (rs++[v]):=by
 have g3:Gr S 0 H2 (upd H2 p (.lst [v])):=.new g2.gn.told2 hp;have g4:Gr S 0 (upd H2 p (.lst [v])) (upd (upd H2 p (.lst [v])) l (.lst (rs++[v]))):=.new g3.gn.told2 hl;have g:=((g1.trans g2).trans g3).trans g4;refine⟨g.up om,(((g1.trans g2).trans g3)).free hl,Zaa,Zdp (Zap ((g2.trans g3).trans g4).gn ir) (.cons (Zaz (g3.trans g4).gn it) .nil)⟩
theorem Zld {ts:List Tm}{place j:Nat}(h:ts.length<=2 ^ j)(hj:j<=40)(hp:place<ts.length):(paT ts place).length+1<=sizeLine:=by
 have a:=(Gb.path_turns nlT prT _ ts place rfl hp).1;have b:=Gb.turns_len j ts.length place h;rw[Xam];have e:(paT ts place).length=(Gb.pathT nlT prT ts place).length:=rfl;omega
theorem Zph:Zak ["seal","leaves","place","first"] ["seal","leaves","place"] (Zad Zrl):=Zb2
theorem Zvu (F:FunAt K mg "path_of" Zrl)(Fs:FnP P w K mg base 1 "split" ["size"] Zdm)(Ft:∀ j,j<=40->FnP P w K mg base (j+3) "top_of" ["seal","leaves"] (Zit K mg j))(ml:mg "len" = none) :
 ∀ j:Nat,j<=40->FnP P w K mg base (j+4) "path_of" ["seal","leaves","place"] (Zj7 K mg j):=by
 intro j
 induction j with
 | zero=>
  intro _;refine F.ok Zph (fun _ _ _ _ _ _=>l3e fun _ _ _=>rfl) (fun vs H Q E h=>?_) (fun f ad A outer s H vs Q E hr h=>?_)
  . obtain⟨S,f,a,ws,ts,old,rfl,_⟩:=h;rfl
  obtain⟨S,f,a,ws,ts,old,rfl,hS,hq,ht,hj,ho,hc,q⟩:=h;have hl:=Za0 ht;refine⟨_,Zab (Zat (Zaj Zdg (Zai Zah rfl ml boot_len (pa1 (pv 1))) Zae (Zam _)) (psr (Zau Zbl)) Zal) Zb3,?_⟩;have e1:ts.length=1:=by simp at hj;omega
  refine⟨_,rfl,a,_,rfl,.inl hq,_,_,rfl,rfl,_,rfl,?_⟩;rw[Xah (show(ws.length:Int)<2 by omega)];refine Zbz ?_;refine⟨sl0,fun p hp=>?_⟩;refine q p [] _ ((Gr.new hS.told hp).up om) hp Zaa ?_;show Zdc S _ (Gb.pathT nlT prT ts old) [];rw[Gb.pathT_few nlT prT om];exact .nil
 | succ j ih=>
  intro hjj;have ih:=ih om;have Fj:=Ft j om;refine F.ok Zph (fun _ _ _ _ _ _=>l3e fun _ _ _=>rfl) (fun vs H Q E h=>?_) (fun f ad A outer s H vs Q E hr h=>?_)
  . obtain⟨S,f,a,ws,ts,old,rfl,_⟩:=h;rfl
  obtain⟨S,f,a,ws,ts,old,rfl,hS,hq,ht,hj,ho,hc,q⟩:=h;have hl:=Za0 ht;have nd:=Zph.nd;refine⟨_,Zab (Zat (Zaj Zdg (Zai Zah rfl ml boot_len (pa1 (pv 1))) Zae (Zam _)) (psr (Zau Zbl)) Zal)
   (Zab (Zao (i:=3) nd rfl (Or.inl rfl) (Zag Fs hr.m rfl (pa1 (Zai Zah rfl ml boot_len (pa1 (pv 1))))))
   (Zab (Zat (Zaj Zdg (pv 2) (pv 3) (Zam _)) (psr (Zas Ze3 (Zag ih hr rfl (pa3 (pv 0) (Zay Za8 (pv 1) Za6 (Za5 (pv 3))) (pv 2)))
    (Zau (pa1 (Zag Fj hr.m rfl (pa2 (pv 0) (Zay Za8 (pv 1) (Za5 (pv 3)) Za6))))))) Zal)
   (psr (Zas Ze3 (Zag ih hr rfl (pa3 (pv 0) (Zay Za8 (pv 1) (Za5 (pv 3)) Za6) (Zas Zb7 (pv 2) (pv 3))))
    (Zau (pa1 (Zag Fj hr.m rfl (pa2 (pv 0) (Zay Za8 (pv 1) Za6 (Za5 (pv 3))))))))))),?_⟩
  refine⟨_,rfl,a,_,rfl,.inl hq,_,_,rfl,rfl,_,rfl,?_⟩;refine Zcl (fun c=>?_) (fun c=>?_)
  . have c1:(ws.length:Int)<2:=Xaf c;refine⟨sl0,fun p hp=>?_⟩;refine q p [] _ ((Gr.new hS.told hp).up om) hp Zaa ?_;show Zdc S _ (Gb.pathT nlT prT ts old) [];rw[Gb.pathT_few nlT prT om];exact .nil
  have c1:¬ (ws.length:Int)<2:=Xaj (Bool.eq_false_iff.mpr c);have h2:2<=ts.length:=by omega
  have x1:=Gb.spl_lt h2;have x2:=Gb.spl_pos ts.length;have x3:=Gb.spl_ge h2;have xj:=Zhn h2 hj;have l1:(ts.take (Gb.spl ts.length)).length=Gb.spl ts.length:=by rw[Xav];omega
  have l2:(ts.drop (Gb.spl ts.length)).length=ts.length - Gb.spl ts.length:=Xbe;have k1:=Zcs l1 x2;have k2:=Zcs l2 om;have big:ts.length<2 ^ 60:=Xbm hj (Xb2 om om);refine⟨_,rfl,a,_,rfl,.inl hq,_,rfl,om,om,?_⟩;have ek:(ws.length:Int).toNat=ts.length:=by omega
  rw[ek];clear ek big;refine⟨_,rfl,_,rfl,_,_,rfl,rfl,_,rfl,?_⟩;refine Zcl (fun c=>?_) (fun c=>?_)
  . have c2:(old:Int)<(Gb.spl ts.length:Nat):=Xaf c;refine⟨_,rfl,_,rfl,_,rfl,_,rfl,a,ws,rfl,hq,fun p1 hp1=>⟨_,rfl,?_⟩⟩;have g1:Gr S 0 H (upd H p1 (.lst (Zc6 ws none (some (Gb.spl ts.length:Nat))))):=.new hS.told hp1;refine⟨S,f,p1,ws.take (Gb.spl ts.length),ts.take (Gb.spl ts.length),old,rfl,hS.up g1.gn,SqL.of (by rw[Zaa,Zbs]),Zap g1.gn (Zb5 _ ht),by simp;omega,by simp;omega,hc.go g1.gn om,fun r rs H1 g2 nr er ir=>?_⟩;have g12:=g1.trans g2;have hq1:=g12.sq hq;refine⟨_,rfl,_,rfl,_,rfl,_,rfl,a,ws,rfl,hq1,fun p2 hp2=>?_⟩;have g3:Gr S 0 H1 (upd H1 p2 (.lst (Zc6 ws (some (Gb.spl ts.length:Nat)) none))):=.new g12.gn.told2 hp2;have g13:=g12.trans g3;refine⟨S,f,p2,ws.drop (Gb.spl ts.length),ts.drop (Gb.spl ts.length),rfl,hS.up g13.gn,SqL.of (by rw[Zaa,Zb8]),Zap g13.gn (Zcr _ ht),by simp;omega,hc.go g13.gn om,fun v2 H2 g4 i2=>?_⟩;refine⟨sl1,fun p3 hp3=>?_⟩;have g34:=g3.trans g4;have g5:Gr S 0 H2 (upd H2 p3 (.lst [v2])):=.new g34.gn.told2 hp3;refine⟨r,p3,rs,[v2],rfl,rfl,(g34.trans g5).lst er,Zaa,?_,fun l hl'=>?_⟩
    . have z:=Zld (place:=old) (ts:=ts.take (Gb.spl ts.length)) (j:=j) (by simp;omega) om (by simp;omega);have z2:=Za0 ir;simp only[Xa8];omega
    . obtain⟨e1,e2,e3,e4⟩:=Zcw (N:=ts.length+1) g12 (g1.free nr) er ir g34 i2 hp3 hl' om;refine q l _ _ e1 e2 e3 ?_;show Zdc S _ (Gb.pathT nlT prT ts old) _;rw[Gb.pathT_low nlT prT h2 om];exact e4
  . have c2:¬ (old:Int)<(Gb.spl ts.length:Nat):=Xaj (Bool.eq_false_iff.mpr c);refine⟨_,rfl,_,rfl,_,rfl,_,rfl,a,ws,rfl,hq,fun p1 hp1=>⟨_,rfl,_,rfl,_,_,rfl,rfl,?_⟩⟩;have g1:Gr S 0 H (upd H p1 (.lst (Zc6 ws (some (Gb.spl ts.length:Nat)) none))):=.new hS.told hp1;refine⟨S,f,p1,ws.drop (Gb.spl ts.length),ts.drop (Gb.spl ts.length),old - Gb.spl ts.length,?_,hS.up g1.gn,SqL.of (by rw[Zaa,Zb8]),Zap g1.gn (Zcr _ ht),by simp;omega,by simp;omega,hc.go g1.gn om,fun r rs H1 g2 nr er ir=>?_⟩
    . show [V.ref f,V.ref p1,V.int ((old:Int) - ((Gb.spl ts.length:Nat):Int))]=_;rw[show(old:Int) - ((Gb.spl ts.length:Nat):Int)=((old - Gb.spl ts.length:Nat):Int) by omega]
    have g12:=g1.trans g2;have hq1:=g12.sq hq;refine⟨_,rfl,_,rfl,_,rfl,_,rfl,a,ws,rfl,hq1,fun p2 hp2=>?_⟩;have g3:Gr S 0 H1 (upd H1 p2 (.lst (Zc6 ws none (some (Gb.spl ts.length:Nat))))):=.new g12.gn.told2 hp2;have g13:=g12.trans g3;refine⟨S,f,p2,ws.take (Gb.spl ts.length),ts.take (Gb.spl ts.length),rfl,hS.up g13.gn,SqL.of (by rw[Zaa,Zbs]),Zap g13.gn (Zb5 _ ht),by simp;omega,hc.go g13.gn om,fun v2 H2 g4 i2=>?_⟩;refine⟨sl1,fun p3 hp3=>?_⟩;have g34:=g3.trans g4;have g5:Gr S 0 H2 (upd H2 p3 (.lst [v2])):=.new g34.gn.told2 hp3;refine⟨r,p3,rs,[v2],rfl,rfl,(g34.trans g5).lst er,Zaa,?_,fun l hl'=>?_⟩
    . have z:=Zld (place:=old - Gb.spl ts.length) (ts:=ts.drop (Gb.spl ts.length)) (j:=j) (by simp;omega) om (by simp;omega);have z2:=Za0 ir;simp only[Xa8];omega
    . obtain⟨e1,e2,e3,e4⟩:=Zcw (N:=ts.length+1) g12 (g1.free nr) er ir g34 i2 hp3 hl' om;refine q l _ _ e1 e2 e3 ?_;show Zdc S _ (Gb.pathT nlT prT ts old) _;rw[Gb.pathT_high nlT prT h2 om];exact e4
theorem Zjt:Zak ["_law_seal","_law_leaves_here","_law_place","_law_k"] ["_law_seal","_law_leaves_here","_law_place"] (Zad Zke):=Zb2
theorem Zsk (F:FunAt K mg "_law_path" Zke)(Fs:FnP P w K mg base 1 "_law_split" ["_law_size"] Zdm)(Ft:∀ j,j<=40->FnP P w K mg base (j+2) "_law_top" ["_law_seal","_law_leaves_here"] (Zit K mg j))(ml:mg "len" = none) :
 ∀ j:Nat,j<=40->FnP P w K mg base (j+3) "_law_path" ["_law_seal","_law_leaves_here","_law_place"] (Zj7 K mg j):=by
 intro j
 induction j with
 | zero=>
  intro _;refine F.ok Zjt (fun _ _ _ _ _ _=>l3e fun _ _ _=>rfl) (fun vs H Q E h=>?_) (fun f ad A outer s H vs Q E hr h=>?_)
  . obtain⟨S,f,a,ws,ts,old,rfl,_⟩:=h;rfl
  obtain⟨S,f,a,ws,ts,old,rfl,hS,hq,ht,hj,ho,hc,q⟩:=h;have hl:=Za0 ht;refine⟨_,Zab (Zat (Zaj Za2 (Zai Zah rfl ml boot_len (pa1 (pv 1))) Zae (Zam _)) (psr (Zau Zbl)) Zal) Zb3,?_⟩;have e1:ts.length=1:=by simp at hj;omega
  refine⟨_,rfl,a,_,rfl,.inl hq,rfl,_,rfl,?_⟩;rw[Xah (show V.int (ws.length:Int)=V.int 1 from congrArg V.int om)];refine Zbz ?_;refine⟨sl0,fun p hp=>?_⟩;refine q p [] _ ((Gr.new hS.told hp).up om) hp Zaa ?_;show Zdc S _ (Gb.pathT nlT prT ts old) [];rw[Gb.pathT_few nlT prT om];exact .nil
 | succ j ih=>
  intro hjj;have ih:=ih om;have Fj:=Ft j om;refine F.ok Zjt (fun _ _ _ _ _ _=>l3e fun _ _ _=>rfl) (fun vs H Q E h=>?_) (fun f ad A outer s H vs Q E hr h=>?_)
  . obtain⟨S,f,a,ws,ts,old,rfl,_⟩:=h;rfl
  obtain⟨S,f,a,ws,ts,old,rfl,hS,hq,ht,hj,ho,hc,q⟩:=h;have hl:=Za0 ht;have nd:=Zjt.nd;refine⟨_,Zab (Zat (Zaj Za2 (Zai Zah rfl ml boot_len (pa1 (pv 1))) Zae (Zam _)) (psr (Zau Zbl)) Zal)
   (Zab (Zao (i:=3) nd rfl (Or.inl rfl) (Zag Fs hr.m rfl (pa1 (Zai Zah rfl ml boot_len (pa1 (pv 1))))))
   (Zab (Zat (Zaj Zdg (pv 2) (pv 3) (Zam _)) (psr (Zas Ze3 (Zag ih hr rfl (pa3 (pv 0) (Zay Za8 (pv 1) Za6 (Za5 (pv 3))) (pv 2)))
    (Zau (pa1 (Zag Fj hr.m rfl (pa2 (pv 0) (Zay Za8 (pv 1) (Za5 (pv 3)) Za6))))))) Zal)
   (psr (Zas Ze3 (Zag ih hr rfl (pa3 (pv 0) (Zay Za8 (pv 1) (Za5 (pv 3)) Za6) (Zas Zb7 (pv 2) (pv 3))))
    (Zau (pa1 (Zag Fj hr.m rfl (pa2 (pv 0) (Zay Za8 (pv 1) Za6 (Za5 (pv 3))))))))))),?_⟩
  refine⟨_,rfl,a,_,rfl,.inl hq,rfl,_,rfl,?_⟩;refine Zcl (fun c=>?_) (fun c=>?_)
  . have c0:V.int (ws.length:Int)=V.int 1:=Xaf c;have c1:(ws.length:Int)<2:=by injection c0 with c0;omega
    refine⟨sl0,fun p hp=>?_⟩;refine q p [] _ ((Gr.new hS.told hp).up om) hp Zaa ?_;show Zdc S _ (Gb.pathT nlT prT ts old) [];rw[Gb.pathT_few nlT prT om];exact .nil
  have c0:¬ V.int (ws.length:Int)=V.int 1:=Xaj (Bool.eq_false_iff.mpr c);have h2:2<=ts.length:=by
   have:(ws.length:Int)≠1:=fun z=>c0 (by rw[z]);omega
  have x1:=Gb.spl_lt h2;have x2:=Gb.spl_pos ts.length;have x3:=Gb.spl_ge h2;have xj:=Zhn h2 hj;have l1:(ts.take (Gb.spl ts.length)).length=Gb.spl ts.length:=by rw[Xav];omega
  have l2:(ts.drop (Gb.spl ts.length)).length=ts.length - Gb.spl ts.length:=Xbe;have k1:=Zcs l1 x2;have k2:=Zcs l2 om;have big:ts.length<2 ^ 60:=Xbm hj (Xb2 om om);refine⟨_,rfl,a,_,rfl,.inl hq,_,rfl,om,om,?_⟩;have ek:(ws.length:Int).toNat=ts.length:=by omega
  rw[ek];clear ek big;refine⟨_,rfl,_,rfl,_,_,rfl,rfl,_,rfl,?_⟩;refine Zcl (fun c=>?_) (fun c=>?_)
  . have c2:(old:Int)<(Gb.spl ts.length:Nat):=Xaf c;refine⟨_,rfl,_,rfl,_,rfl,_,rfl,a,ws,rfl,hq,fun p1 hp1=>⟨_,rfl,?_⟩⟩;have g1:Gr S 0 H (upd H p1 (.lst (Zc6 ws none (some (Gb.spl ts.length:Nat))))):=.new hS.told hp1;refine⟨S,f,p1,ws.take (Gb.spl ts.length),ts.take (Gb.spl ts.length),old,rfl,hS.up g1.gn,SqL.of (by rw[Zaa,Zbs]),Zap g1.gn (Zb5 _ ht),by simp;omega,by simp;omega,hc.go g1.gn om,fun r rs H1 g2 nr er ir=>?_⟩;have g12:=g1.trans g2;have hq1:=g12.sq hq;refine⟨_,rfl,_,rfl,_,rfl,_,rfl,a,ws,rfl,hq1,fun p2 hp2=>?_⟩;have g3:Gr S 0 H1 (upd H1 p2 (.lst (Zc6 ws (some (Gb.spl ts.length:Nat)) none))):=.new g12.gn.told2 hp2;have g13:=g12.trans g3;refine⟨S,f,p2,ws.drop (Gb.spl ts.length),ts.drop (Gb.spl ts.length),rfl,hS.up g13.gn,SqL.of (by rw[Zaa,Zb8]),Zap g13.gn (Zcr _ ht),by simp;omega,hc.go g13.gn om,fun v2 H2 g4 i2=>?_⟩;refine⟨sl1,fun p3 hp3=>?_⟩;have g34:=g3.trans g4;have g5:Gr S 0 H2 (upd H2 p3 (.lst [v2])):=.new g34.gn.told2 hp3;refine⟨r,p3,rs,[v2],rfl,rfl,(g34.trans g5).lst er,Zaa,?_,fun l hl'=>?_⟩
    . have z:=Zld (place:=old) (ts:=ts.take (Gb.spl ts.length)) (j:=j) (by simp;omega) om (by simp;omega);have z2:=Za0 ir;simp only[Xa8];omega
    . obtain⟨e1,e2,e3,e4⟩:=Zcw (N:=ts.length+1) g12 (g1.free nr) er ir g34 i2 hp3 hl' om;refine q l _ _ e1 e2 e3 ?_;show Zdc S _ (Gb.pathT nlT prT ts old) _;rw[Gb.pathT_low nlT prT h2 om];exact e4
  . have c2:¬ (old:Int)<(Gb.spl ts.length:Nat):=Xaj (Bool.eq_false_iff.mpr c);refine⟨_,rfl,_,rfl,_,rfl,_,rfl,a,ws,rfl,hq,fun p1 hp1=>⟨_,rfl,_,rfl,_,_,rfl,rfl,?_⟩⟩;have g1:Gr S 0 H (upd H p1 (.lst (Zc6 ws (some (Gb.spl ts.length:Nat)) none))):=.new hS.told hp1;refine⟨S,f,p1,ws.drop (Gb.spl ts.length),ts.drop (Gb.spl ts.length),old - Gb.spl ts.length,?_,hS.up g1.gn,SqL.of (by rw[Zaa,Zb8]),Zap g1.gn (Zcr _ ht),by simp;omega,by simp;omega,hc.go g1.gn om,fun r rs H1 g2 nr er ir=>?_⟩
    . show [V.ref f,V.ref p1,V.int ((old:Int) - ((Gb.spl ts.length:Nat):Int))]=_;rw[show(old:Int) - ((Gb.spl ts.length:Nat):Int)=((old - Gb.spl ts.length:Nat):Int) by omega]
    have g12:=g1.trans g2;have hq1:=g12.sq hq;refine⟨_,rfl,_,rfl,_,rfl,_,rfl,a,ws,rfl,hq1,fun p2 hp2=>?_⟩;have g3:Gr S 0 H1 (upd H1 p2 (.lst (Zc6 ws none (some (Gb.spl ts.length:Nat))))):=.new g12.gn.told2 hp2;have g13:=g12.trans g3;refine⟨S,f,p2,ws.take (Gb.spl ts.length),ts.take (Gb.spl ts.length),rfl,hS.up g13.gn,SqL.of (by rw[Zaa,Zbs]),Zap g13.gn (Zb5 _ ht),by simp;omega,hc.go g13.gn om,fun v2 H2 g4 i2=>?_⟩;refine⟨sl1,fun p3 hp3=>?_⟩;have g34:=g3.trans g4;have g5:Gr S 0 H2 (upd H2 p3 (.lst [v2])):=.new g34.gn.told2 hp3;refine⟨r,p3,rs,[v2],rfl,rfl,(g34.trans g5).lst er,Zaa,?_,fun l hl'=>?_⟩
    . have z:=Zld (place:=old - Gb.spl ts.length) (ts:=ts.drop (Gb.spl ts.length)) (j:=j) (by simp;omega) om (by simp;omega);have z2:=Za0 ir;simp only[Xa8];omega
    . obtain⟨e1,e2,e3,e4⟩:=Zcw (N:=ts.length+1) g12 (g1.free nr) er ir g34 i2 hp3 hl' om;refine q l _ _ e1 e2 e3 ?_;show Zdc S _ (Gb.pathT nlT prT ts old) _;rw[Gb.pathT_high nlT prT h2 om];exact e4
def Zkk (K:W.Frag)(mg:Str->Option Value)(j:Nat):Sp:=fun vs H Q _=>∃ S f a ws ts,∃ old:Nat,vs=[.ref f,.ref a,.int old]/\SealAt K mg Zbe S H f/\SqL K H a ws/\Zdc S H ts ws/\ts.length<=2 ^ j/\old<=ts.length/\Cap S H (ts.length+1)/\
 ∀ r rs H',Gr S (ts.length+1) H H'->H r=none->H' r=some (.lst rs)->Zdc S H' (gwT ts old) rs->Q (.ref r) H'
theorem scGr:Zak ["seal","leaves","old","first"] ["seal","leaves","old"] (Zad Zrt):=Zb2
theorem Zk3 {ts:List Tm}{old:Nat}{j:Nat}(h:ts.length<=2 ^ j)(hj:j<=40):(gwT ts old).length+1<=sizeLine:=by
 have:=Gb.growT_len nlT prT j ts old h;rw[Xam];have e:(gwT ts old).length=(Gb.growT nlT prT ts old).length:=rfl;omega
theorem Zu3 (F:FunAt K mg "growth_of" Zrt)(Fs:FnP P w K mg base 1 "split" ["size"] Zdm)(Ft:∀ j,j<=40->FnP P w K mg base (j+3) "top_of" ["seal","leaves"] (Zit K mg j))(ml:mg "len" = none) :
 ∀ j:Nat,j<=40->FnP P w K mg base (j+4) "growth_of" ["seal","leaves","old"] (Zkk K mg j):=by
 intro j
 induction j with
 | zero=>
  intro _;refine F.ok scGr (fun _ _ _ _ _ _=>l3e fun _ _ _=>rfl) (fun vs H Q E h=>?_) (fun f ad A outer s H vs Q E hr h=>?_)
  . obtain⟨S,f,a,ws,ts,old,rfl,_⟩:=h;rfl
  obtain⟨S,f,a,ws,ts,old,rfl,hS,hq,ht,hj,ho,hc,q⟩:=h;have hl:=Za0 ht;refine⟨_,Zab (Zat (Zaj Zdg (pv 2) Zae (Zam _)) (psr (Zau Zbl)) Zal)
   (Zab (Zat (Zaj Zpm (pv 2) (Zai Zah rfl ml boot_len (pa1 (pv 1))) (Zam _)) (psr (Zau (pa1 (Zag (Ft 0 om) hr rfl (pa2 (pv 0) (pv 1)))))) Zal) Zb3),?_⟩
  refine⟨_,rfl,_,_,rfl,rfl,_,rfl,?_⟩;refine Zcl (fun c=>?_) (fun c=>?_)
  . have c':(old:Int)<1:=Xaf c;have e:old=0:=by omega
    subst e;refine⟨sl0,fun p hp=>?_⟩;refine q p [] _ ((Gr.new hS.told hp).up om) hp Zaa ?_;show Zdc S _ (Gb.growT nlT prT ts 0) [];rw[Gb.growT_zero];exact .nil
  . have c':¬ (old:Int)<1:=Xaj (Bool.eq_false_iff.mpr c);refine⟨_,rfl,_,rfl,a,_,rfl,.inl hq,_,_,rfl,rfl,_,rfl,?_⟩;have e2:(ws.length:Int)<=(old:Int):=by simp at hj;omega
    rw[Xah e2];refine Zbz ?_;refine⟨_,rfl,_,rfl,S,f,a,ws,ts,rfl,hS,hq,ht,hj,hc.dn (Zdz ts),fun v H1 g1 i1=>⟨sl1,fun p hp=>?_⟩⟩;have g2:Gr S 0 H1 (upd H1 p (.lst [v])):=.new g1.gn.told2 hp;refine q p [v] _ ((g1.trans g2).up (by have:=Zdz ts;omega)) (g1.free hp) Zaa ?_;show Zdc S _ (Gb.growT nlT prT ts old) [v];rw[Gb.growT_all nlT prT om om];exact .cons (Zaz g2.gn i1) .nil
 | succ j ih=>
  intro hjj;have ih:=ih om;have Fj:=Ft j om;have Fj1:=Ft (j+1) hjj;refine F.ok scGr (fun _ _ _ _ _ _=>l3e fun _ _ _=>rfl) (fun vs H Q E h=>?_) (fun f ad A outer s H vs Q E hr h=>?_)
  . obtain⟨S,f,a,ws,ts,old,rfl,_⟩:=h;rfl
  obtain⟨S,f,a,ws,ts,old,rfl,hS,hq,ht,hj,ho,hc,q⟩:=h;have hl:=Za0 ht;have nd:=scGr.nd;refine⟨_,Zab (Zat (Zaj Zdg (pv 2) Zae (Zam _)) (psr (Zau Zbl)) Zal)
   (Zab (Zat (Zaj Zpm (pv 2) (Zai Zah rfl ml boot_len (pa1 (pv 1))) (Zam _)) (psr (Zau (pa1 (Zag Fj1 hr rfl (pa2 (pv 0) (pv 1)))))) Zal)
   (Zab (Zao (i:=3) nd rfl (Or.inl rfl) (Zag Fs hr.m rfl (pa1 (Zai Zah rfl ml boot_len (pa1 (pv 1))))))
   (Zab (Zat (Zaj Ze5 (pv 2) (pv 3) (Zam _)) (psr (Zas Ze3 (Zag ih hr rfl (pa3 (pv 0) (Zay Za8 (pv 1) Za6 (Za5 (pv 3))) (pv 2)))
    (Zau (pa1 (Zag Fj hr.m rfl (pa2 (pv 0) (Zay Za8 (pv 1) (Za5 (pv 3)) Za6))))))) Zal)
   (psr (Zas Ze3 (Zag ih hr rfl (pa3 (pv 0) (Zay Za8 (pv 1) (Za5 (pv 3)) Za6) (Zas Zb7 (pv 2) (pv 3))))
    (Zau (pa1 (Zag Fj hr.m rfl (pa2 (pv 0) (Zay Za8 (pv 1) Za6 (Za5 (pv 3)))))))))))),?_⟩
  refine⟨_,rfl,_,_,rfl,rfl,_,rfl,?_⟩;refine Zcl (fun c=>?_) (fun c=>?_)
  . have c':(old:Int)<1:=Xaf c;have e:old=0:=by omega
    subst e;refine⟨sl0,fun p hp=>?_⟩;refine q p [] _ ((Gr.new hS.told hp).up om) hp Zaa ?_;show Zdc S _ (Gb.growT nlT prT ts 0) [];rw[Gb.growT_zero];exact .nil
  have c0:¬ (old:Int)<1:=Xaj (Bool.eq_false_iff.mpr c);refine⟨_,rfl,_,rfl,a,_,rfl,.inl hq,_,_,rfl,rfl,_,rfl,?_⟩;refine Zcl (fun c=>?_) (fun c=>?_)
  . have c':(ws.length:Int)<=(old:Int):=Xaf c;refine⟨_,rfl,_,rfl,S,f,a,ws,ts,rfl,hS,hq,ht,hj,hc.dn (Zdz ts),fun v H1 g1 i1=>⟨sl1,fun p hp=>?_⟩⟩;have g2:Gr S 0 H1 (upd H1 p (.lst [v])):=.new g1.gn.told2 hp;refine q p [v] _ ((g1.trans g2).up (by have:=Zdz ts;omega)) (g1.free hp) Zaa ?_;show Zdc S _ (Gb.growT nlT prT ts old) [v];rw[Gb.growT_all nlT prT om om];exact .cons (Zaz g2.gn i1) .nil
  have c1:¬ (ws.length:Int)<=(old:Int):=Xaj (Bool.eq_false_iff.mpr c);have h2:2<=ts.length:=by omega
  have x1:=Gb.spl_lt h2;have x2:=Gb.spl_pos ts.length;have x3:=Gb.spl_ge h2;have xj:=Zhn h2 hj;have l1:(ts.take (Gb.spl ts.length)).length=Gb.spl ts.length:=by rw[Xav];omega
  have l2:(ts.drop (Gb.spl ts.length)).length=ts.length - Gb.spl ts.length:=Xbe;have k1:=Zcs l1 x2;have k2:=Zcs l2 om;have big:ts.length<2 ^ 60:=Xbm hj (Xb2 om om);refine⟨_,rfl,a,_,rfl,.inl hq,_,rfl,om,om,?_⟩;have ek:(ws.length:Int).toNat=ts.length:=by omega
  rw[ek];clear ek big;refine⟨_,rfl,_,rfl,_,_,rfl,rfl,_,rfl,?_⟩;refine Zcl (fun c=>?_) (fun c=>?_)
  . have c2:(old:Int)<=(Gb.spl ts.length:Nat):=Xaf c;refine⟨_,rfl,_,rfl,_,rfl,_,rfl,a,ws,rfl,hq,fun p1 hp1=>⟨_,rfl,?_⟩⟩;have g1:Gr S 0 H (upd H p1 (.lst (Zc6 ws none (some (Gb.spl ts.length:Nat))))):=.new hS.told hp1;refine⟨S,f,p1,ws.take (Gb.spl ts.length),ts.take (Gb.spl ts.length),old,rfl,hS.up g1.gn,SqL.of (by rw[Zaa,Zbs]),Zap g1.gn (Zb5 _ ht),by simp;omega,by simp;omega,hc.go g1.gn om,fun r rs H1 g2 nr er ir=>?_⟩;have g12:=g1.trans g2;have hq1:=g12.sq hq;refine⟨_,rfl,_,rfl,_,rfl,_,rfl,a,ws,rfl,hq1,fun p2 hp2=>?_⟩;have g3:Gr S 0 H1 (upd H1 p2 (.lst (Zc6 ws (some (Gb.spl ts.length:Nat)) none))):=.new g12.gn.told2 hp2;have g13:=g12.trans g3;refine⟨S,f,p2,ws.drop (Gb.spl ts.length),ts.drop (Gb.spl ts.length),rfl,hS.up g13.gn,SqL.of (by rw[Zaa,Zb8]),Zap g13.gn (Zcr _ ht),by simp;omega,hc.go g13.gn om,fun v2 H2 g4 i2=>?_⟩;refine⟨sl1,fun p3 hp3=>?_⟩;have g34:=g3.trans g4;have g5:Gr S 0 H2 (upd H2 p3 (.lst [v2])):=.new g34.gn.told2 hp3;refine⟨r,p3,rs,[v2],rfl,rfl,(g34.trans g5).lst er,Zaa,?_,fun l hl'=>?_⟩
    . have z:=Zk3 (old:=old) (ts:=ts.take (Gb.spl ts.length)) (j:=j) (by simp;omega) om;have z2:=Za0 ir;simp only[Xa8];omega
    . obtain⟨e1,e2,e3,e4⟩:=Zcw (N:=ts.length+1) g12 (g1.free nr) er ir g34 i2 hp3 hl' om;refine q l _ _ e1 e2 e3 ?_;show Zdc S _ (Gb.growT nlT prT ts old) _;rw[Gb.growT_low nlT prT om om om];exact e4
  . have c2:¬ (old:Int)<=(Gb.spl ts.length:Nat):=Xaj (Bool.eq_false_iff.mpr c);refine⟨_,rfl,_,rfl,_,rfl,_,rfl,a,ws,rfl,hq,fun p1 hp1=>⟨_,rfl,_,rfl,_,_,rfl,rfl,?_⟩⟩;have g1:Gr S 0 H (upd H p1 (.lst (Zc6 ws (some (Gb.spl ts.length:Nat)) none))):=.new hS.told hp1;refine⟨S,f,p1,ws.drop (Gb.spl ts.length),ts.drop (Gb.spl ts.length),old - Gb.spl ts.length,?_,hS.up g1.gn,SqL.of (by rw[Zaa,Zb8]),Zap g1.gn (Zcr _ ht),by simp;omega,by simp;omega,hc.go g1.gn om,fun r rs H1 g2 nr er ir=>?_⟩
    . show [V.ref f,V.ref p1,V.int ((old:Int) - ((Gb.spl ts.length:Nat):Int))]=_;rw[show(old:Int) - ((Gb.spl ts.length:Nat):Int)=((old - Gb.spl ts.length:Nat):Int) by omega]
    have g12:=g1.trans g2;have hq1:=g12.sq hq;refine⟨_,rfl,_,rfl,_,rfl,_,rfl,a,ws,rfl,hq1,fun p2 hp2=>?_⟩;have g3:Gr S 0 H1 (upd H1 p2 (.lst (Zc6 ws none (some (Gb.spl ts.length:Nat))))):=.new g12.gn.told2 hp2;have g13:=g12.trans g3;refine⟨S,f,p2,ws.take (Gb.spl ts.length),ts.take (Gb.spl ts.length),rfl,hS.up g13.gn,SqL.of (by rw[Zaa,Zbs]),Zap g13.gn (Zb5 _ ht),by simp;omega,hc.go g13.gn om,fun v2 H2 g4 i2=>?_⟩;refine⟨sl1,fun p3 hp3=>?_⟩;have g34:=g3.trans g4;have g5:Gr S 0 H2 (upd H2 p3 (.lst [v2])):=.new g34.gn.told2 hp3;refine⟨r,p3,rs,[v2],rfl,rfl,(g34.trans g5).lst er,Zaa,?_,fun l hl'=>?_⟩
    . have z:=Zk3 (old:=old - Gb.spl ts.length) (ts:=ts.drop (Gb.spl ts.length)) (j:=j) (by simp;omega) om;have z2:=Za0 ir;simp only[Xa8];omega
    . obtain⟨e1,e2,e3,e4⟩:=Zcw (N:=ts.length+1) g12 (g1.free nr) er ir g34 i2 hp3 hl' om;refine q l _ _ e1 e2 e3 ?_;show Zdc S _ (Gb.growT nlT prT ts old) _;rw[Gb.growT_high nlT prT om om om];exact e4
theorem scLg:Zak ["_law_seal","_law_leaves_here","_law_old","_law_k"] ["_law_seal","_law_leaves_here","_law_old"] (Zad Zkh):=Zb2
theorem Zrr (F:FunAt K mg "_law_growth" Zkh)(Fs:FnP P w K mg base 1 "_law_split" ["_law_size"] Zdm)(Ft:∀ j,j<=40->FnP P w K mg base (j+2) "_law_top" ["_law_seal","_law_leaves_here"] (Zit K mg j))(ml:mg "len" = none) :
 ∀ j:Nat,j<=40->FnP P w K mg base (j+3) "_law_growth" ["_law_seal","_law_leaves_here","_law_old"] (Zkk K mg j):=by
 intro j
 induction j with
 | zero=>
  intro _;refine F.ok scLg (fun _ _ _ _ _ _=>l3e fun _ _ _=>rfl) (fun vs H Q E h=>?_) (fun f ad A outer s H vs Q E hr h=>?_)
  . obtain⟨S,f,a,ws,ts,old,rfl,_⟩:=h;rfl
  obtain⟨S,f,a,ws,ts,old,rfl,hS,hq,ht,hj,ho,hc,q⟩:=h;have hl:=Za0 ht;refine⟨_,Zab (Zat (Zaj Za2 (pv 2) Zae (Zam _)) (psr (Zau Zbl)) Zal)
   (Zab (Zat (Zaj Za2 (pv 2) (Zai Zah rfl ml boot_len (pa1 (pv 1))) (Zam _)) (psr (Zau (pa1 (Zag (Ft 0 om) hr rfl (pa2 (pv 0) (pv 1)))))) Zal) Zb3),?_⟩
  refine⟨_,rfl,rfl,_,rfl,?_⟩;refine Zcl (fun c=>?_) (fun c=>?_)
  . have c':V.int (old:Int)=V.int 0:=Xaf c;have e:old=0:=by injection c' with c';omega
    subst e;refine⟨sl0,fun p hp=>?_⟩;refine q p [] _ ((Gr.new hS.told hp).up om) hp Zaa ?_;show Zdc S _ (Gb.growT nlT prT ts 0) [];rw[Gb.growT_zero];exact .nil
  . have c'':¬ V.int (old:Int)=V.int 0:=Xaj (Bool.eq_false_iff.mpr c);have c':¬ (old:Int)<1:=fun z=>c'' (by rw[show(old:Int)=0 by omega]);refine⟨_,rfl,_,rfl,a,_,rfl,.inl hq,rfl,_,rfl,?_⟩;have e2:V.int (old:Int)=V.int (ws.length:Int):=congrArg V.int (by simp at hj;omega);rw[Xah e2];refine Zbz ?_;refine⟨_,rfl,_,rfl,S,f,a,ws,ts,rfl,hS,hq,ht,hj,hc.dn (Zdz ts),fun v H1 g1 i1=>⟨sl1,fun p hp=>?_⟩⟩;have g2:Gr S 0 H1 (upd H1 p (.lst [v])):=.new g1.gn.told2 hp;refine q p [v] _ ((g1.trans g2).up (by have:=Zdz ts;omega)) (g1.free hp) Zaa ?_;show Zdc S _ (Gb.growT nlT prT ts old) [v];rw[Gb.growT_all nlT prT om om];exact .cons (Zaz g2.gn i1) .nil
 | succ j ih=>
  intro hjj;have ih:=ih om;have Fj:=Ft j om;have Fj1:=Ft (j+1) hjj;refine F.ok scLg (fun _ _ _ _ _ _=>l3e fun _ _ _=>rfl) (fun vs H Q E h=>?_) (fun f ad A outer s H vs Q E hr h=>?_)
  . obtain⟨S,f,a,ws,ts,old,rfl,_⟩:=h;rfl
  obtain⟨S,f,a,ws,ts,old,rfl,hS,hq,ht,hj,ho,hc,q⟩:=h;have hl:=Za0 ht;have nd:=scLg.nd;refine⟨_,Zab (Zat (Zaj Za2 (pv 2) Zae (Zam _)) (psr (Zau Zbl)) Zal)
   (Zab (Zat (Zaj Za2 (pv 2) (Zai Zah rfl ml boot_len (pa1 (pv 1))) (Zam _)) (psr (Zau (pa1 (Zag Fj1 hr rfl (pa2 (pv 0) (pv 1)))))) Zal)
   (Zab (Zao (i:=3) nd rfl (Or.inl rfl) (Zag Fs hr.m rfl (pa1 (Zai Zah rfl ml boot_len (pa1 (pv 1))))))
   (Zab (Zat (Zaj Ze5 (pv 2) (pv 3) (Zam _)) (psr (Zas Ze3 (Zag ih hr rfl (pa3 (pv 0) (Zay Za8 (pv 1) Za6 (Za5 (pv 3))) (pv 2)))
    (Zau (pa1 (Zag Fj hr.m rfl (pa2 (pv 0) (Zay Za8 (pv 1) (Za5 (pv 3)) Za6))))))) Zal)
   (psr (Zas Ze3 (Zag ih hr rfl (pa3 (pv 0) (Zay Za8 (pv 1) (Za5 (pv 3)) Za6) (Zas Zb7 (pv 2) (pv 3))))
    (Zau (pa1 (Zag Fj hr.m rfl (pa2 (pv 0) (Zay Za8 (pv 1) Za6 (Za5 (pv 3)))))))))))),?_⟩
  refine⟨_,rfl,rfl,_,rfl,?_⟩;refine Zcl (fun c=>?_) (fun c=>?_)
  . have c':V.int (old:Int)=V.int 0:=Xaf c;have e:old=0:=by injection c' with c';omega
    subst e;refine⟨sl0,fun p hp=>?_⟩;refine q p [] _ ((Gr.new hS.told hp).up om) hp Zaa ?_;show Zdc S _ (Gb.growT nlT prT ts 0) [];rw[Gb.growT_zero];exact .nil
  have c'':¬ V.int (old:Int)=V.int 0:=Xaj (Bool.eq_false_iff.mpr c);have c0:¬ (old:Int)<1:=fun z=>c'' (by rw[show(old:Int)=0 by omega]);refine⟨_,rfl,_,rfl,a,_,rfl,.inl hq,rfl,_,rfl,?_⟩;refine Zcl (fun c=>?_) (fun c=>?_)
  . have c'':V.int (old:Int)=V.int (ws.length:Int):=Xaf c;have c':(ws.length:Int)<=(old:Int):=by injection c'' with c'';omega
    refine⟨_,rfl,_,rfl,S,f,a,ws,ts,rfl,hS,hq,ht,hj,hc.dn (Zdz ts),fun v H1 g1 i1=>⟨sl1,fun p hp=>?_⟩⟩;have g2:Gr S 0 H1 (upd H1 p (.lst [v])):=.new g1.gn.told2 hp;refine q p [v] _ ((g1.trans g2).up (by have:=Zdz ts;omega)) (g1.free hp) Zaa ?_;show Zdc S _ (Gb.growT nlT prT ts old) [v];rw[Gb.growT_all nlT prT om om];exact .cons (Zaz g2.gn i1) .nil
  have c1':¬ V.int (old:Int)=V.int (ws.length:Int):=Xaj (Bool.eq_false_iff.mpr c);have c1:¬ (ws.length:Int)<=(old:Int):=fun z=>c1' (by rw[show(old:Int)=(ws.length:Int) by omega]);have h2:2<=ts.length:=by omega
  have x1:=Gb.spl_lt h2;have x2:=Gb.spl_pos ts.length;have x3:=Gb.spl_ge h2;have xj:=Zhn h2 hj;have l1:(ts.take (Gb.spl ts.length)).length=Gb.spl ts.length:=by rw[Xav];omega
  have l2:(ts.drop (Gb.spl ts.length)).length=ts.length - Gb.spl ts.length:=Xbe;have k1:=Zcs l1 x2;have k2:=Zcs l2 om;have big:ts.length<2 ^ 60:=Xbm hj (Xb2 om om);refine⟨_,rfl,a,_,rfl,.inl hq,_,rfl,om,om,?_⟩;have ek:(ws.length:Int).toNat=ts.length:=by omega
  rw[ek];clear ek big;refine⟨_,rfl,_,rfl,_,_,rfl,rfl,_,rfl,?_⟩;refine Zcl (fun c=>?_) (fun c=>?_)
  . have c2:(old:Int)<=(Gb.spl ts.length:Nat):=Xaf c;refine⟨_,rfl,_,rfl,_,rfl,_,rfl,a,ws,rfl,hq,fun p1 hp1=>⟨_,rfl,?_⟩⟩;have g1:Gr S 0 H (upd H p1 (.lst (Zc6 ws none (some (Gb.spl ts.length:Nat))))):=.new hS.told hp1;refine⟨S,f,p1,ws.take (Gb.spl ts.length),ts.take (Gb.spl ts.length),old,rfl,hS.up g1.gn,SqL.of (by rw[Zaa,Zbs]),Zap g1.gn (Zb5 _ ht),by simp;omega,by simp;omega,hc.go g1.gn om,fun r rs H1 g2 nr er ir=>?_⟩;have g12:=g1.trans g2;have hq1:=g12.sq hq;refine⟨_,rfl,_,rfl,_,rfl,_,rfl,a,ws,rfl,hq1,fun p2 hp2=>?_⟩;have g3:Gr S 0 H1 (upd H1 p2 (.lst (Zc6 ws (some (Gb.spl ts.length:Nat)) none))):=.new g12.gn.told2 hp2;have g13:=g12.trans g3;refine⟨S,f,p2,ws.drop (Gb.spl ts.length),ts.drop (Gb.spl ts.length),rfl,hS.up g13.gn,SqL.of (by rw[Zaa,Zb8]),Zap g13.gn (Zcr _ ht),by simp;omega,hc.go g13.gn om,fun v2 H2 g4 i2=>?_⟩;refine⟨sl1,fun p3 hp3=>?_⟩;have g34:=g3.trans g4;have g5:Gr S 0 H2 (upd H2 p3 (.lst [v2])):=.new g34.gn.told2 hp3;refine⟨r,p3,rs,[v2],rfl,rfl,(g34.trans g5).lst er,Zaa,?_,fun l hl'=>?_⟩
    . have z:=Zk3 (old:=old) (ts:=ts.take (Gb.spl ts.length)) (j:=j) (by simp;omega) om;have z2:=Za0 ir;simp only[Xa8];omega
    . obtain⟨e1,e2,e3,e4⟩:=Zcw (N:=ts.length+1) g12 (g1.free nr) er ir g34 i2 hp3 hl' om;refine q l _ _ e1 e2 e3 ?_;show Zdc S _ (Gb.growT nlT prT ts old) _;rw[Gb.growT_low nlT prT om om om];exact e4
  . have c2:¬ (old:Int)<=(Gb.spl ts.length:Nat):=Xaj (Bool.eq_false_iff.mpr c);refine⟨_,rfl,_,rfl,_,rfl,_,rfl,a,ws,rfl,hq,fun p1 hp1=>⟨_,rfl,_,rfl,_,_,rfl,rfl,?_⟩⟩;have g1:Gr S 0 H (upd H p1 (.lst (Zc6 ws (some (Gb.spl ts.length:Nat)) none))):=.new hS.told hp1;refine⟨S,f,p1,ws.drop (Gb.spl ts.length),ts.drop (Gb.spl ts.length),old - Gb.spl ts.length,?_,hS.up g1.gn,SqL.of (by rw[Zaa,Zb8]),Zap g1.gn (Zcr _ ht),by simp;omega,by simp;omega,hc.go g1.gn om,fun r rs H1 g2 nr er ir=>?_⟩
    . show [V.ref f,V.ref p1,V.int ((old:Int) - ((Gb.spl ts.length:Nat):Int))]=_;rw[show(old:Int) - ((Gb.spl ts.length:Nat):Int)=((old - Gb.spl ts.length:Nat):Int) by omega]
    have g12:=g1.trans g2;have hq1:=g12.sq hq;refine⟨_,rfl,_,rfl,_,rfl,_,rfl,a,ws,rfl,hq1,fun p2 hp2=>?_⟩;have g3:Gr S 0 H1 (upd H1 p2 (.lst (Zc6 ws none (some (Gb.spl ts.length:Nat))))):=.new g12.gn.told2 hp2;have g13:=g12.trans g3;refine⟨S,f,p2,ws.take (Gb.spl ts.length),ts.take (Gb.spl ts.length),rfl,hS.up g13.gn,SqL.of (by rw[Zaa,Zbs]),Zap g13.gn (Zb5 _ ht),by simp;omega,hc.go g13.gn om,fun v2 H2 g4 i2=>?_⟩;refine⟨sl1,fun p3 hp3=>?_⟩;have g34:=g3.trans g4;have g5:Gr S 0 H2 (upd H2 p3 (.lst [v2])):=.new g34.gn.told2 hp3;refine⟨r,p3,rs,[v2],rfl,rfl,(g34.trans g5).lst er,Zaa,?_,fun l hl'=>?_⟩
    . have z:=Zk3 (old:=old - Gb.spl ts.length) (ts:=ts.drop (Gb.spl ts.length)) (j:=j) (by simp;omega) om;have z2:=Za0 ir;simp only[Xa8];omega
    . obtain⟨e1,e2,e3,e4⟩:=Zcw (N:=ts.length+1) g12 (g1.free nr) er ir g34 i2 hp3 hl' om;refine q l _ _ e1 e2 e3 ?_;show Zdc S _ (Gb.growT nlT prT ts old) _;rw[Gb.growT_high nlT prT om om om];exact e4
def Zd1 (K:W.Frag)(mg:Str->Option Value)(m:Str):Sp:=fun vs H Q _=>∃ S f t1 t2 v1 v2,vs=[.ref f,v1,v2]/\SealAt K mg Zbe S H f/\Cap S H 1/\isT S H t1 v1/\isT S H t2 v2/\∀ v H',Gr S 1 H H'->isT S H' (.nd m t1 t2) v->Q v H'
theorem scLeS:Zak ["seal","text","table"] ["seal","text","table"] (Zad Zlf):=Zb2
theorem Zq3 (F:FunAt K mg "leaf_seal" Zlf)(Fl:Zch P w K mg base CX0 1 (Zc9 K mg Zbe)):FnP P w K mg base 2 "leaf_seal" ["seal","text","table"] (Zd1 K mg "leaf"):=by
 refine F.ok scLeS (fun _ _ _ _ _ _=>l3e fun _ _ _=>rfl) (fun vs H Q E h=>?_) (fun f ad A outer s H vs Q E hr h=>?_)
 . obtain⟨S,f,t1,t2,v1,v2,rfl,_⟩:=h;rfl
 obtain⟨S,f,t1,t2,v1,v2,rfl,hS,hc,i1,i2,q⟩:=h;refine⟨_,psr (Zbd (i:=0) Fl hr Zb6 rfl (Or.inl rfl) (pa3 Zav (pv 1) (pv 2))),?_⟩;exact⟨f,rfl,hS.fny,_,rfl,_,rfl,hS.fny,S,_,t1,t2,_,_,hS,hc,rfl,i1,i2,q⟩
theorem scBk:Zak ["seal","size","top"] ["seal","size","top"] (Zad Zrf):=Zb2
theorem Zu7 (F:FunAt K mg "book_seal" Zrf)(Fl:Zch P w K mg base CX0 1 (Zc9 K mg Zbe)):FnP P w K mg base 2 "book_seal" ["seal","size","top"] (Zd1 K mg "book"):=by
 refine F.ok scBk (fun _ _ _ _ _ _=>l3e fun _ _ _=>rfl) (fun vs H Q E h=>?_) (fun f ad A outer s H vs Q E hr h=>?_)
 . obtain⟨S,f,t1,t2,v1,v2,rfl,_⟩:=h;rfl
 obtain⟨S,f,t1,t2,v1,v2,rfl,hS,hc,i1,i2,q⟩:=h;refine⟨_,psr (Zbd (i:=0) Fl hr Zb6 rfl (Or.inl rfl) (pa3 Zav (pv 1) (pv 2))),?_⟩;exact⟨f,rfl,hS.fny,_,rfl,_,rfl,hS.fny,S,_,t1,t2,_,_,hS,hc,rfl,i1,i2,q⟩
theorem scRw:Zak ["seal","key","value"] ["seal","key","value"] (Zad sRow):=Zb2
theorem Zwx (F:FunAt K mg "row_seal" sRow)(Fl:Zch P w K mg base CX0 1 (Zc9 K mg Zbe)):FnP P w K mg base 2 "row_seal" ["seal","key","value"] (Zd1 K mg "row"):=by
 refine F.ok scRw (fun _ _ _ _ _ _=>l3e fun _ _ _=>rfl) (fun vs H Q E h=>?_) (fun f ad A outer s H vs Q E hr h=>?_)
 . obtain⟨S,f,t1,t2,v1,v2,rfl,_⟩:=h;rfl
 obtain⟨S,f,t1,t2,v1,v2,rfl,hS,hc,i1,i2,q⟩:=h;refine⟨_,psr (Zbd (i:=0) Fl hr Zb6 rfl (Or.inl rfl) (pa3 Zav (pv 1) (pv 2))),?_⟩;exact⟨f,rfl,hS.fny,_,rfl,_,rfl,hS.fny,S,_,t1,t2,_,_,hS,hc,rfl,i1,i2,q⟩
theorem scFk:Zak ["seal","low","high"] ["seal","low","high"] (Zad Zqo):=Zb2
theorem Zuy (F:FunAt K mg "fork_seal" Zqo)(Fl:Zch P w K mg base CX0 1 (Zc9 K mg Zbe)):FnP P w K mg base 2 "fork_seal" ["seal","low","high"] (Zd1 K mg "fork"):=by
 refine F.ok scFk (fun _ _ _ _ _ _=>l3e fun _ _ _=>rfl) (fun vs H Q E h=>?_) (fun f ad A outer s H vs Q E hr h=>?_)
 . obtain⟨S,f,t1,t2,v1,v2,rfl,_⟩:=h;rfl
 obtain⟨S,f,t1,t2,v1,v2,rfl,hS,hc,i1,i2,q⟩:=h;refine⟨_,psr (Zbd (i:=0) Fl hr Zb6 rfl (Or.inl rfl) (pa3 Zav (pv 1) (pv 2))),?_⟩;exact⟨f,rfl,hS.fny,_,rfl,_,rfl,hS.fny,S,_,t1,t2,_,_,hS,hc,rfl,i1,i2,q⟩
theorem bit1 (k:Int)(b:Nat):Builtin.bitAnd (k / 2 ^ ((b:Int)).toNat) 1=Zbc k b:=by
 rw[PyProof.Rows.bitAnd_m1];rfl
def Zm2 (K:W.Frag):Sp:=fun vs H Q _=>∃ S:Sl,∃ a ws ac,∃ b:Nat,∃ sd:Int,vs=[.ref a,.int b,.int sd]/\Zgn S H/\SqL K H a ws/\RowsAt H ac ws/\ac.length<=1000/\
 ∀ D H' ws',Gr S 0 H H'->H D=none->H' D=some (.lst ws')->RowsAt H' (prt ac b sd) ws'->Q (.ref D) H'
theorem scPo:Zak ["rows","bit","side"] ["rows","bit","side"] (Zad Zhl):=Zb2
theorem Zvx (F:FunAt K mg "part_of" Zhl):FnP P w K mg base 1 "part_of" ["rows","bit","side"] (Zm2 K):=by
 refine F.ok scPo (fun _ _ _ _ _ _=>l3e fun _ _ _=>rfl) (fun vs H Q E h=>?_) (fun f0 ad A outer s H vs Q E hr h=>?_)
 . obtain⟨S,a,ws,ac,b,sd,rfl,_⟩:=h;rfl
 obtain⟨S,a,ws,ac,b,sd,rfl,ts,hq,hw,hz,q⟩:=h;refine' ⟨_,psr (Zet (ys:=["bit","side"]) (js:=[1,2]) ?ok (Zcz (pv 0)) (fun _ _ _=>Zfj ?ht) (fun _ _ _=>pv 0)),?rd⟩
 case ok=>
  refine⟨rfl,rfl,rfl,by decide +kernel,by decide +kernel,rfl,by decide +kernel,fun _ _ h=>h,rfl,fun i y h=>?_,rfl⟩
  match i,h with
  | 0,h=>simp at h;subst h;exact⟨1,rfl,rfl,rfl,rfl⟩
  | 1,h=>simp at h;subst h;exact⟨2,rfl,rfl,rfl,rfl⟩
  | i+2,h=>simp at h
 case ht=>
  exact Zaj Za2 (Zas Zst (Zas Zs1 (Zaw (Zds K rfl) (pv 0) Zae (fun _ _=>rfl)) (pv 1)) Zae) (pv 2) (Zam _)
 case rd=>
 refine⟨_,rfl,a,rfl,⟨_,hq⟩,?_⟩;refine Zdo (fun r=>decide (Zbc r.1 b=sd)) ts hq hw om (fun p r H' Qb hp hQ=>?_) q;refine⟨_,rfl,p,_,0,_,rfl,rfl,.inl (.inl hp),Zan (j:=0) rfl,_,rfl,_,_,rfl,rfl,by show(0:Int)<=(b:Int);omega,_,_,rfl,rfl,_,rfl,rfl,_,rfl,?_⟩;show Qb (decide (V.int (Builtin.bitAnd (r.1 / 2 ^ ((b:Int)).toNat) 1)=V.int sd)) H';rw[bit1];have e:decide (V.int (Zbc r.1 b)=V.int sd)=decide (Zbc r.1 b=sd):=by
  by_cases h:Zbc r.1 b=sd
  . rw[Xah h,Xah (by rw[h])]
  . rw[Xag h,Xag (fun z=>h (by injection z))]
 rw[e];exact hQ
def Zoc (K:W.Frag)(mg:Str->Option Value)(b:Nat):Sp:=fun vs H Q _=>∃ S f a ws ac,vs=[.ref f,.ref a,.int b]/\SealAt K mg Zbe S H f/\SqL K H a ws/\RowsAt H ac ws/\ac.length<=1000/\OKR b ac/\Cap S H (Zgd b ac)/\
 ∀ v H',Gr S (Zgd b ac) H H'->isT S H' (Zgb b ac) v->Q v H'
theorem scTp:Zak ["seal","rows","bits","bit","low","high"] ["seal","rows","bits"] (Zad Zfb):=Zb2
theorem Zui (F:FunAt K mg "top_of_part" Zfb)(Fn:FnP P w K mg base 2 "none_seal" ["seal"] (Zn2 K mg))(Fr:FnP P w K mg base 2 "row_seal" ["seal","key","value"] (Zd1 K mg "row"))
 (Ff:FnP P w K mg base 2 "fork_seal" ["seal","low","high"] (Zd1 K mg "fork"))(Fp:FnP P w K mg base 1 "part_of" ["rows","bit","side"] (Zm2 K))(ml:mg "len" = none) :
 ∀ b:Nat,FnP P w K mg base (b+3) "top_of_part" ["seal","rows","bits"] (Zoc K mg b):=by
 intro b
 induction b with
 | zero=>
  refine F.ok scTp (fun _ _ _ _ _ _=>l3e fun _ _ _=>rfl) (fun vs H Q E h=>?_) (fun f0 ad A outer s H vs Q E hr h=>?_)
  . obtain⟨S,f,a,ws,ac,rfl,_⟩:=h;rfl
  obtain⟨S,f,a,ws,ac,rfl,hS,hq,hw,hz,ok,hc,q⟩:=h;have nd:=scTp.nd;have hl:=Za0 hw;refine⟨_,Zab (Zat (Zaj Za2 (Zai Zah rfl ml boot_len (pa1 (pv 1))) Zae (Zam _)) (psr (Zag Fn hr rfl (pa1 (pv 0)))) Zal) <|
   Zab (Zat (Zaj Za2 (Zai Zah rfl ml boot_len (pa1 (pv 1))) Zae (Zam _)) (psr (Zag Fr hr rfl (pa3 (pv 0) (Zaw Za7 (Zaw Zax (pv 1) Zae (fun _ _=>rfl)) Zae (fun _ _=>rfl)) (Zaw Za7 (Zaw Zax (pv 1) Zae (fun _ _=>rfl)) Zae (fun _ _=>rfl))))) Zal) <|
   Zb3,?_⟩
  have h1:=ok.zero;refine⟨_,rfl,a,_,rfl,.inl hq,rfl,_,rfl,?_⟩;refine Zcl (fun c=>?_) (fun c=>?_)
  . have c':V.int (ws.length:Int)=V.int 0:=Xaf c;have e:ac=[]:=Xa6 (by injection c' with c';omega);subst e;refine⟨_,rfl,S,f,rfl,hS,hc,fun v H' g i=>q v H' g ?_⟩;rw[Zd9];exact i
  . have c':¬ V.int (ws.length:Int)=V.int 0:=Xaj (Bool.eq_false_iff.mpr c);have c2:ac.length≠0:=fun z=>c' (congrArg V.int om);obtain⟨r,rfl⟩:∃ r,ac=[r]:=by
     match ac,h1,c2 with
     | [r],_,_=>exact⟨r,rfl⟩
    obtain⟨v,rfl,p,rfl,hp⟩:∃ v,ws=[v]/\RowAt H r v:=by
     cases hw with
     | cons r1 t1=>cases t1;exact⟨_,rfl,r1⟩
    refine⟨_,rfl,a,_,rfl,.inl hq,rfl,_,rfl,?_⟩;refine Zbz ?_;refine⟨_,rfl,_,rfl,a,_,0,_,rfl,rfl,hq,Zan (j:=0) rfl,p,_,0,_,rfl,rfl,.inl (.inl hp),Zan (j:=0) rfl,_,rfl,a,_,0,_,rfl,rfl,hq,Zan (j:=0) rfl,p,_,1,_,rfl,rfl,.inl (.inl hp),Zan (j:=1) rfl,
     S,f,.int r.1,.str r.2,_,_,rfl,hS,hc,rfl,rfl,fun v H' g i=>q v H' g ?_⟩
    rw[Zek];exact i
 | succ b ih=>
  refine F.ok scTp (fun _ _ _ _ _ _=>l3e fun _ _ _=>rfl) (fun vs H Q E h=>?_) (fun f0 ad A outer s H vs Q E hr h=>?_)
  . obtain⟨S,f,a,ws,ac,rfl,_⟩:=h;rfl
  obtain⟨S,f,a,ws,ac,rfl,hS,hq,hw,hz,ok,hc,q⟩:=h;have nd:=scTp.nd;have hl:=Za0 hw;refine⟨_,Zab (Zat (Zaj Za2 (Zai Zah rfl ml boot_len (pa1 (pv 1))) Zae (Zam _)) (psr (Zag Fn hr.m rfl (pa1 (pv 0)))) Zal) <|
   Zab (Zat (Zaj Za2 (Zai Zah rfl ml boot_len (pa1 (pv 1))) Zae (Zam _)) (psr (Zag Fr hr.m rfl (pa3 (pv 0) (Zaw Za7 (Zaw Zax (pv 1) Zae (fun _ _=>rfl)) Zae (fun _ _=>rfl)) (Zaw Za7 (Zaw Zax (pv 1) Zae (fun _ _=>rfl)) Zae (fun _ _=>rfl))))) Zal) <|
   Zab (Zao (i:=3) nd rfl (Or.inl rfl) (Zas Zb7 (pv 2) Zae)) <|
   Zab (Zao (i:=4) nd rfl (Or.inl rfl) (Zag ih hr rfl (pa3 (pv 0) (Zag Fp hr.m rfl (pa3 (pv 1) (pv 3) Zae)) (pv 3)))) <|
   Zab (Zao (i:=5) nd rfl (Or.inl rfl) (Zag ih hr rfl (pa3 (pv 0) (Zag Fp hr.m rfl (pa3 (pv 1) (pv 3) Zae)) (pv 3)))) <|
   psr (Zag Ff hr.m rfl (pa3 (pv 0) (pv 4) (pv 5))),?_⟩
  have cp:=Zkv (b+1) ac;refine⟨_,rfl,a,_,rfl,.inl hq,rfl,_,rfl,?_⟩;refine Zcl (fun c=>?_) (fun c=>?_)
  . have c':V.int (ws.length:Int)=V.int 0:=Xaf c;have e:ac=[]:=Xa6 (by injection c' with c';omega);subst e;refine⟨_,rfl,S,f,rfl,hS,hc.dn cp,fun v H' g i=>q v H' (g.up cp) ?_⟩;rw[Zd9];exact i
  have c':¬ V.int (ws.length:Int)=V.int 0:=Xaj (Bool.eq_false_iff.mpr c);have c2:ac.length≠0:=fun z=>c' (congrArg V.int om);refine⟨_,rfl,a,_,rfl,.inl hq,rfl,_,rfl,?_⟩;refine Zcl (fun c=>?_) (fun c=>?_)
  . have c':V.int (ws.length:Int)=V.int 1:=Xaf c;have h1:ac.length=1:=by injection c' with c';omega
    obtain⟨r,rfl⟩:∃ r,ac=[r]:=List.length_eq_one_iff.mp h1;obtain⟨v,rfl,p,rfl,hp⟩:∃ v,ws=[v]/\RowAt H r v:=by
     cases hw with
     | cons r1 t1=>cases t1;exact⟨_,rfl,r1⟩
    refine⟨_,rfl,_,rfl,a,_,0,_,rfl,rfl,hq,Zan (j:=0) rfl,p,_,0,_,rfl,rfl,.inl (.inl hp),Zan (j:=0) rfl,_,rfl,a,_,0,_,rfl,rfl,hq,Zan (j:=0) rfl,p,_,1,_,rfl,rfl,.inl (.inl hp),Zan (j:=1) rfl,
     S,f,.int r.1,.str r.2,_,_,rfl,hS,hc.dn cp,rfl,rfl,fun v H' g i=>q v H' (g.up cp) ?_⟩
    rw[Zek];exact i
  have c3:¬ V.int (ws.length:Int)=V.int 1:=Xaj (Bool.eq_false_iff.mpr c);have c4:ac.length≠1:=fun z=>c3 (congrArg V.int om);have h2:2<=ac.length:=by omega
  have hcs:=Zf0 (b:=b) h2;have eb:(((b+1:Nat):Int) - 1)=((b:Nat):Int):=by omega
  refine⟨_,rfl,_,_,rfl,rfl,?_⟩;dsimp only;rw[eb];have ls:∀ sd,(prt ac b sd).length<=1000:=fun sd=>Xan (Xbz _ _) hz;refine⟨_,rfl,_,rfl,_,rfl,S,a,ws,ac,b,0,rfl,hS.told,hq,hw,hz,fun D0 H0 ws0 g0 n0 e0 r0=>⟨_,rfl,?_⟩⟩;refine⟨S,f,D0,ws0,prt ac b 0,rfl,hS.up g0.gn,SqL.of e0,r0,ls 0,ok.prt 0,hc.go g0.gn om,fun v1 H1 g1 i1=>?_⟩;have g01:=g0.trans g1;refine⟨_,rfl,_,rfl,_,rfl,S,a,ws,ac,b,1,rfl,g01.gn.told2,g01.sq hq,RowsAt.up hw g01.gn,hz,fun D2 H2 ws2 g2 n2 e2 r2=>⟨_,rfl,?_⟩⟩;have g02:=g01.trans g2;refine⟨S,f,D2,ws2,prt ac b 1,rfl,hS.up g02.gn,SqL.of e2,r2,ls 1,ok.prt 1,hc.go g02.gn om,fun v3 H3 g3 i3=>?_⟩;have g03:=g02.trans g3;refine⟨_,rfl,_,rfl,_,rfl,S,f,Zgb b (prt ac b 0),Zgb b (prt ac b 1),_,_,rfl,hS.up g03.gn,hc.go g03.gn om,Zaz (g2.trans g3).gn i1,i3,fun v4 H4 g4 i4=>q v4 H4 ((g03.trans g4).up om) ?_⟩;rw[Zh5 h2];exact i4
def Zgv (K:W.Frag)(mg:Str->Option Value):Sp:=fun vs H Q E=>∃ b,b<=16/\Zoc K mg b vs H Q E
theorem Zuw (b:Nat):(1:Int) * 2 ^ ((((b+1:Nat):Int) - 1)).toNat=2 ^ b:=by
 rw[show((((b+1:Nat):Int) - 1)).toNat=b by omega,Int.one_mul]
theorem Zo8 {b:Nat}(h:b<=20):CDiv 0 ((2:Int) ^ b):=by
 have h1:=two_pow_nn b;have h2:(2:Nat) ^ b<=2 ^ 20:=Xb3 om h;have h3:=Nat.one_le_two_pow (n:=b);unfold CDiv;rw[PyProof.Rows.two_pow_cast];omega
theorem Zhg (i s:Int):decide (V.int i=V.int s)=decide (i=s):=by
 by_cases h:i=s
 . rw[Xah h,Xah (by rw[h])]
 . rw[Xag h,Xag (fun z=>h (by injection z))]
theorem scLp:Zak ["_law_seal","_law_rows","_law_level","_law_half","_law_low","_law_high"] ["_law_seal","_law_rows","_law_level"] (Zad Zkl):=Zb2
theorem Zsh (F:FunAt K mg "_law_part" Zkl)(Fl:Zch P w K mg base CX0 1 (Zc9 K mg Zbe))(ml:mg "len" = none) :
 ∀ b:Nat,b<=20->FnP P w K mg base (b+3) "_law_part" ["_law_seal","_law_rows","_law_level"] (Zoc K mg b):=by
 intro b
 induction b with
 | zero=>
  intro _;refine F.ok scLp (fun _ _ _ _ _ _=>l3e fun _ _ _=>rfl) (fun vs H Q E h=>?_) (fun f0 ad A outer s H vs Q E hr h=>?_)
  . obtain⟨S,f,a,ws,ac,rfl,_⟩:=h;rfl
  obtain⟨S,f,a,ws,ac,rfl,hS,hq,hw,hz,ok,hc,q⟩:=h;have nd:=scLp.nd;have hl:=Za0 hw;refine⟨_,Zab (Zat (Zaj Za2 (Zai Zah rfl ml boot_len (pa1 (pv 1))) Zae (Zam _)) (psr (Zbd (i:=0) Fl hr.m Zb6 rfl (Or.inl rfl) (pa3 Zav Zae Zae))) Zal) <|
   Zab (Zat (Zaj Za2 (Zai Zah rfl ml boot_len (pa1 (pv 1))) Zae (Zam _)) (psr (Zbd (i:=0) Fl hr.m Zb6 rfl (Or.inl rfl) (pa3 Zav (Zaw Za7 (Zaw Zax (pv 1) Zae (fun _ _=>rfl)) Zae (fun _ _=>rfl)) (Zaw Za7 (Zaw Zax (pv 1) Zae (fun _ _=>rfl)) Zae (fun _ _=>rfl))))) Zal) <|
   Zb3,?_⟩
  have h1:=ok.zero;refine⟨_,rfl,a,_,rfl,.inl hq,rfl,_,rfl,?_⟩;refine Zcl (fun c=>?_) (fun c=>?_)
  . have c':V.int (ws.length:Int)=V.int 0:=Xaf c;have e:ac=[]:=Xa6 (by injection c' with c';omega);subst e;refine⟨f,rfl,hS.fny,hS.fny,S,_,.int 0,.int 0,_,_,hS,hc,rfl,rfl,rfl,fun v H' g i=>q v H' g ?_⟩;rw[Zd9];exact i
  . have c':¬ V.int (ws.length:Int)=V.int 0:=Xaj (Bool.eq_false_iff.mpr c);have c2:ac.length≠0:=fun z=>c' (congrArg V.int om);obtain⟨r,rfl⟩:∃ r,ac=[r]:=by
     match ac,h1,c2 with
     | [r],_,_=>exact⟨r,rfl⟩
    obtain⟨v,rfl,p,rfl,hp⟩:∃ v,ws=[v]/\RowAt H r v:=by
     cases hw with
     | cons r1 t1=>cases t1;exact⟨_,rfl,r1⟩
    refine⟨_,rfl,a,_,rfl,.inl hq,rfl,_,rfl,?_⟩;refine Zbz ?_;refine⟨f,rfl,hS.fny,_,rfl,a,_,0,_,rfl,rfl,hq,Zan (j:=0) rfl,p,_,0,_,rfl,rfl,.inl (.inl hp),Zan (j:=0) rfl,_,rfl,a,_,0,_,rfl,rfl,hq,Zan (j:=0) rfl,p,_,1,_,rfl,rfl,.inl (.inl hp),Zan (j:=1) rfl,
     hS.fny,S,_,.int r.1,.str r.2,_,_,hS,hc,rfl,rfl,rfl,fun v H' g i=>q v H' g ?_⟩
    rw[Zek];exact i
 | succ b ih=>
  intro hb;have ih:=ih om;refine F.ok scLp (fun _ _ _ _ _ _=>l3e fun _ _ _=>rfl) (fun vs H Q E h=>?_) (fun f0 ad A outer s H vs Q E hr h=>?_)
  . obtain⟨S,f,a,ws,ac,rfl,_⟩:=h;rfl
  obtain⟨S,f,a,ws,ac,rfl,hS,hq,hw,hz,ok,hc,q⟩:=h;have nd:=scLp.nd;have hl:=Za0 hw;refine' ⟨_,Zab (Zat (Zaj Za2 (Zai Zah rfl ml boot_len (pa1 (pv 1))) Zae (Zam _)) (psr (Zbd (i:=0) Fl hr.m Zb6 rfl (Or.inl rfl) (pa3 Zav Zae Zae))) Zal) <|
   Zab (Zat (Zaj Za2 (Zai Zah rfl ml boot_len (pa1 (pv 1))) Zae (Zam _)) (psr (Zbd (i:=0) Fl hr.m Zb6 rfl (Or.inl rfl) (pa3 Zav (Zaw Za7 (Zaw Zax (pv 1) Zae (fun _ _=>rfl)) Zae (fun _ _=>rfl)) (Zaw Za7 (Zaw Zax (pv 1) Zae (fun _ _=>rfl)) Zae (fun _ _=>rfl))))) Zal) <|
   Zab (Zao (i:=3) nd rfl (Or.inr rfl) (Zas Zgg Zae (Zas Zb7 (pv 2) Zae))) <|
   Zab (Zcj (iz:=4) (ys:=["_law_half"]) (js:=[3]) ?ok1 (Zcz (pv 1)) (fun _ _ _=>Zfj ?ht1) (fun _ _ _=>pv 0) nd rfl (Or.inl rfl) (Or.inl rfl) rfl) <|
   Zab (Zcj (iz:=5) (ys:=["_law_half"]) (js:=[3]) ?ok2 (Zcz (pv 1)) (fun _ _ _=>Zfj ?ht2) (fun _ _ _=>pv 0) nd rfl (Or.inl rfl) (Or.inl rfl) rfl) <|
   psr (Zbd (i:=0) Fl hr.m Zb6 rfl (Or.inl rfl) (pa3 Zav (Zag ih hr rfl (pa3 (pv 0) (pv 4) (Zas Zb7 (pv 2) Zae))) (Zag ih hr rfl (pa3 (pv 0) (pv 5) (Zas Zb7 (pv 2) Zae))))),?rd⟩
  case ok1=>
   refine⟨rfl,rfl,rfl,by decide +kernel,by decide +kernel,rfl,by decide +kernel,fun _ _ h=>h,rfl,fun i y h=>?_,rfl⟩
   match i,h with
   | 0,h=>simp at h;subst h;exact⟨3,rfl,rfl,rfl,rfl⟩
   | i+1,h=>simp at h
  case ok2=>
   refine⟨rfl,rfl,rfl,by decide +kernel,by decide +kernel,rfl,by decide +kernel,fun _ _ h=>h,rfl,fun i y h=>?_,rfl⟩
   match i,h with
   | 0,h=>simp at h;subst h;exact⟨3,rfl,rfl,rfl,rfl⟩
   | i+1,h=>simp at h
  case ht1=>exact Zaj Za2 (Zas Zc4 (Zas Zd5 (Zaw (Zds K rfl) (pv 0) Zae (fun _ _=>rfl)) (pv 1)) Zae) Zae (Zam _)
  case ht2=>exact Zaj Za2 (Zas Zc4 (Zas Zd5 (Zaw (Zds K rfl) (pv 0) Zae (fun _ _=>rfl)) (pv 1)) Zae) Zae (Zam _)
  case rd=>
  have cp:=Zkv (b+1) ac;refine⟨_,rfl,a,_,rfl,.inl hq,rfl,_,rfl,?_⟩;refine Zcl (fun c=>?_) (fun c=>?_)
  . have c':V.int (ws.length:Int)=V.int 0:=Xaf c;have e:ac=[]:=Xa6 (by injection c' with c';omega);subst e;refine⟨f,rfl,hS.fny,hS.fny,S,_,.int 0,.int 0,_,_,hS,hc.dn cp,rfl,rfl,rfl,fun v H' g i=>q v H' (g.up cp) ?_⟩;rw[Zd9];exact i
  have c':¬ V.int (ws.length:Int)=V.int 0:=Xaj (Bool.eq_false_iff.mpr c);have c2:ac.length≠0:=fun z=>c' (congrArg V.int om);refine⟨_,rfl,a,_,rfl,.inl hq,rfl,_,rfl,?_⟩;refine Zcl (fun c=>?_) (fun c=>?_)
  . have c':V.int (ws.length:Int)=V.int 1:=Xaf c;have h1:ac.length=1:=by injection c' with c';omega
    obtain⟨r,rfl⟩:∃ r,ac=[r]:=List.length_eq_one_iff.mp h1;obtain⟨v,rfl,p,rfl,hp⟩:∃ v,ws=[v]/\RowAt H r v:=by
     cases hw with
     | cons r1 t1=>cases t1;exact⟨_,rfl,r1⟩
    refine⟨f,rfl,hS.fny,_,rfl,a,_,0,_,rfl,rfl,hq,Zan (j:=0) rfl,p,_,0,_,rfl,rfl,.inl (.inl hp),Zan (j:=0) rfl,_,rfl,a,_,0,_,rfl,rfl,hq,Zan (j:=0) rfl,p,_,1,_,rfl,rfl,.inl (.inl hp),Zan (j:=1) rfl,
     hS.fny,S,_,.int r.1,.str r.2,_,_,hS,hc.dn cp,rfl,rfl,rfl,fun v H' g i=>q v H' (g.up cp) ?_⟩
    rw[Zek];exact i
  have c3:¬ V.int (ws.length:Int)=V.int 1:=Xaj (Bool.eq_false_iff.mpr c);have c4:ac.length≠1:=fun z=>c3 (congrArg V.int om);have h2:2<=ac.length:=by omega
  have hcs:=Zf0 (b:=b) h2;have eb:(((b+1:Nat):Int) - 1)=((b:Nat):Int):=by omega
  have hok:=Zo8 (b:=b) om;have ls:∀ sd,(prt ac b sd).length<=1000:=fun sd=>Xan (Xbz _ _) hz;refine⟨_,rfl,_,_,rfl,rfl,_,_,rfl,rfl,⟨om,om,om⟩,?_⟩;dsimp only;rw[Zuw];refine⟨_,rfl,a,rfl,⟨_,hq⟩,?_⟩;refine Zdo (fun r=>decide (Zbc r.1 b=0)) hS.told hq hw om (fun p r H' Qb hp hQ=>?_) fun D0 H0 ws0 g0 n0 e0 r0=>?_
  . refine⟨_,rfl,p,_,0,_,rfl,rfl,.inl (.inl hp),Zan (j:=0) rfl,_,rfl,_,_,rfl,rfl,hok,_,_,rfl,rfl,(by show(0:Int)<2;decide),rfl,_,rfl,?_⟩;rw[Zhg];exact hQ
  have hq0:=g0.sq hq;have hw0:=RowsAt.up hw g0.gn;refine⟨_,rfl,a,rfl,⟨_,hq0⟩,?_⟩;refine Zdo (fun r=>decide (Zbc r.1 b=1)) g0.gn.told2 hq0 hw0 om (fun p r H' Qb hp hQ=>?_) fun D1 H1 ws1 g1 n1 e1 r1=>?_
  . refine⟨_,rfl,p,_,0,_,rfl,rfl,.inl (.inl hp),Zan (j:=0) rfl,_,rfl,_,_,rfl,rfl,hok,_,_,rfl,rfl,(by show(0:Int)<2;decide),rfl,_,rfl,?_⟩;rw[Zhg];exact hQ
  have g01:=g0.trans g1;have hS1:=hS.up g01.gn;refine⟨f,rfl,hS1.fny,_,rfl,_,rfl,_,rfl,_,_,rfl,rfl,?_⟩;dsimp only;rw[eb];refine⟨S,f,D0,ws0,prt ac b 0,rfl,hS1,SqL.of (g1.lst e0),RowsAt.up r0 g1.gn,ls 0,ok.prt 0,hc.go g01.gn om,fun v2 H2 g2 i2=>?_⟩;have g02:=g01.trans g2;refine⟨_,rfl,_,rfl,_,rfl,_,_,rfl,rfl,?_⟩;dsimp only;rw[eb];refine⟨S,f,D1,ws1,prt ac b 1,rfl,hS.up g02.gn,SqL.of (g2.lst e1),RowsAt.up r1 g2.gn,ls 1,ok.prt 1,hc.go g02.gn om,fun v3 H3 g3 i3=>?_⟩;have g03:=g02.trans g3;have hS3:=hS.up g03.gn;refine⟨hS3.fny,S,_,Zgb b (prt ac b 0),Zgb b (prt ac b 1),_,_,hS3,hc.go g03.gn om,rfl,Zaz g3.gn i2,i3,fun v4 H4 g4 i4=>q v4 H4 ((g03.trans g4).up om) ?_⟩;rw[Zh5 h2];exact i4
structure Txt (K:W.Frag)(mg:Str->Option Value)(C:Addr):Prop where
 cl:Cls K C
 nS:NoAttr K C "seal"
 nD:NoAttr K C "depth"
 nH:NoAttr K C "held"
 mgC:mg "Table" = some (.ref C)
noncomputable def fl (f:Addr) (D:Nat) (d:Addr):List (Str×V):=[("seal",.ref f),("depth",.int D),("held",.ref d)]
theorem fl_s (f:Addr)(D:Nat)(d:Addr):(fl f D d).lookup ("seal" : Str)=some (.ref f):=rfl
theorem Zv8 (f:Addr)(D:Nat)(d:Addr):(fl f D d).lookup ("depth" : Str)=some (.int D):=rfl
theorem Zxu (f:Addr)(D:Nat)(d:Addr):(fl f D d).lookup ("held" : Str)=some (.ref d):=rfl
theorem Zxk (f:Addr)(D:Nat)(d:Addr):Zdy "held" (.ref d) (Zdy "depth" (.int D) (Zdy "seal" (.ref f) []))=fl f D d:=by
 have e:Zdy "depth" (.int D) (Zdy "seal" (.ref f) [])=([("seal",.ref f),("depth",.int D)]:List (Str×V)):=by
  show(if ("seal" : Str) = "depth" then _ else(("seal" : Str),V.ref f) :: [(("depth" : Str),V.int D)])=_;rw[if_neg (by decide +kernel)]
 rw[e];show(if ("seal" : Str) = "held" then _ else(("seal" : Str),V.ref f) :: (if ("depth" : Str) = "held" then _ else(("depth" : Str),V.int D) :: [(("held" : Str),V.ref d)]))=_;rw[if_neg (by decide +kernel),if_neg (by decide +kernel)];rfl
theorem fl_2 (f:Addr)(D:Nat):(Zdy "depth" (V.int D) (Zdy "seal" (.ref f) [])).length=2:=by
 have e:Zdy "depth" (.int D) (Zdy "seal" (.ref f) [])=([("seal",.ref f),("depth",.int D)]:List (Str×V)):=by
  show(if ("seal" : Str) = "depth" then _ else(("seal" : Str),V.ref f) :: [(("depth" : Str),V.int D)])=_;rw[if_neg (by decide +kernel)]
 rw[e];rfl
def TabAt (C:Addr)(H:Hp)(x d f:Addr)(D:Nat)(kvs:List (Key×V)):Prop:=(∃ dx,H x=some (.ins C dx (fl f D d)))/\H d=some (.dK kvs)
theorem TabAt.up {C:Addr}{S:Sl}{H H':Hp}{x d f:Addr}{D n:Nat}{kvs:List (Key×V)}(h:TabAt C H x d f D kvs)(g:Gr S n H H'):TabAt C H' x d f D kvs:=by
 obtain⟨⟨dx,h1⟩,h2⟩:=h;exact⟨⟨dx,g.same h1 (fun _ e=>nomatch e)⟩,g.same h2 (fun _ e=>nomatch e)⟩
def spTI (C:Addr):Sp:=fun vs H Q _=>∃ (p dx f:Addr)(D:Nat),vs=[.ref p,.ref f,.int D]/\H p=some (.ins C dx [])/\∀ d H',H d=none->TabAt C H' p d f D []->(∀ b o,H b=some o->b≠p->H' b=some o)->Q .non H'
theorem scTI:Zak ["self","seal","depth"] ["self","seal","depth"] (Zad Zmd):=Zb2
theorem Zsi {f:Addr}{fd:FuncData}(F:FunD K "__init__" "Table.__init__" Zmd f fd [8])(T:Txt K mg C):FnOk P w K mg base CX0 1 f fd ["self","seal","depth"] (spTI C):=by
 refine F.ok scTI (fun vs H Q E h=>?_) (fun ad A outer s H vs Q E hr h=>?_)
 . obtain⟨p,dx,f,D,rfl,_⟩:=h;rfl
 obtain⟨p,dx,f,D,rfl,hp,k⟩:=h;refine⟨_,Zab (Zej (pv 0) (pv 1) rfl) <| Zab (Zej (pv 0) (pv 2) rfl) <| Zar (Zej (pv 0) Zk5 rfl),?_⟩;refine⟨_,rfl,_,rfl,p,C,dx,[],rfl,hp,T.cl,T.nS,(by show 0<1000;decide),?_⟩;refine⟨_,rfl,_,rfl,p,C,dx,_,rfl,Zaa,T.cl,T.nD,(by show 1<1000;decide),?_⟩;intro d hd;have npd:p≠d:=Zac Zaa hd;have hd0:H d=none:=by rw[Zaf npd.symm,Zaf npd.symm] at hd;exact hd
 refine⟨_,rfl,p,C,dx,_,rfl,(by rw[Zaf npd,Zaa]),T.cl,T.nH,(by rw[fl_2];decide),?_⟩;refine k d _ hd0 ⟨⟨dx,?_⟩,?_⟩ fun b o e hb=>?_
 . rw[Zaa,Zxk]
 . rw[Zaf npd.symm,Zaa]
 . have b1:b≠d:=Zac e hd0;rw[Zaf hb,Zaf b1,Zaf hb,Zaf hb];exact e
def Zqk:Sp:=fun vs H Q _=>∃ (k:Int)(D:Nat),vs=[.int k,.int D]/\Q (.bl (decide (0<=k/\k<2 ^ D))) H
theorem scID:Zak ["key","depth"] ["key","depth"] (Zad sInD):=Zb2
theorem Zyv (F:FunAt K mg "in_depth" sInD):FnP P w K mg base 1 "in_depth" ["key","depth"] Zqk:=by
 refine F.ok scID (fun _ _ _ _ _ _=>l2e fun _ _=>rfl) (fun vs H Q E h=>?_) (fun f0 ad A outer s H vs Q E hr h=>?_)
 . obtain⟨k,D,rfl,_⟩:=h;rfl
 obtain⟨k,D,rfl,q⟩:=h;refine⟨_,psr (Zkr (Zfn Zpm (pv 0) Zae (Zam _)) (Zk9 (Zfn Ze5 (Zoy PySem.F.plainAttrs_int PySem.F.slot_int_bit_length PySem.F.type_int_bit_length Zih (pv 0)) (pv 1) (Zam _)))),?_⟩;refine⟨_,rfl,_,_,rfl,rfl,_,rfl,?_⟩;refine Zcl (fun c=>?_) (fun c=>?_)
 . have h0:(0:Int)<=k:=Xaf c;refine⟨_,rfl,rfl,_,rfl,rfl,_,rfl,_,_,rfl,rfl,?_⟩;have e:decide (((Builtin.Int.intBits k:Nat):Int)<=(D:Int))=decide (0<=k/\k<2 ^ D):=by
    rw[decide_eq_decide,Zv1 h0];exact⟨fun z=>⟨h0,z⟩,fun z=>z.2⟩
   show Q (V.bl (decide (((Builtin.Int.intBits k:Nat):Int)<=(D:Int)))) H;rw[e];exact q
 . have h0:¬ (0:Int)<=k:=Xaj (Bool.eq_false_iff.mpr c);rw[Xag (fun z=>h0 z.1)] at q;exact q
def Zwu (C:Addr):Sp:=fun vs H Q _=>∃ (x d f:Addr)(D:Nat)(kvs:List (Key×V))(k:Int),vs=[.ref x,.int k]/\TabAt C H x d f D kvs/\0<=k/\k<2 ^ D/\Q .non H
theorem scCk:Zak ["self","key"] ["self","key"] (Zad Zfk):=Zb2
theorem Zx8 (F:MethAt K C "check" "Table.check" Zfk)(T:Txt K mg C)(Fi:FnP P w K mg base 1 "in_depth" ["key","depth"] Zqk):MtP P w K mg base C 2 "check" ["self","key"] (Zwu C):=by
 refine F.ok scCk (fun _ _ _ _ _ _=>l2e fun _ _=>rfl) (fun vs H Q E h=>?_) (fun f0 ad A outer s H vs Q E hr h=>?_)
 . obtain⟨x,d,f,D,kvs,k,rfl,_⟩:=h;rfl
 obtain⟨x,d,f,D,kvs,k,rfl,⟨⟨dx,h1⟩,h2⟩,k0,k1,q⟩:=h;refine⟨_,Zar (Zat (Zcu (Zcg (Zag Fi hr rfl (pa2 (pv 1) (Za1 (pv 0) rfl))))) Zb3 Zal),?_⟩;refine⟨_,rfl,_,rfl,x,C,dx,_,_,rfl,h1,T.cl,T.nD,Zv8 _ _ _,k,D,rfl,_,rfl,?_⟩;rw[Xah (show 0<=k/\k<2 ^ D from⟨k0,k1⟩)];exact Zby q
theorem scPt:Zak ["self","key","value"] ["self","key","value"] (Zad Zv7):=Zb2
def Zo3 (C:Addr):Sp:=fun vs H Q _=>∃ (S:Sl)(x d f:Addr)(D:Nat)(kvs:List (Key×V))(ac:List Rw),vs=[.ref x]/\TabAt C H x d f D kvs/\Zgn S H/\Rws D kvs/\kvs.length<64/\SrtOf kvs ac/\
 ∀ l ws H',Gr S 0 H H'->H l=none->H' l=some (.lst ws)->RowsAt H' ac ws->Q (.ref l) H'
theorem scRs:Zak ["self"] ["self"] (Zad Zmt):=Zb2
theorem Zx3 {S:Sl}{H H':Hp}(t:Zgn S H)(h:∀ b o,H b=some o->H' b=some o):Gr S 0 H H':=⟨⟨fun b o e _=>h b o e,fun d e=>by
 obtain⟨kvs,q⟩:=t d e;exact⟨kvs,[],q,by rw[Xba];exact h _ _ q,Xae _,fun z=>by simpa using z⟩⟩,fun b o e _=>h b o e⟩
theorem Zpk {H':Hp}:∀ {as:List Addr}{ac:List Rw},Paired (fun a (r:Int×V)=>H' a=some (.tup [.int r.1,r.2])) as (ac.map fun r=>(r.1,V.str r.2))->RowsAt H' ac (as.map V.ref)
 | [],[],.nil=>.nil
 | a :: as,r :: ac,.cons h t=>.cons ⟨a,rfl,h⟩ (Zpk t)
theorem Ztv (F:MethAt K C "rows" "Table.rows" Zmt)(T:Txt K mg C)(ms:mg "sorted" = none):MtP P w K mg base C 1 "rows" ["self"] (Zo3 C):=by
 refine F.ok scRs (fun _ _ _ _ _ _=>l1e fun _=>rfl) (fun vs H Q E h=>?_) (fun f0 ad A outer s H vs Q E hr h=>?_)
 . obtain⟨S,x,d,f,D,kvs,ac,rfl,_⟩:=h;rfl
 obtain⟨S,x,d,f,D,kvs,ac,rfl,⟨⟨dx,h1⟩,h2⟩,ts,hw,hz,hs,q⟩:=h;refine⟨_,psr (Zai (Zip rfl) rfl ms PyProof.Rows.boot_sorted (pa1 (Zoy PySem.F.plainAttrs_dict PySem.F.slot_dict_items PySem.F.type_dict_items Zq9 (Za1 (pv 0) rfl)))),?_⟩;refine⟨_,rfl,x,C,dx,_,_,rfl,h1,T.cl,T.nH,Zxu _ _ _,.inr (.inr (.inl ⟨rfl,.inl ⟨_,h2⟩⟩)),d,kvs,rfl,rfl,h2,fun p hp=>?_⟩;have g1:Gr S 0 H (upd H p (.frz (Zof d) (.own 0))):=.new ts hp;refine⟨p,d,kvs,rfl,Zaa,g1.same h2 (fun _ e=>nomatch e),hw.ints,hz,fun l as rs H' hx hl hl' pr pw pm=>?_⟩;have e:=hs.uniq pw pm;subst e;have g2:Gr S 0 _ H':=Zx3 g1.gn.told2 hx;exact q l _ H' (g1.trans g2) (g1.free hl) hl' (Zpk pr)
def EndAt (H:Hp):List Rw->V->Prop
 | [],v=>v = .non
 | r :: _,v=>RowAt H r v
theorem EndAt.up {S:Sl}{n:Nat}{H H':Hp}{ac:List Rw}{v:V}(h:EndAt H ac v)(g:Gn S n H H'):EndAt H' ac v:=by
 cases ac with
 | nil=>exact h
 | cons r t=>exact RowAt.up h g
def WayAt (S:Sl)(H:Hp)(p r:Addr)(wy:List Tm×List Rw):Prop:=∃ os ev,H p=some (.tup [.ref r,ev])/\H r=some (.lst os)/\Zdc S H wy.1 os/\EndAt H wy.2 ev
def Zsx (K:W.Frag)(mg:Str->Option Value)(C:Addr):Sp:=fun vs H Q _=>∃ (S:Sl)(x d f:Addr)(D:Nat)(kvs:List (Key×V))(ac:List Rw)(k:Int),vs=[.ref x,.int k]/\TabAt C H x d f D kvs/\SealAt K mg Zbe S H f/\Rws D kvs/\kvs.length<64/\SrtOf kvs ac/\D<=16/\
 0<=k/\k<2 ^ D/\Cap S H (wcP D ac k)/\∀ p r H',Gr S (wcP D ac k) H H'->H p=none->H r=none->WayAt S H' p r (Zdh D ac k)->Q (.ref p) H'
theorem scTW:Zak ["self","key","others","rows","bit","side"] ["self","key"] (Zad Zu5):=Zb2
theorem Zv3 (F:MethAt K C "way" "Table.way" Zu5)(T:Txt K mg C)(Fc:MtP P w K mg base C 2 "check" ["self","key"] (Zwu C))(Fr:MtP P w K mg base C 1 "rows" ["self"] (Zo3 C))
 (Ft:FnP P w K mg base 19 "top_of_part" ["seal","rows","bits"] (Zgv K mg))(Fp:FnP P w K mg base 1 "part_of" ["rows","bit","side"] (Zm2 K))(ml:mg "len" = none) :
 MtP P w K mg base C 20 "way" ["self","key"] (Zsx K mg C):=by
 refine F.ok scTW (fun _ _ _ _ _ _=>l2e fun _ _=>rfl) (fun vs H Q E h=>?_) (fun f0 ad A outer s H vs Q E hr h=>?_)
 . obtain⟨S,x,d,f,D,kvs,ac,k,rfl,_⟩:=h;rfl
 obtain⟨S,x,d,f,D,kvs,ac,k,rfl,hT,hS,hw,hz,hs,hD,k0,k1,hc,q⟩:=h;obtain⟨⟨dx,h1⟩,h2⟩:=id hT;have nd:=scTW.nd;refine⟨_,Zab (Za9 (Zq6 Fc (pv 0) T.cl hr.m (pa1 (pv 1)))) <|
  Zab (Zao (i:=2) nd rfl (Or.inl rfl) (Zau Zbl)) <|
  Zab (Zao (i:=3) nd rfl (Or.inl rfl) (Zcn Fr (pv 0) T.cl hr.m)) <|
  Zab (Zao (i:=4) nd rfl (Or.inl rfl) (Za1 (pv 0) rfl)) <|
  Zab (Zg3 PassesOwn.never (Zaj Zmo (Zai Zah rfl ml boot_len (pa1 (pv 3))) Zae (Zam _)) <|
   Zab (Zao (i:=4) nd rfl (Or.inl rfl) (Zas Zb7 (pv 4) Zae)) <|
   Zab (Zao (i:=5) nd rfl (Or.inl rfl) (Zas Zst (Zas Zs1 (pv 1) (pv 4)) Zae)) <|
   Zab (Za9 (Zco Xa1 Xa4 Xa3 Zbp (pv 2) (pa1 (Zag Ft hr rfl (pa3 (Za1 (pv 0) rfl) (Zag Fp hr.m rfl (pa3 (pv 3) (pv 4) (Zas Zb7 Zae (pv 5)))) (pv 4)))))) <|
   Zar (Zao (i:=3) nd rfl (Or.inl rfl) (Zag Fp hr.m rfl (pa3 (pv 3) (pv 4) (pv 5))))) <|
  Zab (Zat (Zaj Za2 (Zai Zah rfl ml boot_len (pa1 (pv 3))) Zae (Zam _)) (psr (Zbw (pa2 (pv 2) Zdl))) Zal) <|
  psr (Zbw (pa2 (pv 2) (Zaw Zax (pv 3) Zae (fun _ _=>rfl)))),?_⟩
 refine⟨_,rfl,x,dx,_,rfl,h1,rfl,_,rfl,x,d,f,D,kvs,k,rfl,hT,k0,k1,?_⟩;refine⟨(sl0),fun r hr0=>?_⟩;have g1:Gr S 0 H (upd H r (.lst [])):=.new hS.told hr0;have hT1:=hT.up g1;obtain⟨⟨dx1,a1⟩,a2⟩:=id hT1;refine⟨_,rfl,x,dx1,_,rfl,a1,rfl,S,x,d,f,D,kvs,ac,rfl,hT1,g1.gn.told2,hw,hz,hs,fun l ws H1 g2 nl el rl=>?_⟩;have g12:=g1.trans g2;have hT2:=hT.up g12;obtain⟨⟨dx2,b1⟩,b2⟩:=id hT2;refine⟨_,rfl,x,C,dx2,_,_,rfl,b1,T.cl,T.nD,Zv8 _ _ _,?_⟩;have nrl:l≠r:=by rintro rfl;rw[Zaa] at nl;cases nl
 have lrows:=hs.len;refine Zhy (fun σ H'=>∃ (b n:Nat) (a:Addr) (ws:List V) (rws:List Rw) (ts:List Tm) (os:List V) (o5:Option V),σ=[some (.ref x),some (.int k),some (.ref r),some (.ref a),some (.int b),o5]/\b<=D/\Gr S n H H'/\n+wcP b rws k<=wcP D ac k/\
  H' a=some (.lst ws)/\a≠r/\RowsAt H' rws ws/\OKR b rws/\rws.length<=1000/\H' r=some (.lst os)/\Zdc S H' ts os/\ts++(Zdh b rws k).1=(Zdh D ac k).1/\(Zdh b rws k).2=(Zdh D ac k).2)
  (fun σ _=>match σ with | [_,_,_,_,some (.int b),_]=>b.toNat | _=>0) ⟨D,0,l,ws,ac,[],[],none,rfl,Xae _,g12.up om,om,el,nrl,rl,hs.okr hw,om,g2.lst Zaa,.nil,rfl,rfl⟩ ?_ ?_
 . rintro σ H' ⟨b,n,a,ws,rws,ts,os,o5,rfl,hb,g,hn,ha,nar,ra,ok,ai,hro,it,e1,e2⟩;have hl:=Za0 ra;refine⟨_,rfl,a,ws,rfl,.inl (SqL.of ha),_,_,rfl,rfl,_,rfl,?_⟩;refine Zcl (fun c=>?_) (fun c=>?_)
   . have c':(1:Int)<(ws.length:Int):=Xaf c;have h2':2<=rws.length:=by omega
     obtain⟨b',rfl⟩:∃ b',b=b'+1:=by
      cases b with
      | zero=>have:=ok.zero;omega
      | succ b'=>exact⟨b',rfl⟩
     rw[Zhp h2'] at hn;rw[Zem h2'] at e1 e2;have eb:(((b'+1:Nat):Int) - 1)=((b':Nat):Int):=by omega
     refine⟨_,rfl,_,_,rfl,rfl,?_⟩;dsimp only;rw[eb];refine⟨_,rfl,_,rfl,_,_,rfl,rfl,(by show(0:Int)<=(b':Int);omega),_,_,rfl,rfl,?_⟩;dsimp only;rw[bit1];have hS':=hS.up g.gn;obtain⟨⟨dx3,c1⟩,c2⟩:=id (hT.up g);have ls:∀ sd,(prt rws b' sd).length<=1000:=fun sd=>Xan (Xbz _ _) ai;refine⟨_,rfl,.inl ⟨rfl,_,SqL.of hro⟩,_,rfl,x,C,dx3,_,_,rfl,c1,T.cl,T.nS,fl_s _ _ _,_,rfl,_,rfl,_,rfl,_,_,rfl,rfl,S,a,ws,rws,b',1 - Zbc k b',rfl,g.gn.told2,SqL.of ha,ra,ai,fun D1 H1 ws1 g1 n1 l1 r1=>⟨_,rfl,?_⟩⟩;have gg1:=g.trans g1;refine⟨b',om,S,f,D1,ws1,prt rws b' (1 - Zbc k b'),rfl,hS.up gg1.gn,SqL.of l1,r1,ls _,ok.prt _,hc.go gg1.gn om,fun v2 H2 g2 i2=>?_⟩;have gg2:=gg1.trans g2;have g12':=g1.trans g2;have hro2:=g12'.lst hro;have los:=Za0 it;have lts:ts.length<=16:=by
      have z:=congrArg List.length e1;rw[Xay] at z;have:=Zg7 D ac k;omega
     refine⟨r,os,v2,rfl,rfl,hro2,by rw[Xam];omega,?_⟩;have g3:Gn S 0 H2 (upd H2 r (.lst (os++[v2]))):=Gn.chg g2.gn.told2 hro2 rfl (fun _ e=>nomatch e);have gg3:Gr S _ H (upd H2 r (.lst (os++[v2]))):=gg2.own hr0;have ha3:upd H2 r (.lst (os++[v2])) a=some (.lst ws):=by rw[Zaf nar];exact g12'.lst ha
     refine⟨_,rfl,_,rfl,_,rfl,S,a,ws,rws,b',Zbc k b',rfl,gg3.gn.told2,SqL.of ha3,RowsAt.up (RowsAt.up ra g12'.gn) g3,ai,fun D4 H4 ws4 g4 n4 l4 r4=>?_⟩;have gg4:=gg3.trans g4;refine⟨⟨b',_,D4,ws4,prt rws b' (Zbc k b'),ts++[Zgb b' (prt rws b' (1 - Zbc k b'))],os++[v2],_,rfl,om,gg4,om,l4,?_,r4,ok.prt _,ls _,g4.lst Zaa,?_,?_,e2⟩,?_⟩
     . rintro rfl;rw[Zaa] at n4;cases n4
     . exact Zap g4.gn (Zdp (Zap g3 (Zap g12'.gn it)) (.cons (Zaz g3 i2) .nil))
     . rw[List.append_assoc];exact e1
     . show((b':Nat):Int).toNat<(((b'+1:Nat)):Int).toNat;omega
   . have c':¬ (1:Int)<(ws.length:Int):=Xaj (Bool.eq_false_iff.mpr c);rw[Zfa (show rws.length<=1 by omega)] at e1 e2;have e1:ts=(Zdh D ac k).1:=by simpa using e1
     have e2:rws=(Zdh D ac k).2:=e2;have fin:∀ (p:Addr) (ev:V),H' p=none->EndAt H' rws ev->Q (.ref p) (upd H' p (.tup [.ref r,ev])):=fun p ev hp he=>by
      have g5:Gr S 0 H' (upd H' p (.tup [.ref r,ev])):=.new g.gn.told2 hp;refine q p r _ ((g.trans g5).up om) (g.free hp) hr0 ⟨os,ev,Zaa,g5.lst hro,?_,?_⟩
      . rw[<- e1];exact Zap g5.gn it
      . rw[<- e2];exact he.up g5.gn
     refine⟨_,rfl,a,ws,rfl,.inl (SqL.of ha),rfl,_,rfl,?_⟩;refine Zcl (fun c=>?_) (fun c=>?_)
     . have c2:V.int (ws.length:Int)=V.int 0:=Xaf c;have e:rws=[]:=Xa6 (by injection c2 with c2;omega);refine⟨_,rfl,(sl2),fun p hp=>fin p .non hp ?_⟩;rw[e];rfl
     . have c2:¬ V.int (ws.length:Int)=V.int 0:=Xaj (Bool.eq_false_iff.mpr c);have c3:ws.length≠0:=fun z=>c2 (congrArg V.int om);obtain⟨rw0,er⟩:∃ r0,rws=[r0]:=List.length_eq_one_iff.mp om;subst er;obtain⟨v,ew,hv⟩:∃ v,ws=[v]/\RowAt H' rw0 v:=by
        cases ra with
        | cons r1 t1=>cases t1;exact⟨_,rfl,r1⟩
       subst ew;exact⟨_,rfl,_,rfl,a,_,0,_,rfl,rfl,SqL.of ha,Zan (j:=0) rfl,(sl2),fun p hp=>fin p v hp hv⟩
 . rintro σ H' Q1 Q2 hq ⟨v,e1,a,w2,e2,e3,i,j,e4,e5,c,e6,z⟩;exact⟨v,e1,a,w2,e2,e3,i,j,e4,e5,c,e6,hq _ _ z⟩
def Zsw (K:W.Frag)(mg:Str->Option Value):Sp:=fun vs H Q _=>∃ (S:Sl)(f a:Addr)(ws:List V)(D:Nat)(ac:List Rw)(k:Int),vs=[.ref f,.ref a,.int D,.int k]/\SealAt K mg Zbe S H f/\H a=some (.lst ws)/\RowsAt H ac ws/\ac.length<=1000/\OKR D ac/\D<=16/\
 Cap S H (wcP D ac k)/\∀ p r H',Gr S (wcP D ac k) H H'->H p=none->H r=none->WayAt S H' p r (Zdh D ac k)->Q (.ref p) H'
theorem scLW:Zak ["_law_seal","_law_rows","_law_depth","_law_key","_law_others","_law_level","_law_half"] ["_law_seal","_law_rows","_law_depth","_law_key"] (Zad Zmj):=Zb2
theorem Zvf (F:FunAt K mg "_law_way" Zmj)(Ft:FnP P w K mg base 19 "_law_part" ["_law_seal","_law_rows","_law_level"] (Zgv K mg))(ml:mg "len" = none) :
 FnP P w K mg base 20 "_law_way" ["_law_seal","_law_rows","_law_depth","_law_key"] (Zsw K mg):=by
 refine F.ok scLW (fun _ _ _ _ _ _=>l4e fun _ _ _ _=>rfl) (fun vs H Q E h=>?_) (fun f0 ad A outer s H vs Q E hr h=>?_)
 . obtain⟨S,f,a,ws,D,ac,k,rfl,_⟩:=h;rfl
 obtain⟨S,f,a0,ws0,D,ac,k,rfl,hS,ha0,ra0,hlen0,ok0,hD,hc,q⟩:=h;have nd:=scLW.nd;have hun:=hr.un;refine' ⟨_,Zab (Zao (i:=4) nd rfl (Or.inl rfl) (Zau Zbl)) <|
  Zab (Zao (i:=5) nd rfl (Or.inl rfl) (pv 2)) <|
  Zab (Zg3 PassesOwn.never (Zaj Zmo (Zai Zah rfl ml boot_len (pa1 (pv 1))) Zae (Zam _)) <|
   Zab (Zao (i:=5) nd rfl (Or.inl rfl) (Zas Zb7 (pv 5) Zae)) <|
   Zab (Zao (i:=6) nd rfl (Or.inr rfl) (Zas Zgg Zae (pv 5))) <|
   Zab (Za9 (Zco Xa1 Xa4 Xa3 Zbp (pv 4) (pa1 (Zag Ft hr rfl (pa3 (pv 0) (Zet (ys:=["_law_half","_law_key"]) (js:=[6,3]) ?ok1 (Zcz (pv 1)) (fun _ _ _=>Zfj ?ht1) (fun _ _ _=>pv 0)) (pv 5)))))) <|
   Zar (Zcj (iz:=1) (ys:=["_law_half","_law_key"]) (js:=[6,3]) ?ok2 (Zcz (pv 1)) (fun _ _ _=>Zfj ?ht2) (fun _ _ _=>pv 0) nd rfl (Or.inl rfl) (Or.inl rfl) rfl)) <|
  Zab (Zat (Zaj Zuk (pv 1) (Zau Zbl) (Zam _)) (psr (Zbw (pa2 (pv 4) Zdl))) Zal) <|
  psr (Zbw (pa2 (pv 4) (Zaw Zax (pv 1) Zae (fun _ _=>rfl)))),?rd⟩
 case ok1=>
  refine⟨rfl,rfl,rfl,by decide +kernel,by decide +kernel,rfl,by decide +kernel,fun _ _ h=>Zft (by decide +kernel) h,rfl,fun i y h=>?_,rfl⟩
  match i,h with
  | 0,h=>simp at h;subst h;exact⟨6,rfl,rfl,rfl,rfl⟩
  | 1,h=>simp at h;subst h;exact⟨3,rfl,rfl,rfl,rfl⟩
  | i+2,h=>simp at h
 case ok2=>
  refine⟨rfl,rfl,rfl,by decide +kernel,by decide +kernel,rfl,by decide +kernel,fun _ _ h=>Zft (by decide +kernel) h,rfl,fun i y h=>?_,rfl⟩
  match i,h with
  | 0,h=>simp at h;subst h;exact⟨6,rfl,rfl,rfl,rfl⟩
  | 1,h=>simp at h;subst h;exact⟨3,rfl,rfl,rfl,rfl⟩
  | i+2,h=>simp at h
 case ht1=>exact Zaj Zuu (Zas Zc4 (Zas Zd5 (Zaw (Zds K rfl) (pv 0) Zae (fun _ _=>rfl)) (pv 1)) Zae) (Zas Zc4 (Zas Zd5 (pv 2) (pv 1)) Zae) (Zam _)
 case ht2=>exact Zaj Za2 (Zas Zc4 (Zas Zd5 (Zaw (Zds K rfl) (pv 0) Zae (fun _ _=>rfl)) (pv 1)) Zae) (Zas Zc4 (Zas Zd5 (pv 2) (pv 1)) Zae) (Zam _)
 case rd=>
 refine⟨(sl0),fun r hr0=>?_⟩;have g1:Gr S 0 H (upd H r (.lst [])):=.new hS.told hr0;have nrl:a0≠r:=Zac ha0 hr0;refine⟨_,rfl,?_⟩;refine Zhy (fun σ H'=>∃ (b n:Nat) (a:Addr) (ws:List V) (rws:List Rw) (ts:List Tm) (os:List V) (o6:Option V),σ=[some (.ref f),some (.ref a),some (.int D),some (.int k),some (.ref r),some (.int b),o6]/\b<=D/\Gr S n H H'/\n+wcP b rws k<=wcP D ac k/\
  H' a=some (.lst ws)/\a≠r/\RowsAt H' rws ws/\OKR b rws/\rws.length<=1000/\H' r=some (.lst os)/\Zdc S H' ts os/\ts++(Zdh b rws k).1=(Zdh D ac k).1/\(Zdh b rws k).2=(Zdh D ac k).2)
  (fun σ _=>match σ with | [_,_,_,_,_,some (.int b),_]=>b.toNat | _=>0) ⟨D,0,a0,ws0,ac,[],[],none,rfl,Xae _,g1,om,g1.lst ha0,nrl,RowsAt.up ra0 g1.gn,ok0,hlen0,Zaa,.nil,rfl,rfl⟩ ?_ ?_
 . rintro σ H' ⟨b,n,a,ws,rws,ts,os,o6,rfl,hb,g,hn,ha,nar,ra,ok,ai,hro,it,e1,e2⟩;have hl:=Za0 ra;refine⟨_,rfl,a,ws,rfl,.inl (SqL.of ha),_,_,rfl,rfl,_,rfl,?_⟩;refine Zcl (fun c=>?_) (fun c=>?_)
   . have c':(1:Int)<(ws.length:Int):=Xaf c;have h2':2<=rws.length:=by omega
     obtain⟨b',rfl⟩:∃ b',b=b'+1:=by
      cases b with
      | zero=>have:=ok.zero;omega
      | succ b'=>exact⟨b',rfl⟩
     rw[Zhp h2'] at hn;rw[Zem h2'] at e1 e2;have eb:(((b'+1:Nat):Int) - 1)=((b':Nat):Int):=by omega
     have hok:=Zo8 (b:=b') om;refine⟨_,rfl,_,_,rfl,rfl,?_⟩;dsimp only;rw[eb];refine⟨_,rfl,_,_,rfl,rfl,⟨om,om,om⟩,?_⟩;dsimp only;rw[show(1:Int) * 2 ^ ((b':Nat):Int).toNat=2 ^ b' by rw[Int.one_mul];rfl];have hS':=hS.up g.gn;have ls:∀ sd,(prt rws b' sd).length<=1000:=fun sd=>Xan (Xbz _ _) ai;refine⟨_,rfl,.inl ⟨rfl,_,SqL.of hro⟩,_,rfl,_,rfl,a,rfl,⟨_,SqL.of ha⟩,?_⟩;refine Zdo (fun r=>!decide (Zbc r.1 b'=Zbc k b')) g.gn.told2 (SqL.of ha) ra om (fun p r H' Qb hp hQ=>?_) fun D1 H1 ws1 g1 n1 l1 r1=>?_
     . refine⟨_,rfl,p,_,0,_,rfl,rfl,.inl (.inl hp),Zan (j:=0) rfl,_,rfl,_,_,rfl,rfl,hok,_,_,rfl,rfl,(by show(0:Int)<2;decide),_,rfl,_,rfl,_,_,rfl,rfl,hok,_,_,rfl,rfl,(by show(0:Int)<2;decide),rfl,_,rfl,?_⟩;rw[Zhg];exact hQ
     rw[Zya] at r1;have gg1:=g.trans g1;refine⟨_,rfl,b',om,S,f,D1,ws1,prt rws b' (1 - Zbc k b'),rfl,hS.up gg1.gn,SqL.of l1,r1,ls _,ok.prt _,hc.go gg1.gn om,fun v2 H2 g2 i2=>?_⟩;have gg2:=gg1.trans g2;have g12':=g1.trans g2;have hro2:=g12'.lst hro;have los:=Za0 it;have lts:ts.length<=16:=by
      have z:=congrArg List.length e1;rw[Xay] at z;have:=Zg7 D ac k;omega
     refine⟨r,os,v2,rfl,rfl,hro2,by rw[Xam];omega,?_⟩;have g3:Gn S 0 H2 (upd H2 r (.lst (os++[v2]))):=Gn.chg g2.gn.told2 hro2 rfl (fun _ e=>nomatch e);have gg3:Gr S _ H (upd H2 r (.lst (os++[v2]))):=gg2.own hr0;have ha3:upd H2 r (.lst (os++[v2])) a=some (.lst ws):=by rw[Zaf nar];exact g12'.lst ha
     refine⟨_,rfl,a,rfl,⟨_,SqL.of ha3⟩,?_⟩;refine Zdo (fun r=>decide (Zbc r.1 b'=Zbc k b')) gg3.gn.told2 (SqL.of ha3) (RowsAt.up (RowsAt.up ra g12'.gn) g3) om (fun p r H' Qb hp hQ=>?_) fun D4 H4 ws4 g4 n4 l4 r4=>?_
     . refine⟨_,rfl,p,_,0,_,rfl,rfl,.inl (.inl hp),Zan (j:=0) rfl,_,rfl,_,_,rfl,rfl,hok,_,_,rfl,rfl,(by show(0:Int)<2;decide),_,rfl,_,rfl,_,_,rfl,rfl,hok,_,_,rfl,rfl,(by show(0:Int)<2;decide),rfl,_,rfl,?_⟩;rw[Zhg];exact hQ
     have gg4:=gg3.trans g4;refine⟨⟨b',_,D4,ws4,prt rws b' (Zbc k b'),ts++[Zgb b' (prt rws b' (1 - Zbc k b'))],os++[v2],_,rfl,om,gg4,om,l4,?_,r4,ok.prt _,ls _,g4.lst Zaa,?_,?_,e2⟩,?_⟩
     . rintro rfl;rw[Zaa] at n4;cases n4
     . exact Zap g4.gn (Zdp (Zap g3 (Zap g12'.gn it)) (.cons (Zaz g3 i2) .nil))
     . rw[List.append_assoc];exact e1
     . show((b':Nat):Int).toNat<(((b'+1:Nat)):Int).toNat;omega
   . have c':¬ (1:Int)<(ws.length:Int):=Xaj (Bool.eq_false_iff.mpr c);rw[Zfa (show rws.length<=1 by omega)] at e1 e2;have e1:ts=(Zdh D ac k).1:=by simpa using e1
     have e2:rws=(Zdh D ac k).2:=e2;refine⟨_,rfl,(sl0),fun p0 hp0=>?_⟩;have g6:Gr S 0 H' (upd H' p0 (.lst [])):=.new g.gn.told2 hp0;have fin:∀ (p:Addr) (ev:V),upd H' p0 (.lst []) p=none->EndAt H' rws ev->Q (.ref p) (upd (upd H' p0 (.lst [])) p (.tup [.ref r,ev])):=fun p ev hp he=>by
      have g5:Gr S 0 _ (upd (upd H' p0 (.lst [])) p (.tup [.ref r,ev])):=.new g6.gn.told2 hp;have g56:=g6.trans g5;refine q p r _ ((g.trans g56).up om) ((g.trans g6).free hp) hr0 ⟨os,ev,Zaa,g56.lst hro,?_,?_⟩
      . rw[<- e1];exact Zap g56.gn it
      . rw[<- e2];exact he.up g56.gn
     refine⟨a,p0,ws,[],rfl,rfl,SqL.of (g6.lst ha),SqL.of Zaa,?_,?_⟩
     . show(A.deeper (PyProof.Rows.envOfC "_law_way" (Zad Zmj) s.heap.objs.size f0 ad)).units+1<cLine;omega
     match ws,ra with
     | [],.nil=>
      refine .inr ⟨0,rfl,fun i u v h=>by simp at h,?_,_,rfl,?_⟩
      . show(A.deeper (PyProof.Rows.envOfC "_law_way" (Zad Zmj) s.heap.objs.size f0 ad)).units+0+1<cLine;omega
      refine Zbz ?_;exact⟨_,rfl,(sl2),fun p hp=>fin p .non hp rfl⟩
     | v :: t,.cons hv ht=>
      refine .inl ⟨by simp,_,rfl,?_⟩;refine Zby ?_;exact⟨_,rfl,_,rfl,a,_,0,_,rfl,rfl,SqL.of (g6.lst ha),Zan (j:=0) rfl,(sl2),fun p hp=>fin p v hp hv⟩
 . rintro σ H' Q1 Q2 hq ⟨v,e1,a,w2,e2,e3,i,j,e4,e5,c,e6,z⟩;exact⟨v,e1,a,w2,e2,e3,i,j,e4,e5,c,e6,hq _ _ z⟩
theorem Zgk {X:Cx}:Zd8 X (.type "dict") (fun xs H Q=>∃ a kvs,xs=[.ref a]/\H a=some (.dK kvs)/\∀ p,H p=none->Q (.ref p) (upd H p (.dK kvs))):=by
 intro aa s σ H xs us Q I r h;obtain⟨a,kvs,rfl,ha,q⟩:=h;obtain⟨u,rfl,ru⟩:=Zd7 r;obtain rfl:u=Value.ref a:=ru;exact Zrx I (.inl ha) fun p s' hp I'=>⟨.ref p,_,I',rfl,q p hp⟩
theorem fl_h2 (f:Addr)(D:Nat)(d e:Addr):Zdy "held" (.ref e) (fl f D d)=fl f D e:=by
 show(if ("seal" : Str) = "held" then _ else(("seal" : Str),V.ref f) :: (if ("depth" : Str) = "held" then _ else(("depth" : Str),V.int D) :: (if ("held" : Str) = "held" then(("held" : Str),V.ref e) :: [] else _)))=_;rw[if_neg (by decide +kernel),if_neg (by decide +kernel),if_pos rfl];rfl
theorem scTS:Zak ["seal","depth","top"] ["seal","depth","top"] (Zad Zsg):=Zb2
theorem Ztz (F:FunAt K mg "table_seal" Zsg)(Fl:Zch P w K mg base CX0 1 (Zc9 K mg Zbe)):FnP P w K mg base 2 "table_seal" ["seal","depth","top"] (Zd1 K mg "table"):=by
 refine F.ok scTS (fun _ _ _ _ _ _=>l3e fun _ _ _=>rfl) (fun vs H Q E h=>?_) (fun f ad A outer s H vs Q E hr h=>?_)
 . obtain⟨S,f,t1,t2,v1,v2,rfl,_⟩:=h;rfl
 obtain⟨S,f,t1,t2,v1,v2,rfl,hS,hc,i1,i2,q⟩:=h;refine⟨_,psr (Zbd (i:=0) Fl hr Zb6 rfl (Or.inl rfl) (pa3 Zav (pv 1) (pv 2))),?_⟩;exact⟨f,rfl,hS.fny,_,rfl,_,rfl,hS.fny,S,_,t1,t2,_,_,hS,hc,rfl,i1,i2,q⟩
noncomputable abbrev tbT (D:Nat) (ac:List Rw):Tm:=.nd "table" (.int (D:Int)) (Zgb D ac)
def Zjx (K:W.Frag)(mg:Str->Option Value)(C:Addr):Sp:=fun vs H Q _=>∃ (S:Sl)(x d f:Addr)(D:Nat)(kvs:List (Key×V))(ac:List Rw),vs=[.ref x]/\TabAt C H x d f D kvs/\SealAt K mg Zbe S H f/\Rws D kvs/\kvs.length<64/\SrtOf kvs ac/\D<=16/\Cap S H (Zgd D ac+1)/\
 ∀ v H',Gr S (Zgd D ac+1) H H'->isT S H' (tbT D ac) v->Q v H'
theorem scTH:Zak ["self"] ["self"] (Zad Zlv):=Zb2
theorem Zq2 (F:MethAt K C "head" "Table.head" Zlv)(T:Txt K mg C)(Fs:FnP P w K mg base 2 "table_seal" ["seal","depth","top"] (Zd1 K mg "table"))(Ft:FnP P w K mg base 19 "top_of_part" ["seal","rows","bits"] (Zgv K mg))(Mr:MtP P w K mg base C 1 "rows" ["self"] (Zo3 C)):MtP P w K mg base C 20 "head" ["self"] (Zjx K mg C):=by
 refine F.ok scTH (fun _ _ _ _ _ _=>l1e fun _=>rfl) (fun vs H Q E h=>?_) (fun f0 ad A outer s H vs Q E hr h=>?_)
 . obtain⟨S,x,d,f,D,kvs,ac,rfl,_⟩:=h;rfl
 obtain⟨S,x,d,f,D,kvs,ac,rfl,hT,hS,hw,hz,hs,D16,hc,q⟩:=h;obtain⟨⟨dx,h1⟩,h2⟩:=id hT;refine⟨_,psr (Zag Fs hr.m rfl (pa3 (Za1 (pv 0) rfl) (Za1 (pv 0) rfl) (Zag Ft hr rfl (pa3 (Za1 (pv 0) rfl) (Zcn Mr (pv 0) T.cl hr.m) (Za1 (pv 0) rfl))))),?_⟩;refine⟨_,rfl,x,C,dx,_,_,rfl,h1,T.cl,T.nS,fl_s _ _ _,_,rfl,x,C,dx,_,_,rfl,h1,T.cl,T.nD,Zv8 _ _ _,_,rfl,x,C,dx,_,_,rfl,h1,T.cl,T.nS,fl_s _ _ _,_,rfl,x,dx,_,rfl,h1,rfl,?_⟩;refine⟨S,x,d,f,D,kvs,ac,rfl,hT,hS.told,hw,hz,hs,fun l ws H1 g1 nl el rl=>?_⟩;have h11:=g1.same h1 (fun _ e=>nomatch e);refine⟨_,rfl,x,C,dx,_,_,rfl,h11,T.cl,T.nD,Zv8 _ _ _,D,D16,S,f,l,ws,ac,rfl,hS.up g1.gn,SqL.of el,rl,?_,hs.okr hw,hc.go g1.gn om,fun v H2 g2 i2=>?_⟩
 . have:=hs.len;omega
 have g12:=g1.trans g2;exact⟨S,f,.int (D:Int),_,_,_,rfl,hS.up g12.gn,hc.go g12.gn om,rfl,i2,fun v3 H3 g3 i3=>q v3 H3 ((g12.trans g3).up om) i3⟩
def Zs9 (C:Addr):Sp:=fun vs H Q _=>∃ (x d f:Addr)(D:Nat)(kvs:List (Key×V)),vs=[.ref x]/\TabAt C H x d f D kvs/\∀ y e H',TabAt C H' y e f D kvs->(∀ b o,H b=some o->H' b=some o)->H y=none->H e=none->Q (.ref y) H'
theorem scTw:Zak ["self","other"] ["self"] (Zad Zm0):=Zb2
theorem Zut {fI:Addr}{fdI:FuncData}(F:MethAt K C "twin" "Table.twin" Zm0)(T:Txt K mg C)(M:Mk K C fI)(GI:FnOk P w K mg base CX0 1 fI fdI ["self","seal","depth"] (spTI C))(bI:Binds K fdI ["self","seal","depth"] [])(md:mg "dict" = none):MtP P w K mg base C 3 "twin" ["self"] (Zs9 C):=by
 refine F.ok scTw (fun _ _ _ _ _ _=>l1e fun _=>rfl) (fun vs H Q E h=>?_) (fun f0 ad A outer s H vs Q E hr h=>?_)
 . obtain⟨x,d,f,D,kvs,rfl,_⟩:=h;rfl
 obtain⟨x,d,f,D,kvs,rfl,⟨⟨dx,h1⟩,h2⟩,q⟩:=h;have nd:=scTw.nd;refine⟨_,Zab (Zao (i:=1) nd rfl (Or.inl rfl) (Zg4 M GI hr rfl T.mgC bI .nil Zb6 (pa2 (Za1 (pv 0) rfl) (Za1 (pv 0) rfl)))) <|
  Zab (Zej (pv 1) (Zdk Zgk rfl md PyProof.Rows.boot_dict (pa1 (Za1 (pv 0) rfl))) rfl) <|
  psr (pv 1),?_⟩
 refine⟨_,rfl,x,C,dx,_,_,rfl,h1,T.cl,T.nS,fl_s _ _ _,_,rfl,x,C,dx,_,_,rfl,h1,T.cl,T.nD,Zv8 _ _ _,fun y dy ny ndy ney=>⟨y,dy,f,D,rfl,Zaa,fun e0 H1 ne0 T1 k1=>⟨rfl,?_⟩⟩⟩;have all1:∀ b o,H b=some o->H1 b=some o:=fun b o h=>k1 b o (by rw[Zaf (Zac h ny),Zaf (Zac h ndy)];exact h) (Zac h ny);obtain⟨⟨dy1,hy1⟩,he1⟩:=T1;refine⟨_,rfl,x,C,dx,_,_,rfl,all1 _ _ h1,T.cl,T.nH,Zxu _ _ _,d,kvs,rfl,all1 _ _ h2,fun e he=>?_⟩;have nye:y≠e:=Zac hy1 he;have hy2:upd H1 e (.dK kvs) y=some (.ins C dy1 (fl f D e0)):=by rw[Zaf nye];exact hy1
 refine⟨_,rfl,y,C,dy1,_,rfl,hy2,T.cl,T.nH,(by show 3<1000;decide),?_⟩;have hHe:H e=none:=by
  cases z:H e with
  | none=>rfl
  | some o=>rw[all1 _ _ z] at he;cases he
 refine⟨_,rfl,q y e _ ⟨⟨dy1,?_⟩,?_⟩ (fun b o hb=>?_) ny hHe⟩
 . rw[Zaa,fl_h2]
 . rw[Zaf nye.symm,Zaa]
 . rw[Zaf (Zac hb ny),Zaf (Zac hb hHe)];exact all1 _ _ hb
def Zez:Sp:=fun vs H Q _=>∃ c k m:Int,vs=[.int c,.int k,.int m]/\0<=k/\0<m/\∀ (v:Int) H',0<=v->v<m->(∀ b o,H b=some o->H' b=some o)->Q (.int v) H'
theorem scDr:Zak ["_law_cell","_law_k","_law_many","_law_primes"] ["_law_cell","_law_k","_law_many"] (Zad Zjv):=Zb2
noncomputable def Ze1:List Int:=[1000003,1000033,1000037,1000039,1000081,1000099,1000117,1000121,1000133,1000151,1000159,1000171,1000183,1000187,1000193,1000199]
theorem Zl2 {j:Nat}{p:Int}(h:Ze1[j]? = some p):0<p:=by
 have key:∀ p∈Ze1,0<p:=by decide
 exact key p (Xa7 h)
noncomputable def drA:Stmt:=(Zaq Zjv).getD 0 (.Pass ⟨0,0,0,0⟩)
noncomputable def drB:Stmt:=(Zaq Zjv).getD 1 (.Pass ⟨0,0,0,0⟩)
theorem dr_eq:Zaq Zjv=[drA,drB]:=rfl
theorem dr_A:∃ es x1 p1 p2 p3,drA = .Assign [.Name "_law_primes" p1] (.Tuple es x1 p2) p3/\Zp0 es Ze1:=
 ⟨_,_,_,_,_,rfl,.cons (.cons (.cons (.cons (.cons (.cons (.cons (.cons (.cons (.cons (.cons (.cons (.cons (.cons (.cons (.cons .nil)))))))))))))))⟩
theorem Zv2 (F:FunAt K mg "_law_draw" Zjv):FnP P w K mg base 1 "_law_draw" ["_law_cell","_law_k","_law_many"] Zez:=by
 refine F.ok scDr (fun _ _ _ _ _ _=>l3e fun _ _ _=>rfl) (fun vs H Q E h=>?_) (fun f0 ad A outer s H vs Q E hr h=>?_)
 . obtain⟨c,k,m,rfl,_⟩:=h;rfl
 obtain⟨c,k,m,rfl,hk,hm,q⟩:=h;have nd:=scDr.nd;obtain⟨es,x1,p1,p2,p3,eA,hes⟩:=dr_A;rw[dr_eq,eA];refine⟨_,Zab (Zao (i:=3) nd rfl (Or.inl rfl) (Zbw (Ztq hes))) <|
  psr (Zas Zc4 (Zas Zc4 (Zas Zcv (Zas Zfi (pv 0) Zae) (Zas Zfi (pv 1) Zae)) (Zaw Za7 (pv 3) (Zas Zc4 (pv 1) Zae) (fun _ _=>rfl))) (pv 2)),?_⟩
 refine⟨(by show 16<=sizeLine;decide),fun p hp=>?_⟩;have hj:(k % 16).toNat<Ze1.length:=by show(k % 16).toNat<16;omega
 obtain⟨pr,epr⟩:∃ pr,Ze1[(k % 16).toNat]? = some pr:=⟨_,Xab hj⟩
 have hpr:=Zl2 epr;have eat:atI (Ze1.map V.int) (k % 16)=some (.int pr):=by
  have z:atI (Ze1.map V.int) (((k % 16).toNat:Nat):Int)=some (.int pr):=Zan (by rw[Xas,epr];rfl);rw[show(((k % 16).toNat:Nat):Int)=k % 16 by omega] at z;exact z
 refine⟨_,rfl,_,_,rfl,rfl,.inr ⟨by decide,om⟩,_,rfl,_,_,rfl,rfl,.inr ⟨by decide,om⟩,_,_,rfl,rfl,_,rfl,_,rfl,_,_,rfl,rfl,(by show(0:Int)<16;decide),p,Ze1.map V.int,_,_,rfl,rfl,.inl (.inl Zaa),eat,_,_,rfl,rfl,hpr,_,rfl,_,_,rfl,rfl,hm,?_⟩;exact q _ _ (Int.emod_nonneg _ om) (Int.emod_lt_of_pos _ hm) fun b o e=>by rw[Zaf (Zac e hp)];exact e
def SqF (K:W.Frag)(H:Hp)(a:Addr)(xs:List V):Prop:=(∃ o,H a=some (.frz o (.lst xs)))\/∀ H',SqL K H' a xs
theorem SqF.sq {K:W.Frag}{H:Hp}{a:Addr}{xs:List V}(h:SqF K H a xs):SqL K H a xs:=by
 rcases h with⟨o,h⟩ | h
 . exact .inl (.inr ⟨o,h⟩)
 . exact h H
theorem SqF.up {K:W.Frag}{S:Sl}{n:Nat}{H H':Hp}{a:Addr}{xs:List V}(h:SqF K H a xs)(g:Gn S n H H'):SqF K H' a xs:=by
 rcases h with⟨o,h⟩ | h
 . exact .inl ⟨o,g.keep _ _ h rfl⟩
 . exact .inr h
theorem Zyc {K:W.Frag}{H:Hp}{a:Addr}{xs:List V}(h:SqL K H a xs)(s:Scr K H a xs):SqF K H a xs:=by
 rcases h with(h | ⟨o,h⟩) | h
 . obtain⟨its,n,r,z,⟨u,e⟩ | e⟩:=s
   . rw[h] at e;cases e
   . have hl:=r.length;exact .inr fun H'=>.inr ⟨_,its.toArray,n,e,rfl,rfl,rfl,by simp;omega,by simpa using r⟩
 . exact .inl ⟨o,h⟩
 . exact .inr fun H'=>.inr h
def Sg (x:Str):Prop:=x.length=1/\∀ c∈x.cps.toList,32<=c/\c<=126
def Ztk:Sp:=fun vs H Q _=>∃ c:Int,vs=[.int c]/\∀ (ys:List Str) H',ys.length<=5->(∀ y∈ys,Sg y)->(∀ b o,H b=some o->H' b=some o)->Q (.str (Txt.join "" ys)) H'
theorem scWd:Zak ["_law_cell","_law_some","_law_many","_law_kept"] ["_law_cell"] (Zad Zh0):=Zb2
noncomputable def wdA:Stmt:=(Zaq Zh0).getD 0 (.Pass ⟨0,0,0,0⟩)
theorem wd_A:∃ z j p1 p2 p3,wdA = .Assign [.Name "_law_some" p1] (.Constant (.str z) j p2) p3/\z.length=94/\∀ c∈z.cps.toList,32<=c/\c<=126:=⟨_,_,_,_,_,rfl,by decide +kernel,by decide +kernel⟩
theorem wd_eq:Zaq Zh0=wdA :: (Zaq Zh0).drop 1:=rfl
theorem Zwl {z:Str}(h:∀ c∈z.cps.toList,32<=c/\c<=126)(hz:z.length=94){v:Int}(h0:0<=v)(h1:v<94):∃ c,atI z.cps.toList v=some c/\Sg ⟨#[c]⟩:=by
 have hl:z.cps.toList.length=94:=by rw[<- hz];simp[Str.length]
 have hv:v.toNat<z.cps.toList.length:=by omega
 refine⟨z.cps.toList[v.toNat],?_,rfl,fun c hc=>?_⟩
 . have q:=Zan (Xab hv);rw[show((v.toNat:Nat):Int)=v by omega] at q;exact q
 . have e:c=z.cps.toList[v.toNat]:=by simpa using hc
   rw[e];exact h _ (Xbh hv)
theorem Zks:∀ {ys:List Str},(∀ y∈ys,Sg y)->(ys.map (·.length)).sum=ys.length
 | [],_=>rfl
 | y :: ys,h=>by
  rw[Xbf,List.sum_cons,Zks (fun z hz=>h z (Xal _ hz)),(h y Xaz).1,Xax,Nat.add_comm]
theorem Zvm (F:FunAt K mg "_law_word" Zh0)(Fd:FnP P w K mg base 1 "_law_draw" ["_law_cell","_law_k","_law_many"] Zez)(ml:mg "len" = none)(mr:mg "range" = none):FnP P w K mg base 2 "_law_word" ["_law_cell"] Ztk:=by
 refine F.ok scWd (fun _ _ _ _ _ _=>l1e fun _=>rfl) (fun vs H Q E h=>?_) (fun f0 ad A outer s H vs Q E hr h=>?_)
 . obtain⟨c,rfl,_⟩:=h;rfl
 obtain⟨c,rfl,q⟩:=h;have nd:=scWd.nd;have hun:=hr.un;obtain⟨z,j,p1,p2,p3,eA,hz,hzc⟩:=wd_A;rw[wd_eq,eA];refine' ⟨_,Zab (Zao (i:=1) nd rfl (Or.inr rfl) Zav) <|
  Zab (Zao (i:=2) nd rfl (Or.inr rfl) (Zai Zct rfl ml boot_len (pa1 (pv 1)))) <|
  Zab (Zcj (iz:=3) (ys:=["_law_cell","_law_some","_law_many"]) (js:=[0,1,2]) ?ok (Zc2 rfl mr (pa1 (Zag Fd hr rfl (pa3 (pv 0) Zae Zae)))) (fun _ _ _=>Zd2) ?he nd rfl (Or.inl rfl) (Or.inl rfl) rfl) <|
  Zab (Zat (PW.pt (Zin (Zaj Zni (pv 3) (Zau Zbl) (Zam _)) (Zfy (Zaj Za2 (Zag Fd hr rfl (pa3 (pv 0) Zae Zae)) Zae (Zam _)))))
   (Zab (Zcj (iz:=3) (ys:=[]) (js:=[]) ?ok2 (Zcz (pv 3)) (fun _ _ _=>Zd2) (fun _ _ _=>Zav) nd rfl (Or.inl rfl) (Or.inl rfl) rfl) <|
    Zar (Zx7 (Zaw Zsu (pv 1) (Zag Fd hr rfl (pa3 (pv 0) Zae (pv 2))) (fun _ _=>rfl)) (Zwg (pv 3) (Zag Fd hr rfl (pa3 (pv 0) Zae (Zai Zah rfl ml boot_len (pa1 (pv 3))))) Zrh)))
   Zal) <|
  psr (Zco Xbb PySem.F.slot_str_join PySem.F.type_str_join Zju Zav (pa1 (pv 3))),?rd⟩
 case ok=>
  refine⟨rfl,rfl,rfl,by decide +kernel,by decide +kernel,rfl,by decide +kernel,Zfq (fun p hp=>?_),rfl,fun i y h=>?_,rfl⟩
  . simp only[Xbd,Xa0,or_false] at hp;rcases hp with rfl | rfl | rfl <;> rfl
  . match i,h with
    | 0,h=>simp at h;subst h;exact⟨0,rfl,rfl,rfl,rfl⟩
    | 1,h=>simp at h;subst h;exact⟨1,rfl,rfl,rfl,rfl⟩
    | 2,h=>simp at h;subst h;exact⟨2,rfl,rfl,rfl,rfl⟩
    | i+3,h=>simp at h
 case he=>
  exact fun _ _ _=>Zaw Zsu (pv 2) (Zag Fd hr rfl (pa3 (pv 1) (Zas Zcv Zae (Zas Zc4 (pv 0) Zae)) (pv 3))) (fun _ _=>rfl)
 case ok2=>
  exact⟨rfl,rfl,rfl,by decide +kernel,by decide +kernel,rfl,by decide +kernel,fun _ _ h=>(nomatch h),rfl,fun i y h=>by simp at h,rfl⟩
 case rd=>
 refine⟨_,rfl,z,rfl,by rw[hz,Xam];decide,?_⟩;rw[hz];refine⟨_,rfl,c,13,6,rfl,om,om,fun v1 H1 a1 b1 x1=>⟨v1,rfl,om,om,?_⟩⟩;have fin:∀ (D:Addr) (ys:List Str) (H':Hp),ys.length<=5->(∀ y∈ys,Sg y)->H' D=some (.lst (ys.map V.str))->(∀ b o,H b=some o->H' b=some o)->
  Zxc (tBM K "str" (fun x vs H Q=>∃ (z:Str) (p:Addr) (ys:List Str),x = .str z/\vs=[.ref p]/\SqL K H p (ys.map V.str)/\(ys.map (·.length)).sum+ys.length * z.length<=16777216/\Q (.str (Txt.join z ys)) H) (tC (.str "")) (Zei (Zyn 3) Zl4)) { nx:=fun _ H'=>Q .non H',rt:=Q } [some (.int c),some (.str z),some (.int 94),some (.ref D)] H':=fun D ys H' hl hs hD hx=>by
  refine⟨rfl,_,rfl,"",D,ys,rfl,rfl,SqL.of hD,?_,q ys H' hl hs hx⟩;rw[Zks hs];show ys.length+ys.length * 0<=_;omega
 refine Zgi (fun D i ys H'=>(∀ b o,H b=some o->H' b=some o)/\H' D=some (.lst ys)/\∃ zs:List Str,ys=zs.map V.str/\zs.length=i/\∀ y∈zs,Sg y) (fun D hD=>⟨fun b o e=>?_,Zaa,[],rfl,rfl,by simp⟩) ?_ ?_
 . rw[Zaf (Zac (x1 _ _ e) hD)];exact x1 _ _ e
 . rintro D i ys H' Qb hD hi ⟨hx,hD',zs,rfl,hzl,hzs⟩ hq;have r0:0<=((0:Int)+(i:Nat)) % 4:=Int.emod_nonneg _ (by decide);refine⟨_,rfl,_,rfl,_,rfl,_,_,rfl,rfl,(by show(0:Int)<4;decide),_,_,rfl,rfl,_,rfl,c,_,94,rfl,om,om,fun v2 H2 a2 b2 x2=>?_⟩;obtain⟨ch,e1,e2⟩:=Zwl hzc hz a2 b2;refine⟨z,v2,ch,rfl,rfl,by rw[hz,Xam];decide,e1,hq _ H2 (x2 _ _ hD') (by rw[Xam];simp;omega) ⟨fun b o e=>?_,Zaa,zs++[⟨#[ch]⟩],by simp,by simp;omega,fun y hy=>?_⟩⟩
   . have:=x2 _ _ (hx _ _ e);rw[Zaf (by rintro rfl;rw[x1 _ _ e] at hD;cases hD)];exact this
   . rcases List.mem_append.mp hy with w | w
     . exact hzs y w
     . rw[List.mem_singleton.mp w];exact e2
 . rintro D ys H' hD ⟨hx,hD',zs,rfl,hzl,hzs⟩;have hz5:zs.length<=5:=by omega
   refine⟨_,rfl,sl0,fun p hp=>?_⟩;have hx':∀ b o,H b=some o->upd H' p (.lst []) b=some o:=fun b o e=>by rw[Zaf (Zac (hx _ _ e) hp)];exact hx _ _ e
   have hD2:upd H' p (.lst []) D=some (.lst (zs.map V.str)):=by rw[Zaf (Zac hD' hp)];exact hD'
   refine⟨1,_,Zvg hD2 Zaa,by show(A.deeper (PyProof.Rows.envOfC "_law_word" (Zad Zh0) s.heap.objs.size f0 ad)).units+1+1<cLine;omega,_,rfl,?_⟩;refine Zcl (fun cn=>?_) (fun _=>Zby (fin D zs _ hz5 hzs hD2 hx'));have zne:zs≠[]:=by rintro rfl;simp at cn
   have zpos:0<zs.length:=List.length_pos_iff.mpr zne;refine⟨_,rfl,c,14,3,rfl,om,om,fun v2 H2 a2 b2 x2=>⟨rfl,_,rfl,?_⟩⟩;have hx2:∀ b o,H b=some o->H2 b=some o:=fun b o e=>x2 _ _ (hx' _ _ e);have hD3:=x2 _ _ hD2;refine Zcl (fun _=>?_) (fun _=>fin D zs _ hz5 hzs hD3 hx2);refine⟨_,rfl,D,rfl,⟨_,SqL.of hD3⟩,?_⟩;refine Zh1 (K:=K) (xs:=zs.map V.str) (fun D2 i ys H'=>(∀ b o,H2 b=some o->H' b=some o)/\H' D2=some (.lst ys)/\∃ us:List Str,ys=us.map V.str/\us.length=i/\∀ y∈us,Sg y) (fun D2 h2=>⟨fun b o e=>?_,Zaa,[],rfl,rfl,by simp⟩) (fun D2 i ys H' h2 h=>SqL.of (h.1 _ _ hD3)) ?_ ?_
   . rw[Zaf (Zac e h2)];exact e
   . rintro D2 i x ys H3 Qb h2 hx3 ⟨hxx,hD2',us,rfl,hul,hus⟩ hq;have hi:i<zs.length:=by have:=(List.getElem?_eq_some_iff.mp hx3).1;simpa using this
     refine hq _ H3 hD2' (by rw[Xam];simp;omega) ⟨fun b o e=>?_,Zaa,us++[("a" : Str)],by simp,by simp;omega,fun y hy=>?_⟩
     . rw[Zaf (by rintro rfl;rw[e] at h2;cases h2)];exact hxx _ _ e
     . rcases List.mem_append.mp hy with w | w
       . exact hus y w
       . rw[List.mem_singleton.mp w];exact⟨by decide +kernel,by decide +kernel⟩
   . rintro D2 ys H3 h2 ⟨hxx,hD2',us,rfl,hul,hus⟩;rw[Xad] at hul;refine⟨_,rfl,_,rfl,_,rfl,c,12,94,rfl,om,om,fun v4 H4 a4 b4 x4=>?_⟩;obtain⟨ch,e1,e2⟩:=Zwl hzc hz a4 b4;refine⟨z,v4,ch,rfl,rfl,by rw[hz,Xam];decide,e1,?_⟩;have hD4:=x4 _ _ hD2';refine⟨_,rfl,_,rfl,_,rfl,D2,_,rfl,.inl (SqL.of hD4),?_⟩;refine⟨c,15,_,rfl,om,by rw[Xad];omega,fun v5 H5 a5 b5 x5=>?_⟩;rw[Xad] at b5;have hD5:=x5 _ _ hD4;refine⟨D2,us.map V.str,v5,v5.toNat,rfl,rfl,hD5,?_,?_⟩
     . rw[Xad];unfold ixN;rw[if_pos a5,if_pos b5]
     . have es:(us.map V.str).set v5.toNat (.str ⟨#[ch]⟩)=(us.set v5.toNat ⟨#[ch]⟩).map V.str:=by rw[List.map_set]
       rw[es];refine fin D2 _ _ (by rw[List.length_set];omega) (fun y hy=>?_) Zaa fun b o e=>?_
       . rcases List.mem_or_eq_of_mem_set hy with w | w
         . exact hus y w
         . rw[w];exact e2
       . have h6:=x5 _ _ (x4 _ _ (hxx _ _ (hx2 _ _ e)));rw[Zaf (by rintro rfl;rw[hx2 _ _ e] at h2;cases h2)];exact h6
structure Npl (K:W.Frag)(mg:Str->Option Value)(cE:Addr):Prop where
 xc:Zq0 K cE
 kc:W.keepIn K (.ref cE)=true
 hm:mg "NoPlace" = some (.ref cE)
abbrev Of (k:Int)(D:Nat):Prop:=0<=k/\k<2 ^ D
def Zj6 (C cE:Addr):Sp:=fun vs H Q E=>∃ (x d f:Addr)(D:Nat)(kvs:List (Key×V))(k:Int),vs=[.ref x,.int k]/\TabAt C H x d f D kvs/\(Of k D->Q .non H)/\(¬ Of k D->E (.ref cE) none H)
theorem Zu1 (F:MethAt K C "check" "Table.check" Zfk)(T:Txt K mg C)(N:Npl K mg cE)(Fi:FnP P w K mg base 1 "in_depth" ["key","depth"] Zqk):MtN P w K mg base C 2 "check" ["self","key"] (Zj6 C cE):=by
 refine F.okN scCk (fun _ _ _ _ _ _=>l2e fun _ _=>rfl) (fun vs H Q E h=>?_) (fun f0 ad A outer s H vs Q E hr h=>?_)
 . obtain⟨x,d,f,D,kvs,k,rfl,_⟩:=h;rfl
 obtain⟨x,d,f,D,kvs,k,rfl,⟨⟨dx,h1⟩,h2⟩,q1,q2⟩:=h;refine⟨_,Zar (Zat (Zcu (Zcg (Zag Fi hr rfl (pa2 (pv 1) (Za1 (pv 0) rfl))))) (Zar (Zel Zgo hr.hd N.xc rfl N.hm (pa1 Zav))) Zal),?_⟩;refine⟨_,rfl,_,rfl,x,C,dx,_,_,rfl,h1,T.cl,T.nD,Zv8 _ _ _,k,D,rfl,_,rfl,?_⟩;by_cases c:Of k D
 . rw[Xah c];exact Zby (q1 c)
 . rw[Xag c];exact Zbz ⟨sl1,q2 c⟩
def Ztf (C cE:Addr):Sp:=fun vs H Q E=>∃ (x d f:Addr)(D:Nat)(kvs:List (Key×V))(k:Int)(v:V),vs=[.ref x,.int k,v]/\TabAt C H x d f D kvs/\kvs.length<sizeLine/\(Of k D->Q .non (upd H d (.dK (Ze4 kvs (.inl k) v))))/\(¬ Of k D->E (.ref cE) none H)
theorem Zv0 (F:MethAt K C "put" "Table.put" Zv7)(T:Txt K mg C)(Fc:MtN P w K mg base C 2 "check" ["self","key"] (Zj6 C cE)):MtN P w K mg base C 3 "put" ["self","key","value"] (Ztf C cE):=by
 refine F.okN scPt (fun _ _ _ _ _ _=>l3e fun _ _ _=>rfl) (fun vs H Q E h=>?_) (fun f0 ad A outer s H vs Q E hr h=>?_)
 . obtain⟨x,d,f,D,kvs,k,v,rfl,_⟩:=h;rfl
 obtain⟨x,d,f,D,kvs,k,v,rfl,hT,hz,q1,q2⟩:=h;obtain⟨⟨dx,h1⟩,h2⟩:=id hT;have hu:=Zjz hr;refine⟨_,Zab (Za9 (Zi1 Fc (pv 0) T.cl hr Zgz (pa1 (pv 1)))) <| Zar (Zi5 hu (Za1 (pv 0) rfl) (pv 1) (pv 2) rfl),?_⟩;refine⟨_,rfl,x,dx,_,rfl,h1,rfl,_,rfl,x,d,f,D,kvs,k,rfl,hT,fun c=>?_,q2⟩;exact⟨_,rfl,_,rfl,x,C,dx,_,_,rfl,h1,T.cl,T.nH,Zxu _ _ _,_,rfl,d,_,rfl,DPut.k (k:=.inl k) h2 hz,q1 c⟩
def Zta (C cE:Addr):Sp:=fun vs H Q E=>∃ (x d f:Addr)(D:Nat)(kvs:List (Key×V))(k:Int),vs=[.ref x,.int k]/\TabAt C H x d f D kvs/\(∀ v,Of k D->Zcf kvs (.inl k)=some v->Q .non (upd H d (.dK (Zc0 kvs (.inl k)))))/\(¬ Of k D\/Zcf kvs (.inl k)=none->E (.ref cE) none H)
theorem scCt:Zak ["self","key"] ["self","key"] (Zad Zwa):=Zb2
theorem Zvv (F:MethAt K C "cut" "Table.cut" Zwa)(T:Txt K mg C)(N:Npl K mg cE)(Fc:MtN P w K mg base C 2 "check" ["self","key"] (Zj6 C cE)):MtN P w K mg base C 3 "cut" ["self","key"] (Zta C cE):=by
 refine F.okN scCt (fun _ _ _ _ _ _=>l2e fun _ _=>rfl) (fun vs H Q E h=>?_) (fun f0 ad A outer s H vs Q E hr h=>?_)
 . obtain⟨x,d,f,D,kvs,k,rfl,_⟩:=h;rfl
 obtain⟨x,d,f,D,kvs,k,rfl,hT,q1,q2⟩:=h;obtain⟨⟨dx,h1⟩,h2⟩:=id hT;have hu:=Zjz hr;refine⟨_,Zab (Za9 (Zi1 Fc (pv 0) T.cl hr Zgz (pa1 (pv 1)))) <|
  Zab (Zat (Znx (Zir hu (pv 1) (Za1 (pv 0) rfl))) (Zar (Zel Zgo hr.hd N.xc rfl N.hm (pa1 Zav))) Zal) <|
  Zar (Za9 (Zkg (Za1 (pv 0) rfl) (pv 1) ⟨rfl,rfl,rfl,rfl⟩)),?_⟩
 refine⟨_,rfl,x,dx,_,rfl,h1,rfl,_,rfl,x,d,f,D,kvs,k,rfl,hT,fun c=>?_,fun c=>q2 (.inl c)⟩;refine⟨_,rfl,_,rfl,x,C,dx,_,_,rfl,h1,T.cl,T.nH,Zxu _ _ _,d,_,rfl,DGet.k (k:=.inl k) h2,_,rfl,?_⟩;cases e:Zcf kvs (.inl k) with
 | none=>exact Zbz ⟨sl1,q2 (.inr e)⟩
 | some v=>exact Zby ⟨_,rfl,x,C,dx,_,_,rfl,h1,T.cl,T.nH,Zxu _ _ _,d,rfl,.inl ⟨_,.inl h2⟩,_,rfl,kvs,.inl k,v,h2,rfl,e,q1 v c e⟩
section
variable {C B:Addr}
def Zwf (C:Addr):Sp:=fun vs H Q _=>∃ (e:Addr)(i:Int),vs=[.ref e,.int i]/\i.natAbs.log2<1920/\H e=some (.ext (Ex0 C e))/\∀ d od,H d=none->RowO "row" (.int i) od->Q .non (upd (upd H e (.ext (Ex1 C e d))) d (.frz od (.own 0)))
theorem scXI:Zak ["self","row"] ["self","row"] (Zad Zde):=Zb2
theorem Zob (F:MethAt K C "__init__" "BadRow.__init__" Zde)(T:Ztb K C)(S:XSet K C "row")(R:Zq4 K B)(mB:mg "BookError" = some (.ref B)):MtP P w K mg base C 1 "__init__" ["self","row"] (Zwf C):=by
 refine F.ok scXI (fun _ _ _ _ _ _=>l2e fun _ _=>rfl) (fun vs H Q E h=>?_) (fun f0 ad A outer s H vs Q E hr h=>?_)
 . obtain⟨e,i,rfl,_⟩:=h;rfl
 obtain⟨e,i,rfl,hi,he,q⟩:=h;refine⟨_,Zab (Za9 (Zkz (pl:=_) T R rfl mB (pa2 (pv 0) (Zno (pv 1) (by decide +kernel))))) <|
  Zar (Zn4 S (pv 0) (pv 1) rfl),?_⟩
 refine⟨_,rfl,_,rfl,i,rfl,hi,fun z hz=>⟨e,z,rfl,he,?_⟩⟩;exact⟨_,rfl,_,rfl,e,rfl,he,fun d od nd ro=>q d od nd ro⟩
end
open Tx in
def Zny:Sp:=fun vs H Q _=>∃ z:Str,vs=[.str z]/\z.length<=1000/\z.cps.all (· < 128)=true/\∀ H',(∀ b o,H b=some o->H' b=some o)->Q (.bl (decide (0<(sg z).length/\(sg z).length<=9) && dg (sg z))) H'
section
open Tx
theorem scIsk:Zak ["word"] ["word"] (Zad Zkw):=Zb2
theorem Zrm {tf tm:Tok}(F:FunAt K mg "is_key" Zkw)(mf:mg "FIGURES" = some (.str "0123456789" tf))(mm:mg "MOST_FIGURES" = some (.int 9 tm))(ml:mg "len" = none)(ma:mg "all" = none):FnP P w K mg base 1 "is_key" ["word"] Zny:=by
 refine F.ok scIsk (fun _ _ _ _ _ _=>l1e fun _=>rfl) (fun vs H Q E h=>?_) (fun f0 ad A outer s H vs Q E hr h=>?_)
 . obtain⟨z,rfl,_⟩:=h;rfl
 obtain⟨z,rfl,hz,ha,q⟩:=h;refine' ⟨_,psr (Zkr (Zqv Zdg Ze5 Zae (Zai Zct rfl ml boot_len (pa1 (pv 0))) (Zep (v:=.int 9) rfl mm ⟨_,rfl⟩)) (Zk9 (Zai (Zr0 rfl) rfl ma PyProof.Rows.boot_all (pa1 (Zet (ys:=[]) (js:=[]) ?ok (Zxr (pv 0)) (fun _ _ _=>Zd2) ?he))))),?rd⟩
 case ok=>
  refine⟨rfl,rfl,rfl,by decide +kernel,by decide +kernel,rfl,by decide +kernel,Zfq (fun p hp=>?_),rfl,fun i y h=>?_,rfl⟩
  . simp at hp
  . simp at h
 case he=>
  exact fun _ _ _=>Zfn Zxj (pv 0) (Zep (v:=.str "0123456789") rfl mf ⟨_,rfl⟩) rfl
 case rd=>
 have hl:=Zb1 z;refine⟨_,rfl,z,rfl,by rw[Xam];omega,_,_,rfl,rfl,_,rfl,?_⟩;have no:¬ (0<(sg z).length/\(sg z).length<=9)->Q (.bl false) H:=fun n=>by
  have:=q H fun _ _ e=>e;rw[Xag n] at this;exact this
 refine Zcl (fun c1=>?_) (fun c1=>?_)
 . refine⟨_,_,rfl,rfl,_,rfl,Zcl (fun c2=>?_) (fun c2=>?_)⟩
   . have d1:(0:Int)<(z.length:Nat):=Xaf c1;have d2:((z.length:Nat):Int)<=9:=Xaf c2;rw[hl] at d1 d2;have q:∀ H',(∀ b o,H b=some o->H' b=some o)->Q (.bl (dg (sg z))) H':=fun H' x=>by
      have:=q H' x;rw[Xah ⟨om,om⟩,Bool.true_and] at this;exact this
     refine⟨_,rfl,z,rfl,ha,?_⟩;refine Zqq (fun D i ys H'=>(∀ b o,H b=some o->H' b=some o)/\H' D=some (.lst ys)/\ys=((sg z).take i).map fun c=>V.bl (decide (48<=c/\c<=57))) (fun D hD=>⟨fun b o e=>by rw[Zaf (Zac e hD)];exact e,Zaa,rfl⟩) ?_ ?_
     . rintro D i c ys H1 Qb hD hc ⟨x1,hD1,rfl⟩ hQ;have hc:(sg z)[i]? = some c:=by simpa using hc
       refine⟨_,rfl,_,_,rfl,rfl,?_⟩;rw[fig];have hi:i<(sg z).length:=(List.getElem?_eq_some_iff.mp hc).1;refine hQ _ H1 hD1 (by rw[Xam,Xad,Xav];omega) ⟨fun b o e=>by rw[Zaf (Zac e hD)];exact x1 b o e,Zaa,?_⟩;rw[List.take_succ,hc];simp
     . rintro D ys H1 hD ⟨x1,hD1,rfl⟩;have ez:z.cps.size=(sg z).length:=by simp
       rw[ez,List.take_length] at hD1;refine⟨D,(sg z).map fun c=>decide (48<=c/\c<=57),rfl,SqL.of (by rw[Xbt];exact hD1),?_⟩;have e:((sg z).map fun c=>decide (48<=c/\c<=57)).all id=dg (sg z):=by
        unfold dg;rw[List.all_map]
        rfl
       rw[e];exact q H1 x1
   . have d2:¬ ((z.length:Nat):Int)<=9:=Xaj (Bool.eq_false_iff.mpr c2);exact no (by rw[<- hl];omega)
 . have d1:¬ (0:Int)<(z.length:Nat):=Xaj (Bool.eq_false_iff.mpr c1);exact⟨_,rfl,Zby (no (by rw[<- hl];omega))⟩
end
section
open Tx PySem.NumText
def BrOk (P:Program)(w:World)(K:W.Frag)(mg:Str->Option Value)(base:Heap)(C:Addr):Prop:=mg "BadRow" = some (.ref C)/\∃ fi fd,Zhi K C fi/\Binds K fd ["self","row"] []/\FnOk P w K mg base CX0 1 fi fd ["self","row"] (Zwf C)
def Refd (C:Addr)(pl:Int)(H:Hp)(E:XK):Prop:=∀ H' d od,(∀ b o,H b=some o->H' b=some o)->H' d=some (.frz od (.own 0))->RowO "row" (.int pl) od->E (.ref C) (some d) H'
theorem Refd.up {C:Addr}{pl:Int}{H H1:Hp}{E:XK}(r:Refd C pl H E)(x:∀ b o,H b=some o->H1 b=some o):Refd C pl H1 E:=fun H' d od k=>r H' d od fun b o e=>k b o (x b o e)
theorem Zk6 {X:Cx}{E:XK}{e:Expr}{te:TE}{np af pos:Pos}(hx:Zi4 X E)(hh:X.A.handled=none)(B:BrOk X.prog X.w X.K X.mg X.base C)(hr:Room 2 X.A)(hg:Gl X "BadRow")(ha:PE X e te)(he:starEach [e] X.env=(false,eval e X.env) :: starEach [] X.env:=by rfl) :
 PS X (.Raise (some (.Call (.Name "BadRow" np) [e] [] af)) none pos) (Zjm X.s₀.heap C (Zwf C) E (Zei te Zl4)):=by
 obtain⟨hm,fi,fd,T,hb,F⟩:=B;exact Zm7 hx hh T F hr hb hg hm (Zbr ha Zbl (hs:=he)) (by decide) he rfl
theorem Zkn {h0:Heap}{E:XK}{i:Nat}{D:Zex}{σ:St}{H:Hp}{pl:Int}(hs:σ[i]? = some (some (.int pl)))(hp:pl.natAbs.log2<1920)(r:Refd C pl H E):Zjm h0 C (Zwf C) E (Zei (Zyn i) Zl4) D σ H:=by
 refine⟨_,hs,(by show 1<=1000;decide),fun e n0 n1=>⟨e,pl,rfl,hp,Zaa,fun d od nd ro=>⟨rfl,e,d,rfl,n1,?_,?_⟩⟩⟩
 . have ne:e≠d:=by rintro rfl;rw[Zaa] at nd;cases nd
   rw[Zaf ne];exact Zaa
 . have ne:d≠e:=by rintro rfl;rw[Zaa] at nd;cases nd
   rw[Zaf ne] at nd;refine r _ d od (fun b o z=>?_) (by rw[Zcm ne];exact Zaa) ro;rw[Zcm (Zac z n0),Zaf (Zac z nd),Zaf (Zac z n0),Zaf (Zac z n0)];exact z
def Zw9 (C:Addr):Sp:=fun vs H Q E=>∃ (z:Str)(D:Nat)(pl:Int),vs=[.str z,.int (D:Int),.int pl]/\z.length<=1000/\z.cps.all (· < 128)=true/\pl.natAbs.log2<1920/\
 match Zhz (sg z) D with
 | some k=>∀ H',(∀ b o,H b=some o->H' b=some o)->Q (.int (k:Int)) H'
 | none=>Refd C pl H E
theorem Zyd:Zak ["word","depth","place","key"] ["word","depth","place"] (Zad Ze6):=Zb2
theorem Zlt (F:FunAt K mg "read_key" Ze6)(Fk:FnP P w K mg base 1 "is_key" ["word"] Zny)(Fi:FnP P w K mg base 1 "in_depth" ["key","depth"] Zqk)(B:BrOk P w K mg base C)(mi:mg "int" = none):FnR P w K mg base 3 "read_key" ["word","depth","place"] (Zw9 C):=by
 refine F.okR Zyd (fun _ _ _ _ _ _=>l3e fun _ _ _=>rfl) (fun vs H Q E h=>?_) (fun f0 ad A outer s H vs Q E hr h=>?_)
 . obtain⟨z,D,pl,rfl,_⟩:=h;rfl
 obtain⟨z,D,pl,rfl,hz,ha,hp,q⟩:=h;have nd:=Zyd.nd;refine⟨_,Zab (Zat (Zcu (Zcg (Zag Fk hr.m rfl (pa1 (pv 0))))) (Zar (Zk6 Zdx hr.hd B hr rfl (pv 2))) Zal) <|
  Zab (Zao (i:=3) nd rfl (Or.inl rfl) (Zdk Zhb rfl mi PyProof.Rows.boot_int (pa1 (pv 0)))) <|
  Zab (Zat (Zcu (Zcg (Zag Fi hr.m rfl (pa2 (pv 3) (pv 1))))) (Zar (Zk6 Zdx hr.hd B hr rfl (pv 2))) Zal) <|
  psr (pv 3),?_⟩
 refine⟨_,rfl,z,rfl,hz,ha,fun H1 x1=>⟨_,rfl,?_⟩⟩;unfold Zhz at q;cases hb:(decide (0<(sg z).length/\(sg z).length<=9) && dg (sg z)) with
 | false=>
  rw[if_neg (fun c=>by rw[Xah ⟨c.1,c.2.1⟩,c.2.2.1] at hb;cases hb)] at q;exact Zbz (Zkn rfl hp (Refd.up q x1))
 | true=>
  refine Zby ?_;rw[Bool.and_eq_true] at hb;have c1:=Xaf hb.1;have c2:=Ztj.mp hb.2;have rd:=PySem.intText_digits (x:=z) c2 (fun e=>by have:=c1.1;rw[show sg z=[] from e] at this;simp at this) om;refine⟨_,rfl,z,_,rfl,rd,by rw[Zb1];omega,?_⟩;refine⟨_,rfl,_,rfl,_,D,rfl,_,rfl,?_⟩;by_cases c3:digitsVal (sg z)<2 ^ D
  . rw[if_pos ⟨c1.1,c1.2,hb.2,c3⟩] at q;have c4:(0:Int)<=((digitsVal z.cps.toList:Nat):Int)/\((digitsVal z.cps.toList:Nat):Int)<2 ^ D:=⟨om,by exact_mod_cast c3⟩
    rw[Xah c4];exact Zby ⟨_,rfl,q H1 x1⟩
  . rw[if_neg (fun z=>c3 z.2.2.2)] at q;have c4:¬ ((0:Int)<=((digitsVal z.cps.toList:Nat):Int)/\((digitsVal z.cps.toList:Nat):Int)<2 ^ D):=fun y=>c3 (by exact_mod_cast y.2);rw[Xag c4];exact Zbz (Zkn rfl hp (Refd.up q x1))
end
section
open Tx PySem.NumText
def Zxv (C:Addr):Sp:=fun vs H Q E=>∃ (z:Str)(D:Nat)(pl:Int),vs=[.str z,.int (D:Int),.int pl]/\z.length<=1000/\z.cps.all (· < 128)=true/\pl.natAbs.log2<1920/\
 match Zbn z D with
 | none=>Refd C pl H E
 | some none=>∀ H',(∀ b o,H b=some o->H' b=some o)->Q .non H'
 | some (some (.put k v))=>∀ H' p,(∀ b o,H b=some o->H' b=some o)->H' p=some (.tup [.str "put",.int (k:Int),.str v])->Q (.ref p) H'
 | some (some (.cut k))=>∀ H' p,(∀ b o,H b=some o->H' b=some o)->H' p=some (.tup [.str "cut",.int (k:Int)])->Q (.ref p) H'
theorem Zxq:Zak ["row","depth","place","bare","parts"] ["row","depth","place"] (Zad Zhj):=Zb2
theorem Zot (F:FunAt K mg "read_at" Zhj)(Fk:FnR P w K mg base 3 "read_key" ["word","depth","place"] (Zw9 C))(B:BrOk P w K mg base C)(ml:mg "len" = none):FnR P w K mg base 4 "read_at" ["row","depth","place"] (Zxv C):=by
 refine F.okR Zxq (fun _ _ _ _ _ _=>l3e fun _ _ _=>rfl) (fun vs H Q E h=>?_) (fun f0 ad A outer s H vs Q E hr h=>?_)
 . obtain⟨z,D,pl,rfl,_⟩:=h;rfl
 obtain⟨z,D,pl,rfl,hz,ha,hp,q⟩:=h;have nd:=Zxq.nd;refine⟨_,Zab (Zao (i:=3) nd rfl (Or.inl rfl) (Zco Xbb PySem.F.slot_str_lstrip PySem.F.type_str_lstrip Zl3 (pv 0) (pa1 Zav))) <|
  Zab (Zat (PW.pt (Zeq (Zaj Za2 (pv 3) Zav (Zam _)) (Zdq (Zcg (Zco Xbb PySem.F.slot_str_startswith PySem.F.type_str_startswith Zf3 (pv 3) (pa1 Zav)))))) (psr Zdl) Zal) <|
  Zab (Zat (Zcg (Zco Xbb PySem.F.slot_str_startswith PySem.F.type_str_startswith Zf3 (pv 3) (pa1 Zav)))
   (Zab (Zao (i:=4) nd rfl (Or.inl rfl) (Zco Xbb PySem.F.slot_str_partition PySem.F.type_str_partition Zil (Zay Ztd (pv 3) (Za5 (Zai Zct rfl ml boot_len (pa1 Zav))) Za6) (pa1 Zav))) <|
    Zab (Zat (Zaj Za2 (Zaw Za7 (pv 4) Zae (fun _ _=>rfl)) Zav (Zam _)) (Zar (Zk6 Zdx hr.hd B hr.m rfl (pv 2))) Zal) <|
    psr (Zbw (pa3 Zav (Zea Zdb Fk hr rfl (pa3 (Zaw Za7 (pv 4) Zae (fun _ _=>rfl)) (pv 1) (pv 2))) (Zaw Za7 (pv 4) Zae (fun _ _=>rfl))))) Zal) <|
  Zab (Zat (Zcg (Zco Xbb PySem.F.slot_str_startswith PySem.F.type_str_startswith Zf3 (pv 3) (pa1 Zav)))
   (psr (Zbw (pa2 Zav (Zea Zdb Fk hr rfl (pa3 (Zco Xbb PySem.F.slot_str_rstrip PySem.F.type_str_rstrip Zmv (Zay Ztd (pv 3) (Za5 (Zai Zct rfl ml boot_len (pa1 Zav))) Za6) (pa1 Zav)) (pv 1) (pv 2)))))) Zal) <|
  Zar (Zk6 Zdx hr.hd B hr.m rfl (pv 2)),?_⟩
 refine⟨_,rfl,rfl,z," ",rfl,rfl,by rw[Xam];omega,?_⟩;have hb:sg (Txt.lstripChars z " ")=(sg z).dropWhile (· == 32):=Zp8 z;unfold Zbn at q;rw[<- hb] at q;have sub:(sg (Txt.lstripChars z " ")).Sublist (sg z):=by rw[hb];exact List.dropWhile_sublist _
 have lb:(Txt.lstripChars z " ").length<=1000:=by rw[Zb1];have:=sub.length_le;rw[<- Zb1 z] at this;omega
 have az:∀ c∈sg z,c<128:=fun c hc=>by
  have:=Array.all_eq_true_iff_forall_mem.mp ha c (by simpa using hc);simpa using this
 have ab:∀ c∈sg (Txt.lstripChars z " "),c<128:=fun c hc=>az c (sub.subset hc);clear hb sub;generalize Txt.lstripChars z " " = b at q lb ab ⊢;have asc:∀ y:Str,(∀ c∈sg y,c∈sg b)->y.cps.all (· < 128)=true:=fun y hy=>Array.all_eq_true_iff_forall_mem.mpr fun c hc=>by
  have:=ab c (hy c (by simpa using hc));simpa using this
 unfold Zes at q;refine⟨_,rfl,rfl,_,rfl,?_⟩;refine Zcl (fun c=>?_) (fun c=>?_)
 . have c':V.str b=V.str "":=Xaf c;have c2:b = "":=by injection c'
   rw[if_pos (Or.inl (by rw[c2];rfl))] at q;exact Zbz (q H fun _ _ e=>e)
 have nb:¬ sg b=[]:=fun e=>c (Xah (by rw[show b = "" from Ziq e]));refine⟨_,rfl,rfl,b,"#",rfl,rfl,_,rfl,?_⟩;rw[Zfm,show sg "#" = [35] by decide +kernel];cases h35:List.isPrefixOf [35] (sg b) with
 | true=>
  rw[if_pos (Or.inr h35)] at q;exact Zbz (q H fun _ _ e=>e)
 | false=>
 refine Zby ?_;rw[if_neg (fun y=>y.elim nb (fun y=>by rw[h35] at y;cases y))] at q;refine⟨_,rfl,rfl,b,"put ",rfl,rfl,_,rfl,?_⟩;rw[Zfm,Zss];have l4:("put " : Str).length=4:=by decide +kernel
 have l4':("cut " : Str).length=4:=by decide +kernel
 cases hput:Znp.isPrefixOf (sg b) with
 | true=>
  rw[if_pos hput] at q;refine Zbz ?_;have hr4:sg (Txt.slice b (some ((("put " : Str).length:Nat):Int)) none)=(sg b).drop 4:=by rw[l4];exact Zkq b 4
  have ls:=Txt.slice_le b (some ((("put " : Str).length:Nat):Int)) none;refine⟨_,rfl,"put ",rfl,om,_,rfl,b,rfl,by rw[Xam];omega,rfl,_," ",rfl,rfl,om,by rw[Xam];omega,fun p np=>?_⟩;have x1:∀ v b' o,H b'=some o->(upd H p v) b'=some o:=fun v b' o e=>by rw[Zaf (Zac e np)];exact e
  refine⟨_,rfl,p,_,_,_,rfl,rfl,.inl (.inl Zaa),Zan (j:=1) rfl,rfl,_,rfl,?_⟩;by_cases c32:32∈(sg b).drop 4
  . rw[if_pos c32] at q;have cut:(sg b).drop 4=((sg b).drop 4).takeWhile (· != 32)++32 :: (((sg b).drop 4).dropWhile (· != 32)).drop 1/\32∉((sg b).drop 4).takeWhile (· != 32):=by
     generalize (sg b).drop 4=l at c32;obtain⟨a,r,rfl,na⟩:∃ a r,l=a++32 :: r/\32∉a:=by
      obtain⟨a,r,e,n⟩:=List.append_of_mem c32 |> fun _=>List.eq_append_cons_of_mem c32
      exact⟨a,r,e,n⟩
     obtain⟨t1,t2⟩:=tw_no (b:=r) na;rw[t1,t2];exact⟨rfl,na⟩
    obtain⟨p1,p2,p3⟩:=Zve (hr4.trans cut.1) cut.2;rw[Xag (fun y=>by rw[p2] at y;injection y with y;exact absurd y (by decide +kernel))];refine Zby ?_;refine⟨_,rfl,p,_,_,_,rfl,rfl,.inl (.inl Zaa),Zan (j:=0) rfl,_,rfl,_,rfl,_,D,pl,rfl,?_,asc _ (fun c' hc'=>?_),hp,?_⟩
    . rw[Zb1,p1];have:=(List.takeWhile_sublist (p:=(· != 32)) (l:=(sg b).drop 4)).length_le;rw[Xbe,<- Zb1] at this;omega
    . rw[p1] at hc';exact Xbs ((List.takeWhile_sublist _).subset hc')
    . rw[p1];cases hk:Zhz (((sg b).drop 4).takeWhile (· != 32)) D with
      | none=>rw[hk] at q;exact Refd.up q (x1 _)
      | some k=>
       rw[hk] at q;intro H2 x2;refine⟨_,rfl,p,_,_,_,rfl,rfl,.inl (.inl (x2 _ _ Zaa)),Zan (j:=2) rfl,sl3,fun p3' np3=>?_⟩;have ev:(Txt.partition (Txt.slice b (some ((("put " : Str).length:Nat):Int)) none) " ").2.2=⟨((((sg b).drop 4).dropWhile (· != 32)).drop 1).toArray⟩:=Ziq (by rw[p3]);rw[ev];exact q _ p3' (fun b' o e=>by rw[Zaf (Zac (x2 _ _ (x1 _ b' o e)) np3)];exact x2 _ _ (x1 _ b' o e)) Zaa
  . rw[if_neg c32] at q;rw[Zvt (by rw[hr4];exact c32)];exact Zbz (Zkn (D:={ nx:=fun _ _=>True,rt:=fun _ _=>True }) rfl hp (Refd.up q (x1 _)))
 | false=>
 refine Zby ?_;rw[if_neg (by rw[hput];simp)] at q;refine⟨_,rfl,rfl,b,"cut ",rfl,rfl,_,rfl,?_⟩;rw[Zfm,Zxs];cases hcut:Zvd.isPrefixOf (sg b) with
 | true=>
  rw[if_pos hcut] at q;refine Zbz ?_;have hr4:sg (Txt.slice b (some ((("cut " : Str).length:Nat):Int)) none)=(sg b).drop 4:=by rw[l4'];exact Zkq b 4
  have ls:=Txt.slice_le b (some ((("cut " : Str).length:Nat):Int)) none;have er:sg (Txt.rstripChars (Txt.slice b (some ((("cut " : Str).length:Nat):Int)) none) " ")=(((sg b).drop 4).reverse.dropWhile (· == 32)).reverse:=by rw[<- hr4];exact Zo0 _
  have sb:∀ c'∈(((sg b).drop 4).reverse.dropWhile (· == 32)).reverse,c'∈sg b:=fun c' hc'=>by
   have h1:=(List.dropWhile_sublist _).subset (List.mem_reverse.mp hc');exact Xbs (List.mem_reverse.mp h1)
  have ll:((((sg b).drop 4).reverse.dropWhile (· == 32)).reverse).length<=1000:=by
   have h1:=(List.dropWhile_sublist (p:=(· == 32)) (l:=((sg b).drop 4).reverse)).length_le;rw[List.length_reverse,Xbe,<- Zb1] at h1;rw[List.length_reverse];omega
  refine⟨_,rfl,"cut ",rfl,om,_,rfl,b,rfl,by rw[Xam];omega,rfl,_," ",rfl,rfl,by rw[Xam];omega,_,rfl,_,rfl,_,D,pl,rfl,?_,asc _ (fun c' hc'=>?_),hp,?_⟩
  . rw[Zb1,er];exact ll
  . rw[er] at hc';exact sb c' hc'
  . rw[er];cases hk:Zhz (((sg b).drop 4).reverse.dropWhile (· == 32)).reverse D with
    | none=>rw[hk] at q;exact q
    | some k=>
     rw[hk] at q;intro H2 x2;refine⟨sl2,fun p np=>?_⟩;exact q _ p (fun b' o e=>by rw[Zaf (Zac (x2 _ _ e) np)];exact x2 _ _ e) Zaa
 | false=>
  rw[if_neg (by rw[hcut];simp)] at q;exact Zby (Zkn (D:={ nx:=fun _ _=>True,rt:=fun _ _=>True }) rfl hp q)
end
section
open Tx PySem.NumText
theorem Zl0 (F:MethAt K cR "__init__" "BadRow.__init__" Zde)(T:Ztb K cR)(S:XSet K cR "row")(R:Zq4 K cB)(mB:mg "BookError" = some (.ref cB)):MtH P w K mg base CX0 cR 1 "__init__" ["self","row"] (fun _=>Zwf cR):=by
 refine F.okH scXI (fun _ _ _ _ _ _=>l2e fun _ _=>rfl) (fun _ vs H Q E h=>?_) (fun f0 ad A h0 outer s H vs Q E hA hr h=>?_)
 . obtain⟨e,i,rfl,_⟩:=h;rfl
 obtain⟨e,i,rfl,hi,he,q⟩:=h;refine⟨_,Zab (Za9 (Zkz (pl:=_) T R rfl mB (pa2 (pv 0) (Zno (pv 1) (by decide +kernel))))) <|
  Zar (Zn4 S (pv 0) (pv 1) rfl),?_⟩
 refine⟨_,rfl,_,rfl,i,rfl,hi,fun z hz=>⟨e,z,rfl,he,?_⟩⟩;exact⟨_,rfl,_,rfl,e,rfl,he,fun d od nd ro=>q d od nd ro⟩
def Zw1 (P:Program)(w:World)(K:W.Frag)(mg:Str->Option Value)(base:Heap)(C:Addr):Prop:=mg "BadRow" = some (.ref C)/\∃ fi fd,Zhi K C fi/\Binds K fd ["self","row"] []/\Zlu P w K mg base CX0 1 fi fd ["self","row"] (fun _=>Zwf C)
def Ztm (C cR:Addr):Sp:=fun vs H Q E=>∃ (x d f p:Addr)(D:Nat)(kvs:List (Key×V))(pl:Int),vs=[.ref x,.ref p,.int pl]/\pl.natAbs.log2<1920/\TabAt C H x d f D kvs/\kvs.length<sizeLine/\
 ((∃ (k:Int)(v:Str),H p=some (.tup [.str "put",.int k,.str v])/\Of k D/\Q .non (upd H d (.dK (Ze4 kvs (.inl k) (.str v)))))\/
  (∃ k:Int,H p=some (.tup [.str "cut",.int k])/\Of k D/\(∀ v,Zcf kvs (.inl k)=some v->Q .non (upd H d (.dK (Zc0 kvs (.inl k)))))/\(Zcf kvs (.inl k)=none->Refd cR pl H E)))
theorem scSt:Zak ["table","step","place"] ["table","step","place"] (Zad Zko):=Zb2
theorem Zvn (F:FunAt K mg "take_step" Zko)(T:Txt K mg C)(N:Npl K mg cE)(B:Zw1 P w K mg base cR)(Mp:MtN P w K mg base C 3 "put" ["self","key","value"] (Ztf C cE))(Mc:MtN P w K mg base C 3 "cut" ["self","key"] (Zta C cE)):FnR P w K mg base 4 "take_step" ["table","step","place"] (Ztm C cR):=by
 refine F.okR scSt (fun _ _ _ _ _ _=>l3e fun _ _ _=>rfl) (fun vs H Q E h=>?_) (fun f0 ad A outer s H vs Q E hr h=>?_)
 . obtain⟨x,d,f,p,D,kvs,pl,rfl,_⟩:=h;rfl
 obtain⟨x,d,f,p,D,kvs,pl,rfl,hpl,hT,hz,q⟩:=h;obtain⟨⟨dx,h1⟩,h2⟩:=id hT;obtain⟨hmR,fi,fd,XI,hbi,FH⟩:=B;refine⟨_,Zar (Zts rfl ⟨rfl,rfl⟩ N.xc rfl N.hm
  (Zht (Zyb (Zaj Za2 (Zaw Za7 (pv 1) Zae (fun _ _=>rfl)) Zav (Zam _)) (Zht (Zkb Mp (pv 0) T.cl hr (pa2 (Zaw Za7 (pv 1) Zae (fun _ _=>rfl)) (Zaw Za7 (pv 1) Zae (fun _ _=>rfl))))) (Zht (Zkb Mc (pv 0) T.cl hr (pa1 (Zaw Za7 (pv 1) Zae (fun _ _=>rfl)))))))
  Zl7 XI FH hr.m hbi rfl hmR (fun _ _=>pa1 (pv 2))),?_⟩
 rcases q with⟨k,v,hp,hO,q⟩ | ⟨k,hp,hO,q1,q2⟩
 . refine⟨_,rfl,p,_,0,_,rfl,rfl,.inl (.inl hp),rfl,rfl,_,rfl,?_⟩;rw[Xah rfl];refine Zbz ⟨_,rfl,x,dx,_,rfl,h1,rfl,_,rfl,p,_,1,_,rfl,rfl,.inl (.inl hp),rfl,_,rfl,p,_,2,_,rfl,rfl,.inl (.inl hp),rfl,x,d,f,D,kvs,k,.str v,rfl,hT,hz,fun _=>q,fun c=>absurd hO c⟩
 . refine⟨_,rfl,p,_,0,_,rfl,rfl,.inl (.inl hp),rfl,rfl,_,rfl,?_⟩;rw[Xag (fun z=>absurd (V.str.inj z) (by decide +kernel))];refine Zby ⟨_,rfl,x,dx,_,rfl,h1,rfl,_,rfl,p,_,1,_,rfl,rfl,.inl (.inl hp),rfl,x,d,f,D,kvs,k,rfl,hT,fun v _ hv=>q1 v hv,fun c=>⟨cE,rfl,rfl,fun e1 o1 n1 ix=>?_⟩⟩;have hv:Zcf kvs (.inl k)=none:=by
    rcases c with c | c
    . exact absurd hO c
    . exact c
   have k1:∀ b o,H b=some o->upd H e1 (.frz o1 (.own 0)) b=some o:=fun b o e=>by rw[Zaf (Zac e n1)];exact e
   have r:=Refd.up (q2 hv) k1;refine⟨_,rfl,(by show 1<=1000;decide),fun e ne0 hn=>⟨e,pl,rfl,hpl,Zaa,fun dd od nd ro=>⟨rfl,e,dd,rfl,hn,?_,?_,?_,?_⟩⟩⟩
   . rintro rfl;rw[Zaa] at ne0;cases ne0
   . have ne:e≠dd:=by rintro rfl;rw[Zaa] at nd;cases nd
     rw[Zaf ne];exact Zaa
   . have ne1:e1≠e:=by rintro rfl;rw[Zaa] at ne0;cases ne0
     have ne:e1≠dd:=by rintro rfl;rw[Zaf ne1,Zaa] at nd;cases nd
     rw[Zaf ne,Zaf ne1,Zaf ne1];exact Zaa
   . have ne:dd≠e:=by rintro rfl;rw[Zaa] at nd;cases nd
     rw[Zaf ne] at nd;refine r _ dd od (fun b o z=>?_) (by rw[Zcm ne];exact Zaa) ro;rw[Zcm (Zac z ne0),Zaf (Zac z nd),Zaf (Zac z ne0),Zaf (Zac z ne0)];exact z
noncomputable def goR (D:Nat):Nat->List Str->List (Key×V)->Sum Nat (List (Key×V))
 | _,[],kvs=>.inr kvs
 | n,r :: l,kvs=>match Zbn r D with
  | none=>.inl n
  | some none=>goR D (n+1) l kvs
  | some (some (.put k v))=>goR D (n+1) l (Ze4 kvs (.inl (k:Int)) (.str v))
  | some (some (.cut k))=>match Zcf kvs (.inl (k:Int)) with
   | none=>.inl n
   | some _=>goR D (n+1) l (Zc0 kvs (.inl (k:Int)))
theorem Zkx {r:Str}{D:Nat}:(∀ k v,Zbn r D=some (some (.put k v))->Of (k:Int) D)/\(∀ k,Zbn r D=some (some (.cut k))->Of (k:Int) D):=by
 have key:∀ w k,Zhz w D=some k->Of (k:Int) D:=fun w k h=>by
  unfold Zhz at h;split at h
  . next c=>
    cases h
    refine⟨om,?_⟩;have:=c.2.2.2;have e2:((2 ^ D:Nat):Int)=(2:Int) ^ D:=by norm_cast
    rw[<- e2];omega
  . cases h
 have kk:∀ b st,Zes b D=some (some st)->match st with | .put k _=>Of (k:Int) D | .cut k=>Of (k:Int) D:=fun b st h=>by
  unfold Zes at h;split at h
  . cases h
  . split at h
    . split at h
      . cases e:Zhz ((b.drop 4).takeWhile (· != 32)) D with
        | none=>rw[e] at h;cases h
        | some k=>rw[e] at h;cases h;exact key _ _ e
      . cases h
    . split at h
      . cases e:Zhz ((b.drop 4).reverse.dropWhile (· == 32)).reverse D with
        | none=>rw[e] at h;cases h
        | some k=>rw[e] at h;cases h;exact key _ _ e
      . cases h
 exact⟨fun k v h=>kk _ _ h,fun k h=>kk _ _ h⟩
end
section
open Tx
def Zx0 (C cR:Addr):Sp:=fun vs H Q E=>∃ (x d f:Addr)(t:Str)(D:Nat)(kvs:List (Key×V)),vs=[.ref x,.str t,.int (D:Int)]/\TabAt C H x d f D kvs/\kvs.length<=5000/\t.length<=sizeLine/\(Txt.split t "\n").length<=1000/\(∀ r∈Txt.split t "\n",r.length<=1000/\r.cps.all (· < 128)=true)/\
 match goR D 0 (Txt.split t "\n") kvs with
 | .inl n=>Refd cR (n:Int) H E
 | .inr kvs'=>∀ y e H',TabAt C H' y e f D kvs'->(∀ b o,H b=some o->H' b=some o)->H y=none->H e=none->Q (.ref y) H'
theorem scCd:Zak ["table","text","depth","after","place","row","step"] ["table","text","depth"] (Zad Zfh):=Zb2
theorem Zx2 {D n:Nat}{ac:List Str}{i:Nat}{r:Str}{kvs:List (Key×V)}(h:ac[i]? = some r):goR D n (ac.drop i) kvs=goR D n (r :: ac.drop (i+1)) kvs:=by
 have hi:=(List.getElem?_eq_some_iff.mp h).1;rw[List.drop_eq_getElem_cons hi,(List.getElem?_eq_some_iff.mp h).2]
theorem Zmm (F:FunAt K mg "changed" Zfh)(T:Txt K mg C)(Mt:MtP P w K mg base C 3 "twin" ["self"] (Zs9 C))(Fa:FnR P w K mg base 4 "read_at" ["row","depth","place"] (Zxv cR))(Fs:FnR P w K mg base 4 "take_step" ["table","step","place"] (Ztm C cR))(me:mg "enumerate" = none):FnR P w K mg base 5 "changed" ["table","text","depth"] (Zx0 C cR):=by
 refine F.okR scCd (fun _ _ _ _ _ _=>l3e fun _ _ _=>rfl) (fun vs H Q E h=>?_) (fun f0 ad A outer s H vs Q E hr h=>?_)
 . obtain⟨x,d,f,t,D,kvs,rfl,_⟩:=h;rfl
 obtain⟨x,d,f,t,D,kvs,rfl,hT,hkl,ht,ai,hrow,q⟩:=h;obtain⟨⟨dx,h1⟩,h2⟩:=id hT;have nd:=scCd.nd;refine⟨_,Zab (Zao (i:=3) nd rfl (Or.inl rfl) (Zcn Mt (pv 0) T.cl hr.m)) <|
  Zab (Zgs PassesOwn.leaving rfl (Zt7 rfl me (pa1 (Zco Xbb PySem.F.slot_str_split PySem.F.type_str_split Zj8 (pv 1) (pa1 Zav)))) (Zyh rfl (Zle (Zd3 (i:=4) nd rfl (Or.inl rfl)) (Zle (Zd3 (i:=5) nd rfl (Or.inl rfl)) Ztt))) <|
   Zab (Zao (i:=6) nd rfl (Or.inl rfl) (Zea Zdb Fa hr rfl (pa3 (pv 5) (pv 2) (pv 4)))) <|
   Zar (Zat (Zaj Zp6 (pv 6) Zdl (Zam _)) (Zar (Za9 (Zea Zdb Fs hr rfl (pa3 (pv 3) (pv 6) (pv 4))))) Zal)) <|
  psr (pv 3),?_⟩
 refine⟨_,rfl,x,dx,_,rfl,h1,rfl,x,d,f,D,kvs,rfl,hT,fun y e H1 T1 k1 ny ne=>?_⟩;dsimp only[Zbk];refine⟨_,rfl,rfl,t,"\n",rfl,rfl,by decide +kernel,ht,by rw[Xam];omega,fun l nl'=>?_⟩;generalize Txt.split t "\n" = ac at ai hrow q ⊢;generalize hres:goR D 0 ac kvs=res at q;have k2:∀ b o,H1 b=some o->upd H1 l (.lst (ac.map V.str)) b=some o:=fun b o e=>by rw[Zaf (Zac e nl')];exact e
 obtain⟨⟨dy,y1⟩,y2⟩:=T1;refine⟨l,ac.map V.str,rfl,SqL.of Zaa,?_⟩;refine Zrz (xs:=ac.map V.str) (fun i σ H'=>(∀ b o,H b=some o->H' b=some o)/\H' l=some (.lst (ac.map V.str))/\(∃ kvi,TabAt C H' y e f D kvi/\res=goR D i (ac.drop i) kvi/\kvi.length<=kvs.length+i)/\∃ o4 o5 o6,σ=[some (.ref x),some (.str t),some (.int (D:Int)),some (.ref y),o4,o5,o6])
  ⟨fun b o e=>k2 _ _ (k1 _ _ e),Zaa,⟨kvs,⟨⟨dy,k2 _ _ y1⟩,k2 _ _ y2⟩,hres.symm,om⟩,none,none,none,rfl⟩ (fun i σ H' _ h=>SqL.of h.2.1) ?_ ?_
 . rintro i v p σ H2 hv np ⟨x2,hl2,⟨kvi,T2,hg,hkv⟩,o4,o5,o6,rfl⟩;obtain⟨r,er,rfl⟩:∃ r,ac[i]? = some r/\v = .str r:=by
    rw[Xas] at hv;cases e:ac[i]? with
    | none=>rw[e] at hv;cases hv
    | some r=>rw[e] at hv;exact⟨r,rfl,by simpa using hv.symm⟩
   have hi:i<ac.length:=(List.getElem?_eq_some_iff.mp er).1;have mem:=Xa7 er;rw[Zx2 er] at hg;have k3:∀ b o,H2 b=some o->upd H2 p (.tup [.int (i:Nat),.str r]) b=some o:=fun b o e=>by rw[Zaf (Zac e np)];exact e
   have sm:((i:Nat):Int).natAbs.log2<1920:=by
    have:((i:Nat):Int).natAbs=i:=rfl;rw[this];exact Xbm (Nat.log2_le_self i) om
   refine⟨p,_,rfl,.inl (.inl Zaa),rfl,_,_,rfl,_,_,rfl,rfl,?_⟩;refine⟨_,rfl,_,rfl,_,rfl,r,D,(i:Int),rfl,(hrow r mem).1,(hrow r mem).2,sm,?_⟩;unfold goR at hg;obtain⟨⟨dy2,t1⟩,t2⟩:=T2;have ty:∀ {H':Hp},(∀ b o,H2 b=some o->H' b=some o)->TabAt C H' y e f D kvi:=fun k=>⟨⟨dy2,k _ _ t1⟩,k _ _ t2⟩
   have nye:y≠e:=by rintro rfl;rw[t1] at t2;cases t2
   have nle:l≠e:=by rintro rfl;rw[t2] at hl2;cases hl2
   have nxt:∀ (H3:Hp) (kv:List (Key×V)) (o6:Option V),(∀ b o,H2 b=some o->H3 b=some o)->kv.length<=kvs.length+(i+1)->res=goR D (i+1) (ac.drop (i+1)) kv->
    (∀ b o,H b=some o->upd H3 e (.dK kv) b=some o)/\upd H3 e (.dK kv) l=some (.lst (ac.map V.str))/\(∃ kvi,TabAt C (upd H3 e (.dK kv)) y e f D kvi/\res=goR D (i+1) (ac.drop (i+1)) kvi/\kvi.length<=kvs.length+(i+1))/\∃ o4' o5' o6',[some (.ref x),some (.str t),some (.int (D:Int)),some (.ref y),some (.int (i:Nat)),some (.str r),o6]=[some (.ref x),some (.str t),some (.int (D:Int)),some (.ref y),o4',o5',o6']:=fun H3 kv o6 k hl hg=>by
    refine⟨fun b o z=>?_,?_,⟨kv,⟨⟨dy2,?_⟩,Zaa⟩,hg,hl⟩,_,_,_,rfl⟩
    . rw[Zaf (Zac z ne)];exact k _ _ (x2 _ _ z)
    . rw[Zaf nle];exact k _ _ hl2
    . rw[Zaf nye];exact k _ _ t1
   have of:=Zkx (r:=r) (D:=D);cases hr2:Zbn r D with
   | none=>
    rw[hr2] at hg;rw[hg] at q;exact Refd.up q fun b o e=>k3 b o (x2 b o e)
   | some o=>
    rw[hr2] at hg of;cases o with
    | none=>
     intro H3 x3;refine⟨_,rfl,rfl,_,rfl,?_⟩;rw[Xah rfl];have kk:∀ b o,H2 b=some o->H3 b=some o:=fun b o e=>x3 _ _ (k3 _ _ e);exact Zby ⟨fun b o e=>kk _ _ (x2 b o e),kk _ _ hl2,⟨kvi,ty kk,hg,om⟩,_,_,_,rfl⟩
    | some st=>
     cases st with
     | put a v2=>
      intro H3 p3 x3 h3;have kk:∀ b o,H2 b=some o->H3 b=some o:=fun b o e=>x3 _ _ (k3 _ _ e);refine⟨_,rfl,rfl,_,rfl,?_⟩;rw[Xag (fun h=>nomatch h)];refine Zbz ⟨_,rfl,_,rfl,_,rfl,y,e,f,p3,D,kvi,(i:Int),rfl,sm,ty kk,by rw[Xam];omega,.inl ⟨a,v2,h3,of.1 a v2 rfl,?_⟩⟩;exact nxt H3 _ _ kk (by have:=Zdd kvi (.inl (a:Int):Key) (V.str v2);omega) hg
     | cut a=>
      dsimp only at hg;intro H3 p3 x3 h3;have kk:∀ b o,H2 b=some o->H3 b=some o:=fun b o e=>x3 _ _ (k3 _ _ e);refine⟨_,rfl,rfl,_,rfl,?_⟩;rw[Xag (fun h=>nomatch h)];refine Zbz ⟨_,rfl,_,rfl,_,rfl,y,e,f,p3,D,kvi,(i:Int),rfl,sm,ty kk,by rw[Xam];omega,.inr ⟨a,h3,of.2 a rfl,fun v hv=>?_,fun hv=>?_⟩⟩
      . rw[hv] at hg;exact nxt H3 _ _ kk (by have:=Zhr kvi (.inl (a:Int):Key);omega) hg
      . rw[hv] at hg;rw[hg] at q;exact Refd.up q fun b o e=>kk _ _ (x2 b o e)
 . rintro σ H2 ⟨x2,hl2,⟨kvi,T2,hg,hkv⟩,o4,o5,o6,rfl⟩;rw[Xad,List.drop_length] at hg;unfold goR at hg;rw[hg] at q;exact⟨_,rfl,q y e H2 T2 x2 ny ne⟩
end
section
open Tx PySem.NumText
theorem Zux {ys:List Str}(h:∀ y∈ys,Sg y):∀ c∈sg (Txt.join "" ys),32<=c/\c<=126:=by
 have e0:("" : Str)=⟨#[]⟩:=by decide +kernel
 have key:∀ {ys:List Str},(∀ y∈ys,Sg y)->∀ c∈sg (Str.join ⟨#[]⟩ ys),32<=c/\c<=126:=by
  intro ys
  induction ys with
  | nil=>intro _ c hc;exact absurd hc (by show c∉(#[]:Array Nat).toList;simp)
  | cons y r ih=>
   intro h c hc;rw[PyProof.Rows.join_nil_cons] at hc;have hc:c∈sg (y++Str.join ⟨#[]⟩ r):=hc;rw[Zd0] at hc;rcases List.mem_append.mp hc with z | z
   . exact(h y Xaz).2 c z
   . exact ih (fun y hy=>h y (Xal _ hy)) c z
 intro c hc;have e:Txt.join "" ys=Str.join ⟨#[]⟩ ys:=by
  show Builtin.Str.glued "" ys=_;rw[StrLaws.glued_eq_join,e0]
 rw[e] at hc;exact key h c hc
theorem Zsa {us:List Str}(h:∀ y∈us,Sg y):(Txt.join "" us).length=us.length:=W.KT.join_ones us fun a ha=>(h a ha).1
abbrev Zbt (z:Str):Prop:=∀ c∈sg z,32<=c/\c<=126
theorem Zdv {a b:Str}(ha:Zbt a)(hb:Zbt b):Zbt (a++b):=fun c hc=>by
 rw[Zd0] at hc;exact(List.mem_append.mp hc).elim (ha c) (hb c)
noncomputable abbrev dgs (n:Nat):List Nat:=(Nat.toDigits 10 n).map Char.toNat
theorem Zu0 {n:Nat}(h:n<100000):(dgs n).length<=5:=by
 rw[Xad];exact(Nat.length_toDigits_le_iff (by decide) (by decide)).mpr h
theorem rep0 {n:Int}(h0:0<=n)(h1:n<4):sg (Zqx "0" n)=List.replicate n.toNat 48:=by
 obtain rfl | rfl | rfl | rfl:n=0\/n=1\/n=2\/n=3:=by omega
 all_goals decide +kernel
noncomputable def Zbj (D:Nat):Nat->List Str->List (Nat×Stp)
 | _,[]=>[]
 | n,r :: l=>(match Zbn r D with | some (some st)=>[(n,st)] | _=>[])++Zbj D (n+1) l
theorem Zdn (D:Nat):∀ (n:Nat)(l:List Str)(r:Str),Zbj D n (l++[r])=Zbj D n l++(match Zbn r D with | some (some st)=>[(n+l.length,st)] | _=>[])
 | n,[],r=>by simp[Zbj]
 | n,a :: l,r=>by
  show _++Zbj D (n+1) (l++[r])=_;rw[Zdn D (n+1) l r];show _=(_++Zbj D (n+1) l)++_;rw[List.append_assoc,show n+1+l.length=n+(a :: l).length by simp;omega]
noncomputable def goS:List (Nat×Stp)->List (Key×V)->Sum Nat (List (Key×V))
 | [],kvs=>.inr kvs
 | (n,.put k v) :: l,kvs=>goS l (Ze4 kvs (.inl (k:Int)) (.str v))
 | (n,.cut k) :: l,kvs=>match Zcf kvs (.inl (k:Int)) with
  | none=>.inl n
  | some _=>goS l (Zc0 kvs (.inl (k:Int)))
theorem Zkc {D:Nat}:∀ (n:Nat)(ac:List Str)(kvs:List (Key×V)),(∀ r∈ac,Zbn r D≠none)->goR D n ac kvs=goS (Zbj D n ac) kvs
 | _,[],_,_=>rfl
 | n,r :: l,kvs,h=>by
  have ih:=fun kvs=>Zkc (n+1) l kvs fun x hx=>h x (Xal _ hx);have h0:=h r Xaz;show(match Zbn r D with | none=>.inl n | some none=>goR D (n+1) l kvs | some (some (.put k v))=>goR D (n+1) l (Ze4 kvs (.inl (k:Int)) (.str v)) | some (some (.cut k))=>match Zcf kvs (.inl (k:Int)) with | none=>.inl n | some _=>goR D (n+1) l (Zc0 kvs (.inl (k:Int))))=goS ((match Zbn r D with | some (some st)=>[(n,st)] | _=>[])++Zbj D (n+1) l) kvs;cases e:Zbn r D with
  | none=>exact absurd e h0
  | some o=>
   match o with
   | none=>exact ih kvs
   | some (.put k v)=>exact ih _
   | some (.cut k)=>
    show(match Zcf kvs (.inl (k:Int)) with | none=>_ | some _=>_)=(match Zcf kvs (.inl (k:Int)) with | none=>_ | some _=>_);cases Zcf kvs (.inl (k:Int)) with
    | none=>rfl
    | some v=>exact ih _
def OpAt (H:Hp):Nat×Stp->V->Prop
 | (n,.put k v),x=>∃ p,x = .ref p/\H p=some (.tup [.int (n:Int),.int (k:Int),.str v])
 | (n,.cut k),x=>∃ p,x = .ref p/\H p=some (.tup [.int (n:Int),.int (k:Int),.non])
theorem OpAt.up {H H':Hp}{e:Nat×Stp}{x:V}(h:OpAt H e x)(k:∀ p xs,H p=some (.tup xs)->H' p=some (.tup xs)):OpAt H' e x:=by
 obtain⟨n,st⟩:=e;cases st with
 | put a v=>obtain⟨p,e1,e2⟩:=h;exact⟨p,e1,k _ _ e2⟩
 | cut a=>obtain⟨p,e1,e2⟩:=h;exact⟨p,e1,k _ _ e2⟩
noncomputable def stK:Stp->Int
 | .put k _=>(k:Int)
 | .cut k=>(k:Int)
noncomputable abbrev nrK (ks:List Int):List Int:=ks++ks.map fun k=>Builtin.bitXor k 1
def RdK (ks:List Int)(D:Nat)(r:Str):Prop:=∃ o,Zbn r D=some o/\∀ st,o=some st->stK st∈nrK ks
theorem RdK.ne {ks:List Int}{D:Nat}{r:Str}(h:RdK ks D r):Zbn r D≠none:=by
 obtain⟨o,e,_⟩:=h;rw[e];exact fun z=>nomatch z
def Zn0 (K:W.Frag):Sp:=fun vs H Q _=>∃ (c:Int)(D:Nat)(aN:Addr)(ks:List Int),vs=[.int c,.int (D:Int),.ref aN]/\H aN=some (.lst (ks.map V.int))/\0<ks.length/\(∀ k∈ks,Of k D)/\1<=D/\D<=16/\
 ∀ p l H' ac ws,H' p=some (.tup [.str (Txt.join "\n" ac),.ref l])->H' l=some (.lst ws)->Paired (OpAt H') (Zbj D 0 ac) ws->ac.length<=3->(∀ r∈ac,r.length<=100/\Zbt r/\RdK ks D r)->H l=none->(∀ b o,H b=some o->H' b=some o)->Q (.ref p) H'
theorem scTx:Zak ["_law_cell","_law_depth","_law_near","_law_rows","_law_done","_law_k","_law_one","_law_key","_law_kind","_law_text_here"] ["_law_cell","_law_depth","_law_near"] (Zad Ziz):=Zb2
theorem Zjq:∀ {ys:List Str},(∀ y∈ys,y.length<=100)->(ys.map (·.length)).sum<=100 * ys.length
 | [],_=>by simp
 | y :: ys,h=>by
  have:=Zjq fun z hz=>h z (Xal _ hz);have h1:=h y Xaz;rw[Xbf,List.sum_cons,Xax];omega
theorem Zik {ks:List Int}{H H6:Hp}{aR aD p:Addr}{D i:Nat}{ac:List Str}{ws:List V}{r:Str}{st:Stp}{tp:List V}(x6:∀ b o,H b=some o->H6 b=some o)(nR:H aR=none)(nD:H aD=none)(nRD:aR≠aD)(hR:H6 aR=some (.lst (ac.map V.str)))(hD:H6 aD=some (.lst ws))(pr:Paired (OpAt H6) (Zbj D 0 ac) ws)
 (rl:ac.length=i)(wl:ws.length<=i)(hall:∀ r∈ac,r.length<=100/\Zbt r/\RdK ks D r)(hr:r.length<=100/\Zbt r)(hrd:Zbn r D=some (some st))(hkk:stK st∈nrK ks)(np:upd H6 aR (.lst (ac.map V.str++[V.str r])) p=none)(ht:∀ {H':Hp},H' p=some (.tup tp)->OpAt H' (i,st) (.ref p)) :
 (∀ b o,H b=some o->upd (upd (upd H6 aR (.lst (ac.map V.str++[V.str r]))) p (.tup tp)) aD (.lst (ws++[.ref p])) b=some o)/\(∃ rows' ws',upd (upd (upd H6 aR (.lst (ac.map V.str++[V.str r]))) p (.tup tp)) aD (.lst (ws++[.ref p])) aR=some (.lst (rows'.map V.str))/\upd (upd (upd H6 aR (.lst (ac.map V.str++[V.str r]))) p (.tup tp)) aD (.lst (ws++[.ref p])) aD=some (.lst ws')/\
  Paired (OpAt (upd (upd (upd H6 aR (.lst (ac.map V.str++[V.str r]))) p (.tup tp)) aD (.lst (ws++[.ref p])))) (Zbj D 0 rows') ws'/\rows'.length=i+1/\ws'.length<=i+1/\∀ r∈rows',r.length<=100/\Zbt r/\RdK ks D r):=by
 have pR:aR≠p:=by rintro rfl;rw[Zaa] at np;cases np
 have e1:∀ {b:Addr}{o:HO},H6 b=some o->b≠aR->upd H6 aR (.lst (ac.map V.str++[V.str r])) b=some o:=fun e n=>by rw[Zaf n];exact e
 have pD:aD≠p:=Zac (e1 hD (Ne.symm nRD)) np;have keep:∀ q xs,H6 q=some (.tup xs)->upd (upd (upd H6 aR (.lst (ac.map V.str++[V.str r]))) p (.tup tp)) aD (.lst (ws++[.ref p])) q=some (.tup xs):=fun q xs e=>by
  have n1:q≠aR:=by rintro rfl;rw[hR] at e;cases e
  have n2:q≠aD:=by rintro rfl;rw[hD] at e;cases e
  rw[Zaf n2,Zaf (Zac (e1 e n1) np)];exact e1 e n1
 refine⟨fun b o e=>?_,ac++[r],ws++[.ref p],?_,Zaa,?_,by simp;omega,by simp;omega,fun y hy=>?_⟩
 . have n1:b≠aR:=Zac e nR;rw[Zaf (Zac e nD),Zaf (Zac (e1 (x6 _ _ e) n1) np)];exact e1 (x6 _ _ e) n1
 . rw[Zaf nRD,Zaf pR,Zaa,Xbk];rfl
 . rw[Zdn,hrd,rl,Nat.zero_add];refine Zdp (L2.Paired.imp2 (fun e x h=>OpAt.up h keep) pr) (.cons (ht ?_) .nil);rw[Zaf (Ne.symm pD)];exact Zaa
 . rcases List.mem_append.mp hy with z | z
   . exact hall y z
   . rw[List.mem_singleton.mp z];exact⟨hr.1,hr.2,_,hrd,fun s e=>by cases e;exact hkk⟩
theorem Zry {ks:List Int}{H H6:Hp}{aR aD:Addr}{D i:Nat}{ac:List Str}{ws:List V}{r:Str}(x6:∀ b o,H b=some o->H6 b=some o)(nR:H aR=none)(nRD:aR≠aD)(hR:H6 aR=some (.lst (ac.map V.str)))(hD:H6 aD=some (.lst ws))(pr:Paired (OpAt H6) (Zbj D 0 ac) ws)
 (rl:ac.length=i)(wl:ws.length<=i)(hall:∀ r∈ac,r.length<=100/\Zbt r/\RdK ks D r)(hr:r.length<=100/\Zbt r)(hrd:Zbn r D=some none) :
 (∀ b o,H b=some o->upd H6 aR (.lst (ac.map V.str++[V.str r])) b=some o)/\(∃ rows' ws',upd H6 aR (.lst (ac.map V.str++[V.str r])) aR=some (.lst (rows'.map V.str))/\upd H6 aR (.lst (ac.map V.str++[V.str r])) aD=some (.lst ws')/\
  Paired (OpAt (upd H6 aR (.lst (ac.map V.str++[V.str r])))) (Zbj D 0 rows') ws'/\rows'.length=i+1/\ws'.length<=i+1/\∀ r∈rows',r.length<=100/\Zbt r/\RdK ks D r):=by
 have keep:∀ q xs,H6 q=some (.tup xs)->upd H6 aR (.lst (ac.map V.str++[V.str r])) q=some (.tup xs):=fun q xs e=>by
  have n1:q≠aR:=by rintro rfl;rw[hR] at e;cases e
  rw[Zaf n1];exact e
 refine⟨fun b o e=>?_,ac++[r],ws,?_,?_,?_,by simp;omega,om,fun y hy=>?_⟩
 . rw[Zaf (Zac e nR)];exact x6 _ _ e
 . rw[Zaa,Xbk];rfl
 . rw[Zaf (Ne.symm nRD)];exact hD
 . rw[Zdn,hrd,Xba];exact L2.Paired.imp2 (fun e x h=>OpAt.up h keep) pr
 . rcases List.mem_append.mp hy with z | z
   . exact hall y z
   . rw[List.mem_singleton.mp z];exact⟨hr.1,hr.2,_,hrd,fun s e=>nomatch e⟩
noncomputable abbrev tσ (c:Int) (D:Nat) (aN aR aD:Addr) (k o e d t:Option V):St:=[some (.int c),some (.int (D:Int)),some (.ref aN),some (.ref aR),some (.ref aD),k,o,e,d,t]
theorem Zt1 (F:FunAt K mg "_law_text" Ziz)(Fd:FnP P w K mg base 1 "_law_draw" ["_law_cell","_law_k","_law_many"] Zez)(Fw:FnP P w K mg base 2 "_law_word" ["_law_cell"] Ztk)(ml:mg "len" = none)(mr:mg "range" = none)(ms:mg "str" = none):FnP P w K mg base 3 "_law_text" ["_law_cell","_law_depth","_law_near"] (Zn0 K):=by
 refine F.ok scTx (fun _ _ _ _ _ _=>l3e fun _ _ _=>rfl) (fun vs H Q E h=>?_) (fun f0 ad A outer s H vs Q E hr h=>?_)
 . obtain⟨c,D,aN,ks,rfl,_⟩:=h;rfl
 obtain⟨c,D,aN,ks,rfl,hN,hk0,hks,D1,D16,q⟩:=h;have nd:=scTx.nd;have hr1:Room 1 (A.deeper (PyProof.Rows.envOfC "_law_text" (Zad Ziz) s.heap.objs.size f0 ad)):=hr.mono om;refine⟨_,Zab (Zao (i:=3) nd rfl (Or.inl rfl) (Zau Zbl)) <|
  Zab (Zao (i:=4) nd rfl (Or.inl rfl) (Zau Zbl)) <|
  Zab (Zgs PassesOwn.never rfl (Zc2 rfl mr (pa1 (Zag Fd hr1 rfl (pa3 (pv 0) Zae Zae)))) (Zd3 (i:=5) nd rfl (Or.inl rfl)) <|
   Zab (Zao (i:=6) nd rfl (Or.inl rfl) (Zas Zcv (pv 0) (Zas Zfi Zae (pv 5)))) <|
   Zab (Zao (i:=7) nd rfl (Or.inl rfl) (Zas Zyi (Zaw Zax (pv 2) (Zag Fd hr1 rfl (pa3 (pv 6) Zae (Zai Zah rfl ml boot_len (pa1 (pv 2))))) (fun _ _=>rfl)) (Zag Fd hr1 rfl (pa3 (pv 6) Zae Zae)))) <|
   Zab (Zao (i:=8) nd rfl (Or.inl rfl) (Zag Fd hr1 rfl (pa3 (pv 6) Zae Zae))) <|
   Zab (Zao (i:=9) nd rfl (Or.inl rfl) (Zag Fw hr rfl (pa1 (pv 6)))) <|
   Zar (Zat (Zaj Zdg (pv 8) Zae (Zam _))
    (Zab (Za9 (Zco Xa1 Xa4 Xa3 Zbp (pv 3) (pa1 (Zas Zck (Zas Zck (Zas Zck (Zas Zck Zav (Zas Zoo Zav (Zag Fd hr1 rfl (pa3 (pv 6) Zae Zae)))) (Zdk Zey rfl ms PyProof.Rows.boot_str (pa1 (pv 7)))) Zav) (pv 9))))) <|
     Zar (Za9 (Zco Xa1 Xa4 Xa3 Zbp (pv 4) (pa1 (Zbw (pa3 (pv 5) (pv 7) (pv 9)))))))
    (Zar (Zat (Zaj Zdg (pv 8) Zae (Zam _))
     (Zab (Za9 (Zco Xa1 Xa4 Xa3 Zbp (pv 3) (pa1 (Zas Zck Zav (Zdk Zey rfl ms PyProof.Rows.boot_str (pa1 (pv 7))))))) <|
      Zar (Za9 (Zco Xa1 Xa4 Xa3 Zbp (pv 4) (pa1 (Zbw (pa3 (pv 5) (pv 7) Zdl))))))
     (Zar (Za9 (Zco Xa1 Xa4 Xa3 Zbp (pv 3) (pa1 (Zas Zck Zav (pv 9)))))))))) <|
  psr (Zbw (pa2 (Zco Xbb PySem.F.slot_str_join PySem.F.type_str_join Zju Zav (pa1 (pv 3))) (pv 4))),?_⟩
 refine⟨sl0,fun aR nR=>?_⟩;dsimp only[Zbk];refine⟨sl0,fun aD nD=>?_⟩;dsimp only[Zbk];have nRD:aR≠aD:=by rintro rfl;rw[Zaa] at nD;cases nD
 have nD0:H aD=none:=by rw[Zaf (Ne.symm nRD)] at nD;exact nD
 have k0:∀ b o,H b=some o->upd (upd H aR (.lst [])) aD (.lst []) b=some o:=fun b o e=>by rw[Zaf (Zac e nD0),Zaf (Zac e nR)];exact e
 have nNR:aN≠aR:=Zac hN nR;have nND:aN≠aD:=Zac hN nD0;refine⟨_,rfl,c,0,4,rfl,om,om,fun v0 H1 a0 b0 x1=>⟨v0,rfl,om,om,?_⟩⟩;refine Zec (n:=v0.toNat) (fun i σ H'=>(∀ b o,H b=some o->H' b=some o)/\(∃ ac ws,H' aR=some (.lst (ac.map V.str))/\H' aD=some (.lst ws)/\Paired (OpAt H') (Zbj D 0 ac) ws/\ac.length=i/\ws.length<=i/\∀ r∈ac,r.length<=100/\Zbt r/\RdK ks D r)/\∃ o5 o6 o7 o8 o9,σ=tσ c D aN aR aD o5 o6 o7 o8 o9)
  ⟨fun b o e=>x1 _ _ (k0 _ _ e),⟨[],[],x1 _ _ (by rw[Zaf nRD];exact Zaa),x1 _ _ Zaa,.nil,rfl,by simp,by simp⟩,none,none,none,none,none,rfl⟩ ?_ ?_
 . rintro i σ H2 hi ⟨x2,⟨ac,ws,hR2,hD2,pr,rl,wl,hall⟩,o5,o6,o7,o8,o9,rfl⟩;rw[show(0:Int)+(i:Int)=((i:Nat):Int) by omega];dsimp only[Zbk];refine⟨_,rfl,_,rfl,_,_,rfl,rfl,.inl ⟨by decide,om⟩,_,_,rfl,rfl,?_⟩;dsimp only[Zbk];generalize c+61 * ((i:Nat):Int)=one;have hN2:=x2 _ _ hN;refine⟨_,rfl,_,rfl,_,rfl,aN,_,rfl,.inl (SqL.of hN2),one,1,_,rfl,om,by rw[Xad];omega,fun v1 H3 a1 b1 x3=>?_⟩;rw[Xad] at b1;have hv:v1.toNat<ks.length:=by omega
   have ek:atI (ks.map V.int) v1=some (.int ks[v1.toNat]):=by
    have z:atI (ks.map V.int) ((v1.toNat:Nat):Int)=some (.int ks[v1.toNat]):=Zan (by rw[Xas,Xab hv];rfl);rw[show((v1.toNat:Nat):Int)=v1 by omega] at z;exact z
   obtain⟨r0,r1⟩:=hks _ (Xbh hv);refine⟨aN,_,v1,_,rfl,rfl,SqL.of (x3 _ _ hN2),ek,_,rfl,one,2,2,rfl,om,om,fun v2 H4 a2 b2 x4=>⟨_,_,rfl,rfl,?_⟩⟩;dsimp only[Zbk];obtain⟨kn,ekn,hkn,hmem⟩:∃ kn:Nat,Builtin.bitXor ks[v1.toNat] v2=(kn:Int)/\kn<2 ^ D/\(kn:Int)∈nrK ks:=by
    have e2:((2 ^ D:Nat):Int)=(2:Int) ^ D:=by norm_cast
    have key:∀ x:Int,0<=x->x<2 ^ D->x∈nrK ks->∃ kn:Nat,x=(kn:Int)/\kn<2 ^ D/\(kn:Int)∈nrK ks:=fun x h0 h1 hm=>⟨x.toNat,om,by rw[<- e2] at h1;omega,by rw[show((x.toNat:Nat):Int)=x by omega];exact hm⟩
    obtain rfl | rfl:v2=0\/v2=1:=by omega
    . have e0:Builtin.bitXor ks[v1.toNat] 0=ks[v1.toNat]:=by rw[PyProof.Rows.bitXor_and,PyProof.Rows.bitAnd_zero];omega
      rw[e0];exact key _ r0 r1 (List.mem_append_left _ (Xbh hv))
    . obtain⟨y0,y1⟩:=xor1 D1 r0 r1;exact key _ y0 y1 (Xa2 _ (List.mem_map.mpr ⟨_,Xbh hv,rfl⟩))
   rw[ekn];refine⟨_,rfl,one,3,8,rfl,om,om,fun v3 H5 a3 b3 x5=>?_⟩;dsimp only[Zbk];refine⟨_,rfl,one,rfl,fun us H6 hul hus x6=>?_⟩;dsimp only[Zbk];have wlen:(Txt.join "" us).length<=5:=by rw[Zsa hus];exact hul
   have wvis:Zbt (Txt.join "" us):=Zux hus;generalize Txt.join "" us=wd at wlen wvis;have k26:∀ b o,H2 b=some o->H6 b=some o:=fun b o e=>x6 _ _ (x5 _ _ (x4 _ _ (x3 _ _ e)));have x26:∀ b o,H b=some o->H6 b=some o:=fun b o e=>k26 _ _ (x2 _ _ e);have hR6:=k26 _ _ hR2;have hD6:=k26 _ _ hD2;have pr6:=L2.Paired.imp2 (fun e x h=>OpAt.up h fun p' xs y=>k26 _ _ y) pr;have hp16:2 ^ D<=65536:=Xan (Xb3 (by decide) D16) (by decide);have dl:=Zu0 (n:=kn) om;have nb:((kn:Nat):Int).natAbs.log2<1920:=by
    rw[Int.natAbs_natCast];rcases Nat.eq_zero_or_pos kn with h0 | h0
    . rw[h0];decide
    . exact(Nat.log2_lt om).mpr (Xao (show kn<65536 by omega) (Xan (by decide:65536<=2 ^ 16) (Xb3 (by decide) (by decide))))
   have ls:(Str.ofString (toString ((kn:Nat):Int))).length<=5:=by rw[Zb1,Zkf];exact dl
   have vs:Zbt (Str.ofString (toString ((kn:Nat):Int))):=fun x hx=>by
    rw[Zkf] at hx;have:=Zhq kn x hx;omega
   have rz:(ac.map V.str).length<sizeLine:=by rw[Xad,Xam];omega
   have wz:ws.length<sizeLine:=by rw[Xam];omega
   refine⟨_,rfl,_,_,rfl,rfl,_,rfl,Zcl (fun _=>?_) (fun _=>?_)⟩
   . have lp:("put " : Str).length=4:=by decide +kernel
     have lb:(" " : Str).length=1:=by decide +kernel
     have sb:sg " " = [32]:=by decide +kernel
     refine⟨_,rfl,.inl ⟨rfl,_,SqL.of hR6⟩,_,rfl,one,4,3,rfl,om,om,fun v4 H7 a4 b4 x7=>?_⟩;have er:=rep0 a4 om;have lr:(Zqx "0" v4).length<=3:=by rw[Zb1,er,List.length_replicate];omega
     have vr:Zbt (Zqx "0" v4):=fun x hx=>by
      rw[er] at hx;have:=List.eq_of_mem_replicate hx;omega
     refine⟨_,_,rfl,rfl,a4,om,om,_,_,rfl,rfl,by rw[Xam,lp];omega,_,rfl,kn,rfl,nb,_,_,rfl,rfl,by rw[Xam,strLen_append,lp];exact Xan (Nat.add_le_add (Xbo lr _) ls) (by decide),_,_,rfl,rfl,?_,_,rfl,_,_,rfl,rfl,?_,aR,_,_,rfl,rfl,x7 _ _ hR6,rz,?_⟩
     . rw[Xam,strLen_append,strLen_append,lp,lb];exact Xan (Nat.add_le_add_right (Nat.add_le_add (Xbo lr _) ls) _) (by decide)
     . rw[Xam,strLen_append,strLen_append,strLen_append,lp,lb];exact Xan (Nat.add_le_add (Nat.add_le_add_right (Nat.add_le_add (Xbo lr _) ls) _) wlen) (by decide)
     have hrow:("put "++Zqx "0" v4++Str.ofString (toString ((kn:Nat):Int))++" "++wd).length<=100/\Zbt ("put "++Zqx "0" v4++Str.ofString (toString ((kn:Nat):Int))++" "++wd):=by
      refine⟨?_,Zdv (Zdv (Zdv (Zdv (by decide +kernel) vr) vs) (by decide +kernel)) wvis⟩;rw[strLen_append,strLen_append,strLen_append,strLen_append,lp,lb];exact Xan (Nat.add_le_add (Nat.add_le_add_right (Nat.add_le_add (Xbo lr _) ls) _) wlen) (by decide)
     have hrd:Zbn ("put "++Zqx "0" v4++Str.ofString (toString ((kn:Nat):Int))++" "++wd) D=some (some (.put kn wd)):=by
      rw[Zsj (n:=0) (w:=List.replicate v4.toNat 48++dgs kn) (v:=wd) (Zi2 (Zhq kn)) (by rw[Zd0,Zd0,Zd0,Zd0,er,Zss,Zkf,sb];simp),Zom (by show v4.toNat+(dgs kn).length<=9;omega),if_pos hkn];rfl
     have pr7:=L2.Paired.imp2 (fun e x h=>OpAt.up h fun p' xs y=>x7 _ _ y) pr6;have hD7:upd H7 aR (.lst (ac.map V.str++[V.str ("put "++Zqx "0" v4++Str.ofString (toString ((kn:Nat):Int))++" "++wd)])) aD=some (.lst ws):=by rw[Zaf (Ne.symm nRD)];exact x7 _ _ hD6
     refine⟨_,rfl,.inl ⟨rfl,_,SqL.of hD7⟩,_,rfl,_,rfl,_,rfl,sl3,fun p np=>⟨aD,ws,.ref p,rfl,rfl,by rw[Zaf (Zac hD7 np)];exact hD7,wz,?_⟩⟩;obtain⟨z1,z2⟩:=Zik (H6:=H7) (tp:=[.int (i:Nat),.int (kn:Nat),.str wd]) (fun b o e=>x7 _ _ (x26 _ _ e)) nR nD0 nRD (x7 _ _ hR6) (x7 _ _ hD6) pr7 rl wl hall hrow hrd hmem np (fun h=>⟨p,rfl,h⟩);exact⟨z1,z2,_,_,_,_,_,rfl⟩
   . refine⟨_,rfl,_,_,rfl,rfl,_,rfl,Zcl (fun _=>?_) (fun _=>?_)⟩
     . have lp:(" cut " : Str).length=5:=by decide +kernel
       have sp:sg " cut " = [32]++Zvd:=by decide +kernel
       refine⟨_,rfl,.inl ⟨rfl,_,SqL.of hR6⟩,_,rfl,kn,rfl,nb,_,_,rfl,rfl,by rw[Xam,lp];exact Xan (Xbo ls _) (by decide),aR,_,_,rfl,rfl,hR6,rz,?_⟩;have hrow:(" cut "++Str.ofString (toString ((kn:Nat):Int))).length<=100/\Zbt (" cut "++Str.ofString (toString ((kn:Nat):Int))):=by
        refine⟨?_,Zdv (by decide +kernel) vs⟩;rw[strLen_append,lp];exact Xan (Xbo ls _) (by decide)
       have hrd:Zbn (" cut "++Str.ofString (toString ((kn:Nat):Int))) D=some (some (.cut kn)):=by
        rw[Zsn (n:=1) (m:=0) (w:=dgs kn) (Zhq kn) (by rw[Zd0,sp,Zkf];simp)];have:=Zom (k:=0) (m:=kn) (D:=D) (by show 0+(dgs kn).length<=9;omega);rw[if_pos hkn] at this;have e0:List.replicate 0 48++(Nat.toDigits 10 kn).map Char.toNat=dgs kn:=rfl;rw[e0] at this;rw[this];rfl
       have hD7:upd H6 aR (.lst (ac.map V.str++[V.str (" cut "++Str.ofString (toString ((kn:Nat):Int)))])) aD=some (.lst ws):=by rw[Zaf (Ne.symm nRD)];exact hD6
       refine⟨_,rfl,.inl ⟨rfl,_,SqL.of hD7⟩,_,rfl,_,rfl,sl3,fun p np=>⟨aD,ws,.ref p,rfl,rfl,by rw[Zaf (Zac hD7 np)];exact hD7,wz,?_⟩⟩;obtain⟨z1,z2⟩:=Zik (H6:=H6) (tp:=[.int (i:Nat),.int (kn:Nat),.non]) x26 nR nD0 nRD hR6 hD6 pr6 rl wl hall hrow hrd hmem np (fun h=>⟨p,rfl,h⟩);exact⟨z1,z2,_,_,_,_,_,rfl⟩
     . have lp:("#" : Str).length=1:=by decide +kernel
       have sp:sg "#" = [35]:=by decide +kernel
       refine⟨_,rfl,.inl ⟨rfl,_,SqL.of hR6⟩,_,rfl,_,_,rfl,rfl,by rw[Xam,lp];omega,aR,_,_,rfl,rfl,hR6,rz,?_⟩;have hrow:("#"++wd).length<=100/\Zbt ("#"++wd):=⟨by rw[strLen_append,lp];omega,Zdv (by decide +kernel) wvis⟩
       have hrd:Zbn ("#"++wd) D=some none:=Zjo (n:=0) (l:=sg wd) (by rw[Zd0,sp];simp);obtain⟨z1,z2⟩:=Zry x26 nR nRD hR6 hD6 pr6 rl wl hall hrow hrd;exact⟨z1,z2,_,_,_,_,_,rfl⟩
 . rintro σ H2 ⟨x2,⟨ac,ws,hR2,hD2,pr,rl,wl,hall⟩,o5,o6,o7,o8,o9,rfl⟩;have sm:=Zjq fun y hy=>(hall y hy).1;have l1:("\n" : Str).length=1:=by decide +kernel
   refine⟨rfl,_,rfl,"\n",aR,ac,rfl,rfl,SqL.of hR2,by rw[l1];omega,_,rfl,sl2,fun p np=>?_⟩;have kp:∀ b o,H2 b=some o->upd H2 p (.tup [.str (Txt.join "\n" ac),.ref aD]) b=some o:=fun b o e=>by rw[Zaf (Zac e np)];exact e
   exact q p aD _ ac ws Zaa (kp _ _ hD2) (L2.Paired.imp2 (fun e x h=>OpAt.up h fun p' xs y=>kp _ _ y) pr) om hall nD0 fun b o e=>kp _ _ (x2 _ _ e)
end
section
open Tx
def Zg6:Sp:=fun vs H Q _=>∃ (hd l:Addr)(kvs:List (Key×V))(ops:List (Nat×Stp))(ws:List V),vs=[.ref hd,.ref l]/\H hd=some (.dK kvs)/\kvs.length<=5000/\H l=some (.lst ws)/\Paired (OpAt H) ops ws/\ops.length<=10/\
 match goS ops kvs with
 | .inl n=>∀ H',(∀ b o,H b=some o->H' b=some o)->Q (.int (n:Int)) H'
 | .inr kvs'=>∀ b H',H' b=some (.dK kvs')->(∀ b o,H b=some o->H' b=some o)->H b=none->Q (.ref b) H'
theorem scBh:Zak ["_law_held","_law_done","_law_behind_here","_law_one"] ["_law_held","_law_done"] (Zad Zhv):=Zb2
theorem Znu {H H':Hp}{ops:List (Nat×Stp)}{ws:List V}(h:Paired (OpAt H) ops ws)(k:∀ b o,H b=some o->H' b=some o):Paired (OpAt H') ops ws:=L2.Paired.imp2 (fun e x h=>OpAt.up h fun p' xs y=>k _ _ y) h
theorem Zw2 {H:Hp}{ops:List (Nat×Stp)}{ws:List V}(h:Paired (OpAt H) ops ws):∀ {i:Nat}{v:V},ws[i]? = some v->∃ o,ops[i]? = some o/\OpAt H o v:=by
 induction h with
 | nil=>intro i v e;simp at e
 | cons r _ ih=>
  intro i v e
  match i,e with
  | 0,e=>simp at e;subst e;exact⟨_,rfl,r⟩
  | i+1,e=>exact ih (by simpa using e)
theorem Zn9 (F:FunAt K mg "_law_behind" Zhv)(md:mg "dict" = none):FnP P w K mg base 1 "_law_behind" ["_law_held","_law_done"] Zg6:=by
 refine F.ok scBh (fun _ _ _ _ _ _=>l2e fun _ _=>rfl) (fun vs H Q E h=>?_) (fun f0 ad A outer s H vs Q E hr h=>?_)
 . obtain⟨hd,l,kvs,ops,ws,rfl,_⟩:=h;rfl
 obtain⟨hd,l,kvs,ops,ws,rfl,hH,hz,hl,pr,ol,q⟩:=h;have nd:=scBh.nd;have hu:=Zjz hr;refine⟨_,Zab (Zao (i:=2) nd rfl (Or.inl rfl) (Zdk Zgk rfl md PyProof.Rows.boot_dict (pa1 (pv 0)))) <|
  Zab (Zgs PassesOwn.never rfl (Zcz (pv 1)) (Zd3 (i:=3) nd rfl (Or.inl rfl)) <|
   Zar (Zat (Zaj Zp6 (Zaw Za7 (pv 3) Zae (fun _ _=>rfl)) Zdl (Zam _)) (Zar (Zi5 hu (pv 2) (Zaw Za7 (pv 3) Zae (fun _ _=>rfl)) (Zaw Za7 (pv 3) Zae (fun _ _=>rfl)) rfl))
    (Zar (Zat (Znx (Zwr hu (Zaw Za7 (pv 3) Zae (fun _ _=>rfl)) (pv 2))) (Zar (Za9 (Zkg (pv 2) (Zaw Za7 (pv 3) Zae (fun _ _=>rfl)) ⟨rfl,rfl,rfl,rfl⟩))) (psr (Zaw Za7 (pv 3) Zae (fun _ _=>rfl))))))) <|
  psr (pv 2),?_⟩
 refine⟨_,rfl,hd,kvs,rfl,hH,fun b nb=>?_⟩;dsimp only[Zbk];have k1:∀ c o,H c=some o->upd H b (.dK kvs) c=some o:=fun c o e=>by rw[Zaf (Zac e nb)];exact e
 generalize hres:goS ops kvs=res at q;have plen:ws.length=ops.length:=by
  clear q hres hl
  induction pr with
  | nil=>rfl
  | cons _ _ ih=>rw[Xax,Xax,ih (by simp at ol;omega)]
 refine⟨_,rfl,l,rfl,⟨ws,SqL.of (k1 _ _ hl)⟩,?_⟩;refine Zre (xs:=ws) (fun i σ H'=>(∀ c o,H c=some o->H' c=some o)/\(∃ kvi,H' b=some (.dK kvi)/\res=goS (ops.drop i) kvi/\kvi.length<=kvs.length+i)/\∃ o3,σ=[some (.ref hd),some (.ref l),some (.ref b),o3])
  ⟨k1,⟨kvs,Zaa,hres.symm,om⟩,none,rfl⟩ (fun i σ H' _ h=>SqL.of (h.1 _ _ hl)) ?_ ?_
 . rintro i v σ H2 ev ⟨x2,⟨kvi,hb,hg,hkl⟩,o3,rfl⟩;have hi:=(List.getElem?_eq_some_iff.mp ev).1;obtain⟨⟨n,st⟩,eo,ho⟩:=Zw2 (Znu pr x2) ev;have ed:ops.drop i=(n,st) :: ops.drop (i+1):=by
    have hio:=(List.getElem?_eq_some_iff.mp eo).1;rw[List.drop_eq_getElem_cons hio,(List.getElem?_eq_some_iff.mp eo).2]
   rw[ed] at hg;dsimp only[Zbk];cases st with
   | put k z=>
    obtain⟨p,rfl,hp⟩:=ho;refine⟨_,rfl,p,_,2,_,rfl,rfl,.inl (.inl hp),rfl,rfl,_,rfl,?_⟩;rw[Xag (fun h=>nomatch h)];refine Zbz ⟨_,rfl,p,_,2,_,rfl,rfl,.inl (.inl hp),rfl,_,rfl,_,rfl,p,_,1,_,rfl,rfl,.inl (.inl hp),rfl,b,_,rfl,DPut.k (k:=.inl (k:Int)) hb (by rw[Xam];omega),?_⟩;refine⟨fun c o e=>?_,⟨_,Zaa,hg,by have:=Zdd kvi (.inl (k:Int):Key) (V.str z);omega⟩,_,rfl⟩;rw[Zaf (Zac e nb)];exact x2 _ _ e
   | cut k=>
    obtain⟨p,rfl,hp⟩:=ho;refine⟨_,rfl,p,_,2,_,rfl,rfl,.inl (.inl hp),rfl,rfl,_,rfl,?_⟩;rw[Xah rfl];refine Zby ⟨_,rfl,p,_,1,_,rfl,rfl,.inl (.inl hp),rfl,_,rfl,b,_,rfl,DGet.k (k:=.inl (k:Int)) hb,_,rfl,?_⟩;unfold goS at hg;cases hv:Zcf kvi (.inl (k:Int)) with
    | none=>
     rw[hv] at hg;dsimp only at hg;rw[hg] at q;exact Zby ⟨_,rfl,p,_,0,_,rfl,rfl,.inl (.inl hp),rfl,q H2 x2⟩
    | some v0=>
     rw[hv] at hg;dsimp only at hg;refine Zbz ⟨_,rfl,b,rfl,.inl ⟨_,.inl hb⟩,_,rfl,p,_,1,_,rfl,rfl,.inl (.inl hp),rfl,kvi,.inl (k:Int),v0,hb,rfl,hv,?_⟩;refine⟨fun c o e=>?_,⟨_,Zaa,hg,by have:=Zhr kvi (.inl (k:Int):Key);omega⟩,_,rfl⟩;rw[Zaf (Zac e nb)];exact x2 _ _ e
 . rintro σ H2 ⟨x2,⟨kvi,hb,hg,hkl⟩,o3,rfl⟩;rw[plen,List.drop_length] at hg;unfold goS at hg;rw[hg] at q;exact⟨_,rfl,q b H2 hb x2 nb⟩
theorem bad3 {z:Str}(h:z∈(["put it","cut","none 1"]:List Str)):(∀ D,Zbn z D=none)/\z.length<=100/\Zbt z:=by
 simp only[Xbd,Xa0,or_false] at h;rcases h with rfl | rfl | rfl
 . refine⟨fun D=>?_,by decide +kernel,by decide +kernel⟩;have e:sg "put it" = Znp++[105,116]:=by decide +kernel
   unfold Zbn;rw[e];exact b_put (l:=[105,116]) (fun m=>by simp at m)
 . refine⟨fun D=>?_,by decide +kernel,by decide +kernel⟩;have e:sg "cut" = [99,117,116]:=by decide +kernel
   unfold Zbn;rw[e];exact Ztc (by decide) (by decide) (by decide)
 . refine⟨fun D=>?_,by decide +kernel,by decide +kernel⟩;have e:sg "none 1" = [110,111,110,101,32,49]:=by decide +kernel
   unfold Zbn;rw[e];exact Ztc (by decide) (by decide) (by decide)
def DueA (H:Hp)(r:Sum Nat (List (Key×V)))(v:V):Prop:=match r with
 | .inl n=>v = .int (n:Int)
 | .inr kvs=>∃ b,v = .ref b/\H b=some (.dK kvs)
noncomputable def Zmc (r:Sum Nat (List (Key×V))) (at_:Nat):Sum Nat (List (Key×V)):=match r with
 | .inl n=>if at_<=n then .inl at_ else .inl n
 | .inr _=>.inl at_
def Zk0:Sp:=fun vs H Q _=>∃ (t:Str)(du:V)(c:Int)(r:Sum Nat (List (Key×V))),vs=[.str t,du,.int c]/\DueA H r du/\t.length<=sizeLine/\(Txt.split t "\n").length<=100/\(∀ x∈Txt.split t "\n",x.length<=100)/\
 ∀ p H' z at_,at_<=(Txt.split t "\n").length->(∀ D,Zbn z D=none)->z.length<=100->Zbt z->
  (∃ du',DueA H' (Zmc r at_) du'/\H' p=some (.tup [.str (Txt.join "\n" ((Txt.split t "\n").take at_++z :: (Txt.split t "\n").drop at_)),du']))->(∀ b o,H b=some o->H' b=some o)->Q (.ref p) H'
theorem Zxf:Zak ["_law_text_here","_law_due_here","_law_cell","_law_rows","_law_at"] ["_law_text_here","_law_due_here","_law_cell"] (Zad Zhx):=Zb2
theorem Zpn (F:FunAt K mg "_law_spoilt" Zhx)(Fd:FnP P w K mg base 1 "_law_draw" ["_law_cell","_law_k","_law_many"] Zez)(ml:mg "len" = none)(mi:mg "isinstance" = none)(md:mg "dict" = none)(kd:W.kitOne K (.type "dict") (.type "dict")=some true)(ki:W.kitOne K (.type "int") (.type "dict")=some false) :
 FnP P w K mg base 2 "_law_spoilt" ["_law_text_here","_law_due_here","_law_cell"] Zk0:=by
 refine F.ok Zxf (fun _ _ _ _ _ _=>l3e fun _ _ _=>rfl) (fun vs H Q E h=>?_) (fun f0 ad A outer s H vs Q E hr h=>?_)
 . obtain⟨t,du,c,r,rfl,_⟩:=h;rfl
 obtain⟨t,du,c,r,rfl,hdu,ht,ai,hrow,q⟩:=h;have nd:=Zxf.nd;refine⟨_,Zab (Zao (i:=3) nd rfl (Or.inl rfl) (Zco Xbb PySem.F.slot_str_split PySem.F.type_str_split Zj8 (pv 0) (pa1 Zav))) <|
  Zab (Zao (i:=4) nd rfl (Or.inl rfl) (Zag Fd hr rfl (pa3 (pv 2) Zae (Zas Zcv (Zai Zah rfl ml boot_len (pa1 (pv 3))) Zae)))) <|
  Zab (Za9 (Zco Xa1 PySem.F.slot_list_insert PySem.F.type_list_insert Zjr (pv 3) (pa2 (pv 4) (Zaw Za7 (Zbw (pa3 Zav Zav Zav)) (Zag Fd hr rfl (pa3 (pv 2) Zae Zae)) (fun _ _=>rfl))))) <|
  Zab (Zat (PW.pt (Zeq (Zcg (Zai Zcq rfl mi Xbc (pa2 (pv 1) (Zl1 rfl md PyProof.Rows.boot_dict)))) (Zdq (Zaj Zpm (pv 1) (pv 4) (Zam _))))) (Zar (Zao (i:=1) nd rfl (Or.inl rfl) (pv 4))) Zal) <|
  psr (Zbw (pa2 (Zco Xbb PySem.F.slot_str_join PySem.F.type_str_join Zju Zav (pa1 (pv 3))) (pv 1))),?_⟩
 refine⟨_,rfl,rfl,t,"\n",rfl,rfl,by decide +kernel,ht,by rw[Xam];omega,fun l nl'=>?_⟩;dsimp only[Zbk];generalize Txt.split t "\n" = ac at ai hrow q ⊢;have k1:∀ b o,H b=some o->upd H l (.lst (ac.map V.str)) b=some o:=fun b o e=>by rw[Zaf (Zac e nl')];exact e
 refine⟨_,rfl,_,rfl,l,_,rfl,.inl (SqL.of Zaa),_,_,rfl,rfl,c,6,_,rfl,om,om,fun v H1 a1 b1 x1=>?_⟩;dsimp only[Zbk];rw[Xad] at b1;obtain⟨at_,rfl⟩:=Int.eq_ofNat_of_zero_le a1;have hl1:=x1 _ _ (show upd H l (.lst (ac.map V.str)) l=some (.lst (ac.map V.str)) from Zaa);refine⟨_,rfl,.inl ⟨rfl,_,SqL.of hl1⟩,_,rfl,sl3,fun p3 np3=>?_⟩;have k2:∀ b o,H1 b=some o->upd H1 p3 (.tup [.str "put it",.str "cut",.str "none 1"]) b=some o:=fun b o e=>by rw[Zaf (Zac e np3)];exact e
 refine⟨_,rfl,c,7,3,rfl,om,om,fun v2 H2 a2 b2 x2=>?_⟩;obtain⟨z,hz,hzm⟩:∃ z:Str,atI [V.str "put it",V.str "cut",V.str "none 1"] v2=some (.str z)/\z∈(["put it","cut","none 1"]:List Str):=by
  obtain rfl | rfl | rfl:v2=0\/v2=1\/v2=2:=by omega
  . exact⟨_,rfl,by simp⟩
  . exact⟨_,rfl,by simp⟩
  . exact⟨_,rfl,by simp⟩
 obtain⟨bz,lz,vz⟩:=bad3 hzm;have hl2:=x2 _ _ (k2 _ _ hl1);refine⟨p3,_,v2,.str z,rfl,rfl,.inl (.inl (x2 _ _ Zaa)),hz,l,_,.str z,at_,rfl,rfl,by rw[Xad];omega,by rw[Xad];omega,hl2,?_⟩;have k3:∀ b o,H b=some o->upd H2 l (.lst ((ac.map V.str).take at_++V.str z :: (ac.map V.str).drop at_)) b=some o:=fun b o e=>by rw[Zaf (Zac e nl')];exact x2 _ _ (k2 _ _ (x1 _ _ (k1 _ _ e)))
 have el:(ac.map V.str).take at_++V.str z :: (ac.map V.str).drop at_=(ac.take at_++z :: ac.drop at_).map V.str:=by rw[Xbk,Xbf,List.map_take,List.map_drop]
 rw[el] at k3 ⊢;generalize hH3:upd H2 l (.lst ((ac.take at_++z :: ac.drop at_).map V.str))=H3 at k3 ⊢;have hl3:H3 l=some (.lst ((ac.take at_++z :: ac.drop at_).map V.str)):=by rw[<- hH3];exact Zaa
 dsimp only[Zbk,Zvh];refine Zqi (fun σ H'=>H3=H'/\∃ du',DueA H3 (Zmc r at_) du'/\σ=[some (.str t),some du',some (.int c),some (.ref l),some (.int (at_:Int))]) (fun D' hD'=>?_) ?_
 . cases r with
   | inl n=>
    obtain rfl:du = .int (n:Int):=hdu;refine⟨_,rfl,_,_,_,_,rfl,.int _,ki,_,rfl,?_⟩;refine Zby ⟨_,rfl,_,rfl,_,_,rfl,rfl,_,rfl,?_⟩;refine Zcl (fun hc=>?_) (fun hc=>?_)
    . have hc':at_<=n:=by have:((at_:Nat):Int)<=(n:Int):=Xaf hc;omega
      exact⟨_,rfl,hD' _ _ ⟨rfl,_,by show DueA H3 (if at_<=n then .inl at_ else .inl n) _;rw[if_pos hc'];exact rfl,rfl⟩⟩
    . have hc':¬ at_<=n:=fun y=>hc (Xah om);exact hD' _ _ ⟨rfl,_,by show DueA H3 (if at_<=n then .inl at_ else .inl n) _;rw[if_neg hc'];exact rfl,rfl⟩
   | inr kvs=>
    obtain⟨b,rfl,hb⟩:=hdu;refine⟨_,rfl,_,_,_,_,rfl,.dK (k3 _ _ hb),kd,_,rfl,?_⟩;exact Zbz (Zbz ⟨_,rfl,hD' _ _ ⟨rfl,_,rfl,rfl⟩⟩)
 rintro _ _ ⟨rfl,du',hdu',rfl⟩;have hall:∀ y∈ac.take at_++z :: ac.drop at_,y.length<=100:=fun y hy=>by
  rcases List.mem_append.mp hy with m | m
  . exact hrow y (List.mem_of_mem_take m)
  . rcases List.mem_cons.mp m with rfl | m
    . exact lz
    . exact hrow y (Xbs m)
 have sm:=Zjq hall;have l1:("\n" : Str).length=1:=by decide +kernel
 have ln:(ac.take at_++z :: ac.drop at_).length<=101:=by rw[Xay,Xav,Xax,Xbe];omega
 refine⟨rfl,_,rfl,"\n",l,_,rfl,rfl,SqL.of hl3,by rw[l1];omega,_,rfl,sl2,fun p np=>?_⟩;have k4:∀ b o,H3 b=some o->upd H3 p (.tup [.str (Txt.join "\n" (ac.take at_++z :: ac.drop at_)),du']) b=some o:=fun b o e=>by rw[Zaf (Zac e np)];exact e
 refine q p _ z at_ om bz lz vz ⟨du',?_,Zaa⟩ fun b o e=>k4 _ _ (k3 _ _ e);cases hs:Zmc r at_ with
 | inl n=>rw[hs] at hdu';exact hdu'
 | inr kvs=>rw[hs] at hdu';obtain⟨b,e1,e2⟩:=hdu';exact⟨b,e1,k4 _ _ e2⟩
end
theorem Zm6 {kvs:List (Key×V)}{ac rows':List Rw}(srt0:SrtOf kvs ac)(srt:SrtOf kvs rows'):rows'=ac:=by
 have u1:=srt0.uniq (rs:=rows'.map fun r=>(r.1,V.str r.2)) (by rw[Xbt];exact srt.1) srt.2;have this:=congrArg (List.map fun(p:Int×V)=>(p.1,match p.2 with | .str z=>z | _=>("" : Str))) u1;rw[Xbt,Xbt] at this;have e:((fun(p:Int×V)=>(p.1,match p.2 with | .str z=>z | _=>("" : Str))) ∘ fun r:Rw=>(r.1,V.str r.2))=id:=by funext r;rfl
 rw[e,List.map_id,List.map_id] at this;exact this
theorem Zx1 {D:Nat}{kvs:List (Key×V)}(hw:Rws D kvs):∃ ac,SrtOf kvs ac:=by
 have hp:=List.mergeSort_perm (kvs.map fun q=>Zga q.1) (fun a b=>decide (a<=b));have hs:=List.pairwise_mergeSort (le:=fun a b:Int=>decide (a<=b)) (fun a b c h1 h2=>by simp at h1 h2 ⊢;omega) (fun a b=>by simp;omega) (kvs.map fun q=>Zga q.1);have nd:(kvs.map fun q=>Zga q.1).Nodup:=by
  have h0:=hw.nd;unfold List.Nodup at h0 ⊢;rw[List.pairwise_map] at h0 ⊢;refine h0.imp_of_mem fun {a b} ma mb h e=>?_;obtain⟨i,x,rfl,_⟩:=hw.all a ma;obtain⟨j,y,rfl,_⟩:=hw.all b mb;exact h (congrArg Sum.inl (show i=j from e))
 have nd2:=hp.nodup_iff.mpr nd;refine⟨_,Zpc hw hp ((hs.and nd2).imp fun {a b} h=>?_)⟩;have h1:a<=b:=Xaf h.1;have h2:=h.2;omega
def Zs2 (K:W.Frag)(mg:Str->Option Value):Sp:=fun vs H Q _=>∃ (S:Sl)(f hd:Addr)(D:Nat)(kvs:List (Key×V))(ac:List Rw),vs=[.ref f,.ref hd,.int (D:Int)]/\H hd=some (.dK kvs)/\SealAt K mg Zbe S H f/\Rws D kvs/\kvs.length<64/\SrtOf kvs ac/\D<=16/\Cap S H (Zgd D ac+1)/\
 ∀ v H',Gr S (Zgd D ac+1) H H'->isT S H' (tbT D ac) v->Q v H'
theorem Zyw:Zak ["_law_seal","_law_held","_law_depth"] ["_law_seal","_law_held","_law_depth"] (Zad Zqs):=Zb2
theorem Zvp (F:FunAt K mg "_law_table" Zqs)(Fl:Zch P w K mg base CX0 1 (Zc9 K mg Zbe))(Flp:FnP P w K mg base 19 "_law_part" ["_law_seal","_law_rows","_law_level"] (Zgv K mg))(mso:mg "sorted" = none):FnP P w K mg base 20 "_law_table" ["_law_seal","_law_held","_law_depth"] (Zs2 K mg):=by
 refine F.ok Zyw (fun _ _ _ _ _ _=>l3e fun _ _ _=>rfl) (fun vs H Q E h=>?_) (fun f0 ad A outer s H vs Q E hr h=>?_)
 . obtain⟨S,f,hd,D,kvs,ac,rfl,_⟩:=h;rfl
 obtain⟨S,f,hd,D,kvs,ac,rfl,hH,hS,hw,hz,srt0,D16,hc,q⟩:=h;have nd:=Zyw.nd;have hu:=Zjz hr;refine' ⟨_,psr (Zbd (i:=0) Fl hr.m Zb6 rfl (Or.inl rfl) (pa3 Zav (pv 2) (Zag Flp hr rfl (pa3 (pv 0) (Zet (ys:=["_law_held"]) (js:=[1]) ?ok (Zcz (Zai (Ze0 rfl) rfl mso PyProof.Rows.boot_sorted (pa1 (pv 1)))) (fun _ _ _=>Zd2) ?he) (pv 2))))),?rd⟩
 case ok=>
  refine⟨rfl,rfl,rfl,by decide +kernel,by decide +kernel,rfl,by decide +kernel,fun _ _ h=>h,rfl,fun i y h=>?_,rfl⟩
  match i,h with
  | 0,h=>simp at h;subst h;exact⟨1,rfl,rfl,rfl,rfl⟩
  | i+1,h=>simp at h
 case he=>
  exact fun _ _ _=>Zbw (pa2 (pv 0) (Zjw hu (pv 1) (pv 0) (fun _ _=>rfl)))
 case rd=>
 refine⟨f,rfl,hS.fny,_,rfl,_,rfl,_,rfl,hd,kvs,rfl,hH,hw.ints,hz,fun l lk nl pm pw=>⟨l,rfl,⟨_,SqL.of Zaa⟩,fun DD hDD=>?_⟩⟩;have srt:=Zpc hw pm pw;have g6:Gr S 0 H (upd H l (.lst (lk.map V.int))):=.new hS.told nl;have llk:lk.length=kvs.length:=by have:=pm.length_eq;simpa using this
 refine⟨fun i m ys H2=>m=lk.length - i/\i<=lk.length/\H2 DD=some (.lst ys)/\Gr S 0 (upd H l (.lst (lk.map V.int))) H2/\RowsAt H2 ((lk.take i).map fun k=>(k,Zlk kvs k)) ys,
  ⟨lk.length,by simp,om,Zaa,Gr.new g6.gn.told2 hDD,.nil⟩,?_⟩
 rintro i m ys H2 ⟨rfl,hi,hD2,g,ry⟩;have hl2:=g.lst (show upd H l (.lst (lk.map V.int)) l=some (.lst (lk.map V.int)) from Zaa);have ylen:=Za0 ry;rw[Xad,Xav] at ylen;have g0:=g6.trans g;by_cases hlt:i<lk.length
 . refine .inr ⟨⟨_,V.int lk[i],SqL.of hl2,by simp[hlt]⟩,fun y H3 ⟨e3,hx⟩=>?_⟩;subst e3;have ex:y=V.int lk[i]:=by
    have z:=hx _ (SqL.of hl2);simp[hlt] at z;exact z.symm
   subst ex;refine Zbz ?_;have hh:=g0.same hH (fun _ e=>nomatch e);have ev:=Zn1 hw (Zpp hw pm (Xbh hlt));refine⟨_,rfl,_,rfl,_,rfl,hd,.str (Zlk kvs lk[i]),rfl,?_,(sl2),fun p hp=>?_⟩
   . have z:=DGet.k (H:=H3) (a:=hd) (k:=.inl lk[i]) hh;rw[ev] at z;exact z
   have g7:Gr S 0 H3 (upd H3 p (.tup [.int lk[i],.str (Zlk kvs lk[i])])):=.new g.gn.told2 hp;have hD7:=g7.lst hD2;have g8:Gn S 0 _ (upd (upd H3 p (.tup [.int lk[i],.str (Zlk kvs lk[i])])) DD (.lst (ys++[.ref p]))):=Gn.chg g7.gn.told2 hD7 rfl (fun _ e=>nomatch e);refine⟨hD7,by rw[Xam];omega,lk.length - (i+1),om,rfl,om,Zaa,((g.trans g7).up om).own hDD,?_⟩;rw[List.take_succ,Xab hlt,Xbk];exact RowsAt.up (Zjp (RowsAt.up ry g7.gn) ⟨p,rfl,Zaa⟩) g8
 have e:i=lk.length:=by omega
 subst e;refine .inl ⟨⟨_,SqL.of hl2,by simp⟩,?_⟩;rw[List.take_length] at ry;have er:=Zm6 srt0 srt;rw[er] at ry;have rlen:=srt0.len;refine⟨_,rfl,D,D16,S,f,DD,ys,ac,rfl,hS.up g0.gn,SqL.of hD2,ry,om,srt0.okr hw,hc.go g0.gn om,fun v7 H7 G7 i7=>?_⟩;have G07:=g0.trans G7;have hS7:=hS.up G07.gn;exact⟨hS7.fny,S,"table",.int (D:Int),Zgb D ac,_,_,hS7,hc.go G07.gn om,rfl,rfl,i7,fun v8 H8 G8 i8=>q v8 H8 ((G07.trans G8).up om) i8⟩
section
open Tx
theorem Zjl (zs:List Str):Txt.join "\n" zs=Str.join nl zs:=by
 have e0:("\n" : Str)=nl:=by decide +kernel
 show Builtin.Str.glued "\n" zs=_;rw[StrLaws.glued_eq_join,e0]
theorem Zgu {zs:List Str}(hv:∀ z∈zs,Zbt z):Txt.split (Txt.join "\n" zs) "\n" = if zs=[] then [("" : Str)] else zs:=by
 have e0:("\n" : Str)=nl:=by decide +kernel
 split
 . next h=>rw[h];decide +kernel
 . next h=>
   rw[Zjl,e0];exact Zmi h fun z hz m=>by have:=hv z hz 10 m;omega
theorem Zg8:∀ (zs:List Str),(∀ z∈zs,z.length<=100)->(Str.join nl zs).length<=101 * zs.length
 | [],_=>by decide
 | [a],h=>by
  have:=h a Xaz;show a.length<=_;simp;omega
 | a :: b :: l,h=>by
  have ih:=Zg8 (b :: l) fun z hz=>h z (Xal _ hz);have ha:=h a Xaz;rw[Zb1,Zdj,Xay,Xax,<- Zb1,<- Zb1];simp only[Xax] at ih ⊢;omega
theorem Znl {z:Str}(h:Zbt z):z.cps.all (· < 128)=true:=Array.all_eq_true_iff_forall_mem.mpr fun c hc=>by
 have:=h c (by simpa using hc);simp;omega
theorem Zdf (D n:Nat)(r:Str)(l:List Str)(kvs:List (Key×V)):goR D n (r :: l) kvs=match Zbn r D with | none=>.inl n | some none=>goR D (n+1) l kvs | some (some (.put k v))=>goR D (n+1) l (Ze4 kvs (.inl (k:Int)) (.str v)) | some (some (.cut k))=>match Zcf kvs (.inl (k:Int)) with | none=>.inl n | some _=>goR D (n+1) l (Zc0 kvs (.inl (k:Int))):=rfl
theorem Zj9 {D:Nat}:∀ (l:List Str)(n:Nat)(kvs:List (Key×V))(m:Nat),goR D n l kvs = .inl m->n<=m
 | [],n,kvs,m,h=>by cases h
 | r :: l,n,kvs,m,h=>by
  rw[Zdf] at h;split at h
  . cases h;exact Xae _
  . exact Nat.le_of_succ_le (Zj9 l _ _ _ h)
  . exact Nat.le_of_succ_le (Zj9 l _ _ _ h)
  . split at h
    . cases h;exact Xae _
    . exact Nat.le_of_succ_le (Zj9 l _ _ _ h)
theorem Ztg {D:Nat}{z:Str}(hz:Zbn z D=none):∀ (i:Nat)(l:List Str)(n:Nat)(kvs:List (Key×V)),(∀ r∈l,Zbn r D≠none)->i<=l.length->goR D n (l.take i++z :: l.drop i) kvs=Zmc (goR D n l kvs) (n+i)
 | 0,l,n,kvs,_,_=>by
  rw[List.take_zero,List.drop_zero,List.nil_append,Zdf,hz,Nat.add_zero];cases e:goR D n l kvs with
  | inl m=>show Sum.inl n=if n<=m then Sum.inl n else Sum.inl m;rw[if_pos (Zj9 l n kvs m e)]
  | inr k=>rfl
 | i+1,[],n,kvs,_,hi=>by simp at hi
 | i+1,r :: l,n,kvs,hl,hi=>by
  have ih:=fun kv=>Ztg hz i l (n+1) kv (fun x hx=>hl x (Xal _ hx)) (by simpa using hi);have e1:n+1+i=n+(i+1):=by omega
  rw[List.take_succ_cons,List.drop_succ_cons,List.cons_append,Zdf,Zdf];cases hr:Zbn r D with
  | none=>exact absurd hr (hl r Xaz)
  | some o=>
   cases o with
   | none=>rw[<- e1];exact ih kvs
   | some st=>
    cases st with
    | put k v=>rw[<- e1];exact ih _
    | cut k=>
     dsimp only;cases hv:Zcf kvs (.inl (k:Int)) with
     | none=>
      dsimp only;show _=if n+(i+1)<=n then _ else _;rw[if_neg om]
     | some v=>rw[<- e1];exact ih _
theorem Ztp {kvs:List (Key×V)}{k:Key}{v:V}{q:Key×V}(h:q∈Ze4 kvs k v):q∈kvs\/q.1=k:=by
 cases e:Zcf kvs k with
 | none=>
  rw[Zfg _ e] at h;rcases List.mem_append.mp h with z | z
  . exact .inl z
  . rw[List.mem_singleton.mp z];exact .inr rfl
 | some w=>
  rw[Zlc (show(Zcf kvs k).isSome=true by rw[e];rfl)] at h;obtain⟨p,hp,rfl⟩:=List.mem_map.mp h;by_cases z:p.1=k
  . rw[if_pos z];exact .inr z
  . rw[if_neg z];exact .inl hp
structure Near (ks:List Int)(D:Nat)(kvs:List (Key×V)):Prop where
 w:Rws D kvs
 nr:∀ q∈kvs,Zga q.1∈nrK ks
theorem Zic {α:Type} [DecidableEq α]:∀ {l m:List α},l.Nodup->(∀ x∈l,x∈m)->l.length<=m.length
 | [],_,_,_=>Nat.zero_le _
 | a :: l,m,hn,hs=>by
  have h1:=List.nodup_cons.mp hn;have h2:∀ x∈l,x∈m.erase a:=fun x hx=>(List.mem_erase_of_ne (fun(e:x=a)=>h1.1 (by rw[<- e];exact hx))).mpr (hs x (Xal _ hx));have h3:=Zic h1.2 h2;have h4:=List.length_erase_of_mem (hs a Xaz);have h5:0<m.length:=List.length_pos_of_mem (hs a Xaz);rw[Xax];omega
theorem Near.len {ks:List Int}{D:Nat}{kvs:List (Key×V)}(h:Near ks D kvs):kvs.length<=2 * ks.length:=by
 have nd:(kvs.map fun q=>Zga q.1).Nodup:=by
  have h0:=h.w.nd;unfold List.Nodup at h0 ⊢;rw[List.pairwise_map] at h0 ⊢;refine h0.imp_of_mem fun {a b} ma mb h' e=>?_;obtain⟨i,x,rfl,_⟩:=h.w.all a ma;obtain⟨j,y,rfl,_⟩:=h.w.all b mb;exact h' (congrArg Sum.inl (show i=j from e))
 have:=Zic nd fun x hx=>by
  obtain⟨q,hq,rfl⟩:=List.mem_map.mp hx;exact h.nr q hq
 rw[Xad,Xay,Xad] at this;omega
theorem Zfd {ks:List Int}{D:Nat}:∀ (l:List Str)(n:Nat)(kvs kvs':List (Key×V)),(∀ r∈l,RdK ks D r)->Near ks D kvs->goR D n l kvs = .inr kvs'->Near ks D kvs'
 | [],n,kvs,kvs',_,h,e=>by cases e;exact h
 | r :: l,n,kvs,kvs',hl,h,e=>by
  have hl':∀ x∈l,RdK ks D x:=fun x hx=>hl x (Xal _ hx);obtain⟨o,eo,ho⟩:=hl r Xaz;have of:=Zkx (r:=r) (D:=D);rw[Zdf,eo] at e;cases o with
  | none=>exact Zfd l _ _ _ hl' h e
  | some st=>
   have hk:=ho st rfl;cases st with
   | put k v=>
    have o1:=of.1 k v eo;refine Zfd l _ _ _ hl' ⟨h.w.put o1.1 o1.2 v,fun q hq=>?_⟩ e;rcases Ztp hq with z | z
    . exact h.nr q z
    . rw[z];exact hk
   | cut k=>
    dsimp only at e;cases hv:Zcf kvs (.inl (k:Int)) with
    | none=>rw[hv] at e;cases e
    | some v=>
     rw[hv] at e;exact Zfd l _ _ _ hl' ⟨h.w.drop _,fun q hq=>h.nr q (Zfs hq)⟩ e
theorem Zsb (ks:List Int)(D:Nat):RdK ks D "":=⟨none,Zgw (n:=0) (by decide +kernel),fun _ e=>nomatch e⟩
theorem Ziw (D:Nat):∀ (n:Nat)(l:List Str),(Zbj D n l).length<=l.length
 | _,[]=>Xae _
 | n,r :: l=>by
  have ih:=Ziw D (n+1) l;show((match Zbn r D with | some (some st)=>[(n,st)] | _=>[])++Zbj D (n+1) l).length<=_;rw[Xay,Xax];split
  . rw[Xa8];omega
  . rw[List.length_nil];omega
end
abbrev En:=Str×List (Key×V)×List Rw
structure Zwe (D:Nat)(e:En):Prop where
 w:Rws D e.2.1
 l:e.2.1.length<=8
 s:SrtOf e.2.1 e.2.2
noncomputable abbrev lfG (D:Nat) (e:En):Tm:=.nd "leaf" (.str e.1) (tbT D e.2.2)
structure TxK (K:W.Frag)(mg:Str->Option Value)(C:Addr):Prop where
 cl:Cls K C
 n1:NoAttr K C "seal"
 n2:NoAttr K C "depth"
 n3:NoAttr K C "texts"
 n4:NoAttr K C "leaves"
 n5:NoAttr K C "tables"
 mgC:mg "Keeper" = some (.ref C)
noncomputable def flG (f:Addr) (D:Nat) (aT aL aB:Addr):List (Str×V):=[("seal",.ref f),("depth",.int (D:Int)),("texts",.ref aT),("leaves",.ref aL),("tables",.ref aB)]
theorem Zf6 {k:Str}{v:V}:∀ {l:List (Str×V)},(∀ q∈l.map (·.1),q≠k)->Zdy k v l=l++[(k,v)]
 | [],_=>rfl
 | (g,x) :: r,h=>by
  show(if g=k then _ else(g,x) :: Zdy k v r)=_;rw[if_neg (h g Xaz),Zf6 fun q hq=>h q (Xal _ hq)];rfl
structure KeepL (S:Sl)(n:Nat)(l:List Addr)(H H':Hp):Prop where
 gn:Gn S n H H'
 all:∀ b o,H b=some o->b∉l->S.d≠some b->H' b=some o
theorem KeepL.trans {S:Sl}{a b:Nat}{l:List Addr}{H H1 H2:Hp}(g:KeepL S a l H H1)(g2:KeepL S b l H1 H2):KeepL S (a+b) l H H2:=⟨g.gn.trans g2.gn,fun c o h n d=>g2.all c o (g.all c o h n d) n d⟩
theorem KeepL.of {S:Sl}{n:Nat}{l:List Addr}{H H':Hp}(g:Gr S n H H'):KeepL S n l H H':=⟨g.gn,fun b o h _ d=>g.all b o h d⟩
theorem KeepL.chg {S:Sl}{H:Hp}{p:Addr}{l:List Addr}{xs:List V}{o':HO}(t:Zgn S H)(h:H p=some (.lst xs))(hp:p∈l):KeepL S 0 l H (upd H p o'):=⟨Gn.chg t h rfl (fun _ e=>nomatch e),fun b o e n _=>by rw[Zaf (by rintro rfl;exact n hp)];exact e⟩
theorem KeepL.up {S:Sl}{a b:Nat}{l:List Addr}{H H1:Hp}(g:KeepL S a l H H1)(h:a<=b):KeepL S b l H H1:=⟨g.gn.up h,g.all⟩
theorem KeepL.oth {S:Sl}{n:Nat}{l:List Addr}{H H':Hp}{b:Addr}{o:HO}(k:KeepL S n l H H')(t:Zgn S H)(hl:∀ a∈l,∃ xs,H a=some (.lst xs))(h:H b=some o)(n1:∀ xs,o≠.lst xs)(n2:∀ kvs,o≠.dT kvs):H' b=some o:=by
 refine k.all b o h (fun z=>?_) fun z=>?_
 . obtain⟨xs,e⟩:=hl b z;rw[h] at e;cases e;exact n1 _ rfl
 . obtain⟨kvs,e⟩:=t b z;rw[h] at e;cases e;exact n2 _ rfl
theorem KeepL.lst {S:Sl}{n:Nat}{l:List Addr}{H H':Hp}{b:Addr}{xs:List V}(k:KeepL S n l H H')(t:Zgn S H)(h:H b=some (.lst xs))(nb:b∉l):H' b=some (.lst xs):=
 k.all b _ h nb fun z=>by
  obtain⟨kvs,e⟩:=t b z;rw[h] at e;cases e
def TbsAt (cT:Addr)(H:Hp)(f:Addr)(D:Nat)(kvl:List (List (Key×V)))(ws:List V):Prop:=Paired (fun kv v=>∃ t d,v=V.ref t/\TabAt cT H t d f D kv) kvl ws
theorem TbsAt.up {cT:Addr}{S:Sl}{n:Nat}{H H':Hp}{f:Addr}{D:Nat}{kvl:List (List (Key×V))}{ws:List V}(h:TbsAt cT H f D kvl ws)(g:Gr S n H H'):TbsAt cT H' f D kvl ws:=
 L2.Paired.imp2 (fun kv v ⟨t,d,e,T⟩=>⟨t,d,e,T.up g⟩) h
theorem TbsAt.off {cT:Addr}{S:Sl}{n:Nat}{l:List Addr}{H H':Hp}{f:Addr}{D:Nat}{kvl:List (List (Key×V))}{ws:List V}(h:TbsAt cT H f D kvl ws)(k:KeepL S n l H H')(t:Zgn S H)(hl:∀ a∈l,∃ xs,H a=some (.lst xs)):TbsAt cT H' f D kvl ws:=
 L2.Paired.imp2 (fun kv v ⟨tt,d,e,⟨dx,T1⟩,T2⟩=>⟨tt,d,e,⟨dx,k.oth t hl T1 (fun _ e=>nomatch e) (fun _ e=>nomatch e)⟩,k.oth t hl T2 (fun _ e=>nomatch e) (fun _ e=>nomatch e)⟩) h
theorem Zsp {cT:Addr}{H:Hp}{f:Addr}{D:Nat}{kvl:List (List (Key×V))}{ws:List V}(h:TbsAt cT H f D kvl ws):∀ {i:Nat}{kv:List (Key×V)},kvl[i]? = some kv->∃ t d,ws[i]? = some (.ref t)/\TabAt cT H t d f D kv:=by
 induction h with
 | nil=>intro i kv e;simp at e
 | cons r _ ih=>
  intro i kv e;cases i with
  | zero=>
   obtain⟨t,d,rfl,T⟩:=r;rw[List.getElem?_cons_zero] at e;cases e
   exact⟨t,d,rfl,T⟩
  | succ i=>exact ih (by simpa using e)
structure KgAt (C cT:Addr)(S:Sl)(H:Hp)(x f aT aL aB:Addr)(D:Nat)(es:List En):Prop where
 ob:∃ dx,H x=some (.ins C dx (flG f D aT aL aB))
 tx:H aT=some (.lst (es.map fun e=>V.str e.1))
 lv:∃ wL,H aL=some (.lst wL)/\Zdc S H (es.map (lfG D)) wL
 tb:∃ ws,H aB=some (.lst ws)/\TbsAt cT H f D ([] :: es.map (·.2.1)) ws
 n1:aT≠aL
 n2:aT≠aB
 n3:aL≠aB
 ok:∀ e∈es,Zwe D e
theorem KgAt.up {S:Sl}{H H':Hp}{x f aT aL aB:Addr}{D n:Nat}{es:List En}(h:KgAt C cT S H x f aT aL aB D es)(g:Gr S n H H'):KgAt C cT S H' x f aT aL aB D es:=by
 obtain⟨⟨dx,h1⟩,h2,⟨wL,h3,h4⟩,⟨ws,h5,h7⟩,n1,n2,n3,ok⟩:=h;exact⟨⟨dx,g.same h1 (fun _ e=>nomatch e)⟩,g.lst h2,⟨wL,g.lst h3,Zap g.gn h4⟩,⟨ws,g.lst h5,h7.up g⟩,n1,n2,n3,ok⟩
theorem KgAt.off {S:Sl}{H H':Hp}{x f aT aL aB:Addr}{D n:Nat}{l:List Addr}{es:List En}(h:KgAt C cT S H x f aT aL aB D es)(k:KeepL S n l H H')(t:Zgn S H)(hl:∀ a∈l,∃ xs,H a=some (.lst xs))(m1:aT∉l)(m2:aL∉l)(m3:aB∉l):KgAt C cT S H' x f aT aL aB D es:=by
 obtain⟨⟨dx,h1⟩,h2,⟨wL,h3,h4⟩,⟨ws,h5,h7⟩,n1,n2,n3,ok⟩:=h;exact⟨⟨dx,k.oth t hl h1 (fun _ e=>nomatch e) (fun _ e=>nomatch e)⟩,k.lst t h2 m1,⟨wL,k.lst t h3 m2,Zap k.gn h4⟩,⟨ws,k.lst t h5 m3,h7.off k t hl⟩,n1,n2,n3,ok⟩
def spKI (C cT:Addr):Sp:=fun vs H Q _=>∃ (S:Sl)(p dx f:Addr)(D:Nat),vs=[.ref p,.ref f,.int (D:Int)]/\Zgn S H/\H p=some (.ins C dx [])/\∀ aT aL aB H',KgAt C cT S H' p f aT aL aB D []->(∀ b o,H b=some o->b≠p->H' b=some o)->H aT=none->H aL=none->H aB=none->Q .non H'
theorem scKI:Zak ["self","seal","depth"] ["self","seal","depth"] (Zad Zmy):=Zb2
theorem Zrs {fI:Addr}{fdI:FuncData}(F:MethV K C "__init__" "Keeper.__init__" Zmy (.int 8))(T:TxK K mg C)(TT:Txt K mg cT)(M:Mk K cT fI)(GI:FnOk P w K mg base CX0 1 fI fdI ["self","seal","depth"] (spTI cT))(bI:Binds K fdI ["self","seal","depth"] []):MtD P w K mg base C 3 "__init__" ["self","seal","depth"] (spKI C cT) (.int 8):=by
 refine F.ok scKI (fun _ _ _ _ _ _ _ _=>l3e fun _ _ _=>⟨_,rfl,rfl⟩) (fun _ _ _ _ _ _ _ _=>m2e fun _ _=>⟨_,rfl,rfl⟩) (fun vs H Q E h=>?_) (fun f0 ad A outer s H vs Q E hr h=>?_)
 . obtain⟨S,p,dx,f,D,rfl,_⟩:=h;rfl
 obtain⟨S,p,dx,f,D,rfl,tld,hp,k⟩:=h;refine⟨_,Zab (Zej (pv 0) (pv 1) rfl) <| Zab (Zej (pv 0) (pv 2) rfl) <| Zab (Zej (pv 0) (Zau Zbl) rfl) <| Zab (Zej (pv 0) (Zau Zbl) rfl) <|
  Zar (Zej (pv 0) (Zau (pa1 (Zg4 M GI hr rfl TT.mgC bI .nil Zb6 (pa2 (pv 1) (pv 2))))) rfl),?_⟩
 have e1:Zdy "seal" (V.ref f) []=([("seal",.ref f)]:List (Str×V)):=rfl;have e2:Zdy "depth" (V.int (D:Int)) ([("seal",.ref f)]:List (Str×V))=([("seal",.ref f),("depth",.int (D:Int))]:List (Str×V)):=Zf6 (by simp only[Xbf,List.map_nil];decide +kernel);refine⟨_,rfl,_,rfl,p,C,dx,[],rfl,hp,T.cl,T.n1,(by show 0<1000;decide),?_⟩;rw[e1];refine⟨_,rfl,_,rfl,p,C,dx,_,rfl,Zaa,T.cl,T.n2,(by show 1<1000;decide),?_⟩;rw[e2,Zu6];refine⟨sl0,fun aT hT=>?_⟩;have npT:p≠aT:=Zac Zaa hT;have hT0:H aT=none:=by rw[Zaf npT.symm] at hT;exact hT
 refine⟨_,rfl,p,C,dx,_,rfl,(by rw[Zaf npT,Zaa]),T.cl,T.n3,(by show 2<1000;decide),?_⟩;have e3:Zdy "texts" (V.ref aT) ([("seal",.ref f),("depth",.int (D:Int))]:List (Str×V))=([("seal",.ref f),("depth",.int (D:Int)),("texts",.ref aT)]:List (Str×V)):=Zf6 (by simp only[Xbf,List.map_nil];decide +kernel);rw[e3];generalize hH1:upd (upd (upd H p (.ins C dx [("seal",.ref f),("depth",.int (D:Int))])) aT (.lst [])) p (.ins C dx [("seal",.ref f),("depth",.int (D:Int)),("texts",.ref aT)])=H1;have p1:H1 p=some (.ins C dx [("seal",.ref f),("depth",.int (D:Int)),("texts",.ref aT)]):=by rw[<- hH1,Zaa]
 have t1:H1 aT=some (.lst []):=by rw[<- hH1,Zaf npT.symm,Zaa]
 have k1:∀ b o,H b=some o->b≠p->H1 b=some o:=fun b o hb hn=>by rw[<- hH1,Zaf hn,Zaf (Zac hb hT0),Zaf hn];exact hb
 refine⟨sl0,fun aL hL=>?_⟩;have npL:p≠aL:=Zac p1 hL;have nTL:aT≠aL:=Zac t1 hL;have hL0:H aL=none:=by
  cases z:H aL with
  | none=>rfl
  | some o=>rw[k1 _ _ z npL.symm] at hL;cases hL
 refine⟨_,rfl,p,C,dx,_,rfl,(by rw[Zaf npL];exact p1),T.cl,T.n4,(by show 3<1000;decide),?_⟩;have e4:Zdy "leaves" (V.ref aL) ([("seal",.ref f),("depth",.int (D:Int)),("texts",.ref aT)]:List (Str×V))=([("seal",.ref f),("depth",.int (D:Int)),("texts",.ref aT),("leaves",.ref aL)]:List (Str×V)):=Zf6 (by simp only[Xbf,List.map_nil];decide +kernel);rw[e4];generalize hH2:upd (upd H1 aL (.lst [])) p (.ins C dx [("seal",.ref f),("depth",.int (D:Int)),("texts",.ref aT),("leaves",.ref aL)])=H2;have p2:H2 p=some (.ins C dx [("seal",.ref f),("depth",.int (D:Int)),("texts",.ref aT),("leaves",.ref aL)]):=by rw[<- hH2,Zaa]
 have t2:H2 aT=some (.lst []):=by rw[<- hH2,Zaf npT.symm,Zaf nTL];exact t1
 have l2:H2 aL=some (.lst []):=by rw[<- hH2,Zaf npL.symm,Zaa]
 have k2:∀ b o,H b=some o->b≠p->H2 b=some o:=fun b o hb hn=>by rw[<- hH2,Zaf hn,Zaf (Zac hb hL0)];exact k1 _ _ hb hn
 refine⟨_,rfl,_,rfl,fun y dy ny ndy ney=>⟨y,dy,f,D,rfl,Zaa,fun d H3 nd3 T3 k3=>⟨rfl,?_⟩⟩⟩;have all3:∀ b o,H2 b=some o->H3 b=some o:=fun b o h=>k3 b o (by rw[Zaf (Zac h ny),Zaf (Zac h ndy)];exact h) (Zac h ny);refine⟨sl1,fun aB hB=>?_⟩;have p3:=all3 _ _ p2;have npB:p≠aB:=Zac p3 hB;have nTB:aT≠aB:=Zac (all3 _ _ t2) hB;have nLB:aL≠aB:=Zac (all3 _ _ l2) hB;have hB0:H aB=none:=by
  cases z:H aB with
  | none=>rfl
  | some o=>rw[all3 _ _ (k2 _ _ z npB.symm)] at hB;cases hB
 refine⟨_,rfl,p,C,dx,_,rfl,(by rw[Zaf npB];exact p3),T.cl,T.n5,(by show 4<1000;decide),?_⟩;have e5:Zdy "tables" (V.ref aB) ([("seal",.ref f),("depth",.int (D:Int)),("texts",.ref aT),("leaves",.ref aL)]:List (Str×V))=flG f D aT aL aB:=Zf6 (by simp only[Xbf,List.map_nil];decide +kernel);rw[e5];obtain⟨⟨dy3,y3⟩,d3⟩:=T3;have nyB:y≠aB:=Zac y3 hB;have ndB:d≠aB:=Zac d3 hB;have nyp:y≠p:=Ne.symm (Zac p2 ny);have ndp:d≠p:=by rintro rfl;rw[p3] at d3;cases d3
 refine k aT aL aB _ ⟨⟨dx,Zaa⟩,?_,⟨[],?_,.nil⟩,⟨[.ref y],?_,.cons ⟨y,d,rfl,⟨dy3,?_⟩,?_⟩ .nil⟩,nTL,nTB,nLB,by simp⟩ (fun b o hb hn=>?_) hT0 hL0 hB0
 . rw[Zaf npT.symm,Zaf nTB];exact all3 _ _ t2
 . rw[Zaf npL.symm,Zaf nLB];exact all3 _ _ l2
 . rw[Zaf npB.symm,Zaa]
 . rw[Zaf nyp,Zaf nyB];exact y3
 . rw[Zaf ndp,Zaf ndB];exact d3
 . rw[Zaf hn,Zaf (Zac hb hB0)];exact all3 _ _ (k2 _ _ hb hn)
def Zwj (C cT:Addr):Sp:=fun vs H Q _=>∃ (S:Sl)(x f aT aL aB:Addr)(D:Nat)(es:List En),vs=[.ref x]/\KgAt C cT S H x f aT aL aB D es/\Q (.int (es.length:Int)) H
theorem scKZ:Zak ["self"] ["self"] (Zad Zmz):=Zb2
theorem Zqu (F:MethAt K C "size" "Keeper.size" Zmz)(T:TxK K mg C)(ml:mg "len" = none):MtP P w K mg base C 1 "size" ["self"] (Zwj C cT):=by
 refine F.ok scKZ (fun _ _ _ _ _ _=>l1e fun _=>rfl) (fun vs H Q E h=>?_) (fun f0 ad A outer s H vs Q E hr h=>?_)
 . obtain⟨S,x,f,aT,aL,aB,D,es,rfl,_⟩:=h;rfl
 obtain⟨S,x,f,aT,aL,aB,D,es,rfl,hK,q⟩:=h;obtain⟨dx,h1⟩:=hK.ob;refine⟨_,psr (Zai Zah rfl ml boot_len (pa1 (Za1 (pv 0) rfl))),?_⟩;refine⟨_,rfl,x,C,dx,_,_,rfl,h1,T.cl,T.n3,rfl,aT,_,rfl,.inl (SqL.of hK.tx),?_⟩;rw[Xad];exact q
noncomputable def Zbx (sz:V) (n:Nat):Option Nat:=match sz with
 | .int i=>if 0<=i/\i<=(n:Int) then some i.toNat else none
 | _=>some n
def SzV (sz:V):Prop:=sz = .non\/∃ i,sz = .int i
def Zlh (C cT cE:Addr):Sp:=fun vs H Q E=>∃ (S:Sl)(x f aT aL aB:Addr)(D:Nat)(es:List En)(sz:V),vs=[.ref x,sz]/\KgAt C cT S H x f aT aL aB D es/\SzV sz/\match Zbx sz es.length with
 | some n=>Q (.int (n:Int)) H
 | none=>E (.ref cE) none H
theorem scKS:Zak ["self","size"] ["self","size"] (Zad Zv9):=Zb2
theorem Zub (F:MethAt K C "size_or_whole" "Keeper.size_or_whole" Zv9)(T:TxK K mg C)(N:Npl K mg cE)(ml:mg "len" = none):MtX P w K mg base C 1 "size_or_whole" ["self","size"] (Zlh C cT cE):=by
 refine F.okX scKS (fun _ _ _ _ _ _=>l2e fun _ _=>rfl) (fun vs H Q E h=>?_) (fun f0 ad A outer s H vs Q E hr h=>?_)
 . obtain⟨S,x,f,aT,aL,aB,D,es,sz,rfl,_⟩:=h;rfl
 obtain⟨S,x,f,aT,aL,aB,D,es,sz,rfl,hK,hz,q⟩:=h;obtain⟨dx,h1⟩:=hK.ob;refine⟨_,Zab (Zat (Zaj Znk (pv 1) Zdl (Zam _)) (psr (Zai Zah rfl ml boot_len (pa1 (Za1 (pv 0) rfl)))) Zal) <|
  Zab (Zat (PW.pt (Zeq (Zaj Zdg (pv 1) Zae (Zam _)) (Zdq (Zaj Zmo (pv 1) (Zai Zah rfl ml boot_len (pa1 (Za1 (pv 0) rfl))) (Zam _))))) (Zar (Zel Zf2 hr.hd N.xc rfl N.hm (pa1 Zav))) Zal) <|
  psr (pv 1),?_⟩
 rcases hz with rfl | ⟨i,rfl⟩
 . refine⟨_,rfl,rfl,_,rfl,Zbz ?_⟩;refine⟨_,rfl,x,C,dx,_,_,rfl,h1,T.cl,T.n3,rfl,aT,_,rfl,.inl (SqL.of hK.tx),?_⟩;rw[Xad];exact q
 . refine⟨_,rfl,rfl,_,rfl,Zby ?_⟩;refine⟨_,rfl,_,_,rfl,rfl,_,rfl,?_⟩;unfold Zbx at q;dsimp only at q;by_cases c1:i<0
   . rw[Xah c1];rw[if_neg om] at q;exact Zbz (Zbz ⟨sl1,q⟩)
   rw[Xag c1];refine Zby ?_;refine⟨_,rfl,_,rfl,x,C,dx,_,_,rfl,h1,T.cl,T.n3,rfl,aT,_,rfl,.inl (SqL.of hK.tx),_,_,rfl,rfl,_,rfl,?_⟩;rw[Xad];by_cases c2:i > (es.length:Int)
   . rw[Xah c2];rw[if_neg om] at q;exact Zbz ⟨sl1,q⟩
   . rw[Xag c2];rw[if_pos ⟨om,om⟩] at q;have e:((i.toNat:Nat):Int)=i:=by omega
     dsimp only at q;rw[e] at q;exact Zby ⟨_,rfl,q⟩
def Zr2 (cE:Addr):Sp:=fun vs H Q E=>∃ p n:Int,vs=[.int p,.int n]/\if 0<=p/\p<n then Q .non H else E (.ref cE) none H
theorem scCP:Zak ["place","size"] ["place","size"] (Zad Zg0):=Zb2
theorem Zwn (F:FunAt K mg "check_place" Zg0)(N:Npl K mg cE):FnX P w K mg base 1 "check_place" ["place","size"] (Zr2 cE):=by
 refine F.okX scCP (fun _ _ _ _ _ _=>l2e fun _ _=>rfl) (fun vs H Q E h=>?_) (fun f0 ad A outer s H vs Q E hr h=>?_)
 . obtain⟨p,n,rfl,_⟩:=h;rfl
 obtain⟨p,n,rfl,q⟩:=h;refine⟨_,Zar (Zat (PW.pt (Zeq (Zaj Zdg (pv 0) Zae (Zam _)) (Zdq (Zaj Zpm (pv 0) (pv 1) (Zam _))))) (Zar (Zel Zf2 hr.hd N.xc rfl N.hm (pa1 Zav))) Zal),?_⟩;refine⟨_,rfl,_,_,rfl,rfl,_,rfl,?_⟩;by_cases c1:p<0
 . rw[Xah c1];rw[if_neg om] at q;exact Zbz (Zbz ⟨sl1,q⟩)
 rw[Xag c1];refine Zby ?_;refine⟨_,rfl,_,rfl,_,_,rfl,rfl,_,rfl,?_⟩;by_cases c2:p>=n
 . rw[Xah c2];rw[if_neg om] at q;exact Zbz ⟨sl1,q⟩
 . rw[Xag c2];rw[if_pos ⟨om,om⟩] at q;exact Zby q
def Zvw (C cT cE:Addr):Sp:=fun vs H Q E=>∃ (S:Sl)(x f aT aL aB:Addr)(D:Nat)(es:List En)(p:Int),vs=[.ref x,.int p]/\KgAt C cT S H x f aT aL aB D es/\
 ((0<=p/\p<(es.length:Int))->∀ e t d,es[p.toNat]? = some e->TabAt cT H t d f D e.2.1->Q (.ref t) H)/\(¬ (0<=p/\p<(es.length:Int))->E (.ref cE) none H)
theorem scKT:Zak ["self","place"] ["self","place"] (Zad kTb):=Zb2
theorem Zyr (F:MethAt K C "table_behind" "Keeper.table_behind" kTb)(T:TxK K mg C)(Fc:FnX P w K mg base 1 "check_place" ["place","size"] (Zr2 cE))(ml:mg "len" = none):MtX P w K mg base C 2 "table_behind" ["self","place"] (Zvw C cT cE):=by
 refine F.okX scKT (fun _ _ _ _ _ _=>l2e fun _ _=>rfl) (fun vs H Q E h=>?_) (fun f0 ad A outer s H vs Q E hr h=>?_)
 . obtain⟨S,x,f,aT,aL,aB,D,es,p,rfl,_⟩:=h;rfl
 obtain⟨S,x,f,aT,aL,aB,D,es,p,rfl,hK,q1,q2⟩:=h;obtain⟨dx,h1⟩:=hK.ob;obtain⟨ws,h5,h7⟩:=hK.tb;refine⟨_,Zab (Za9 (Ze7 Fc hr rfl Za4 (pa2 (pv 1) (Zai Zah rfl ml boot_len (pa1 (Za1 (pv 0) rfl)))))) <|
  psr (Zaw Zax (Za1 (pv 0) rfl) (Zas Zcv (pv 1) Zae) (fun _ _=>rfl)),?_⟩
 refine⟨_,rfl,_,rfl,x,C,dx,_,_,rfl,h1,T.cl,T.n3,rfl,aT,_,rfl,.inl (SqL.of hK.tx),p,_,rfl,?_⟩;rw[Xad];by_cases c:0<=p/\p<(es.length:Int)
 . rw[if_pos c];have hi:p.toNat<es.length:=by omega
   have e1:([] :: es.map (·.2.1))[p.toNat+1]? = some es[p.toNat].2.1:=by rw[List.getElem?_cons_succ,Xas,Xab hi];rfl
   obtain⟨t,d,et,Tt⟩:=Zsp h7 e1;have ei:atI ws (p+1)=some (.ref t):=by
    have z:=Zan et;rw[show((p.toNat+1:Nat):Int)=p+1 by omega] at z;exact z
   exact⟨_,rfl,x,C,dx,_,_,rfl,h1,T.cl,T.n5,rfl,_,rfl,_,_,rfl,rfl,aB,_,_,_,rfl,rfl,SqL.of h5,ei,q1 c _ t d (Xab hi) Tt⟩
 . rw[if_neg c];exact q2 c
def Zum (C cT cE:Addr):Sp:=fun vs H Q E=>∃ (S:Sl)(x f aT aL aB:Addr)(D:Nat)(es:List En)(p:Int),vs=[.ref x,.int p]/\KgAt C cT S H x f aT aL aB D es/\
 ((0<=p/\p<(es.length:Int))->∀ e,es[p.toNat]? = some e->Q (.str e.1) H)/\(¬ (0<=p/\p<(es.length:Int))->E (.ref cE) none H)
theorem scKX:Zak ["self","place"] ["self","place"] (Zad Zlq):=Zb2
theorem Zsl (F:MethAt K C "text" "Keeper.text" Zlq)(T:TxK K mg C)(Fc:FnX P w K mg base 1 "check_place" ["place","size"] (Zr2 cE))(ml:mg "len" = none):MtX P w K mg base C 2 "text" ["self","place"] (Zum C cT cE):=by
 refine F.okX scKX (fun _ _ _ _ _ _=>l2e fun _ _=>rfl) (fun vs H Q E h=>?_) (fun f0 ad A outer s H vs Q E hr h=>?_)
 . obtain⟨S,x,f,aT,aL,aB,D,es,p,rfl,_⟩:=h;rfl
 obtain⟨S,x,f,aT,aL,aB,D,es,p,rfl,hK,q1,q2⟩:=h;obtain⟨dx,h1⟩:=hK.ob;refine⟨_,Zab (Za9 (Ze7 Fc hr rfl Za4 (pa2 (pv 1) (Zai Zah rfl ml boot_len (pa1 (Za1 (pv 0) rfl)))))) <|
  psr (Zaw Zax (Za1 (pv 0) rfl) (pv 1) (fun _ _=>rfl)),?_⟩
 refine⟨_,rfl,_,rfl,x,C,dx,_,_,rfl,h1,T.cl,T.n3,rfl,aT,_,rfl,.inl (SqL.of hK.tx),p,_,rfl,?_⟩;rw[Xad];by_cases c:0<=p/\p<(es.length:Int)
 . rw[if_pos c];have hi:p.toNat<es.length:=by omega
   have ei:atI (es.map fun e=>V.str e.1) p=some (.str es[p.toNat].1):=by
    have z:atI (es.map fun e=>V.str e.1) ((p.toNat:Nat):Int)=some (.str es[p.toNat].1):=Zan (by rw[Xas,Xab hi];rfl);rw[show((p.toNat:Nat):Int)=p by omega] at z;exact z
   exact⟨_,rfl,x,C,dx,_,_,rfl,h1,T.cl,T.n3,rfl,_,rfl,aT,_,_,_,rfl,rfl,SqL.of hK.tx,ei,q1 c _ (Xab hi)⟩
 . rw[if_neg c];exact q2 c
theorem Zj2 {D:Nat}{e:En}(h:Zwe D e)(D16:D<=16):Zgd D e.2.2+1<=300:=by
 have cl:=Zhh D e.2.2;have rl:=h.s.len;have h8:=h.l;have:D * e.2.2.length<=16 * 8:=Nat.mul_le_mul D16 om;omega
def Zv5 (K:W.Frag)(mg:Str->Option Value)(C cT cE:Addr):Sp:=fun vs H Q E=>∃ (S:Sl)(x f aT aL aB:Addr)(D:Nat)(es:List En)(p:Int),vs=[.ref x,.int p]/\KgAt C cT S H x f aT aL aB D es/\SealAt K mg Zbe S H f/\D<=16/\Cap S H 300/\
 ((0<=p/\p<(es.length:Int))->∀ e v H',es[p.toNat]? = some e->Gr S 300 H H'->isT S H' (tbT D e.2.2) v->Q v H')/\(¬ (0<=p/\p<(es.length:Int))->E (.ref cE) none H)
theorem scKH2:Zak ["self","place"] ["self","place"] (Zad kTh):=Zb2
theorem Zx5 (F:MethAt K C "table_head" "Keeper.table_head" kTh)(T:TxK K mg C)(TT:Txt K mg cT)(Mb:MtX P w K mg base C 2 "table_behind" ["self","place"] (Zvw C cT cE))(Mh:MtP P w K mg base cT 20 "head" ["self"] (Zjx K mg cT)):MtX P w K mg base C 21 "table_head" ["self","place"] (Zv5 K mg C cT cE):=by
 refine F.okX scKH2 (fun _ _ _ _ _ _=>l2e fun _ _=>rfl) (fun vs H Q E h=>?_) (fun f0 ad A outer s H vs Q E hr h=>?_)
 . obtain⟨S,x,f,aT,aL,aB,D,es,p,rfl,_⟩:=h;rfl
 obtain⟨S,x,f,aT,aL,aB,D,es,p,rfl,hK,hS,D16,hc,q1,q2⟩:=h;obtain⟨dx,h1⟩:=hK.ob;refine⟨_,psr (Zcn Mh (Zbf Mb (pv 0) T.cl hr.m Za4 (pa1 (pv 1))) TT.cl hr),?_⟩;refine⟨_,rfl,x,dx,_,rfl,h1,rfl,_,rfl,S,x,f,aT,aL,aB,D,es,p,rfl,hK,fun c e t d ee Tt=>?_,q2⟩;obtain⟨⟨dt,t1⟩,t2⟩:=id Tt;have eo:=hK.ok e (Xa7 ee);have ct:=Zj2 eo D16;have h8:=eo.l;exact⟨t,dt,_,rfl,t1,rfl,S,t,d,f,D,e.2.1,e.2.2,rfl,Tt,hS,eo.w,om,eo.s,D16,hc.dn ct,fun v H' g i=>q1 c e v H' ee (g.up ct) i⟩
theorem Zoj {X:Cx}{C:Addr}{k:Nat}{ps:List Str}{sp sp':Sp}{m:Str}{o e:Expr}{es:List Expr}{ta:TE}{t:TA}{ae pos:Pos}{E:XK}{pl:Sem Bool}(F:MtP X.prog X.w X.K X.mg X.base C k m ps sp)(G:MtX X.prog X.w X.K X.mg X.base C k m ps sp')(he:PE X o ta)(c:Cls X.K C)(hr:Room k X.A)(hx:Zbu (CXB X.prog X.w) X E)(ha:PA X (e :: es) t)
 (hst:SEa X e es:=by rfl)(hpl:SPa X es pos:=by rfl)
 (ht:MCa X o m (e :: es) pl ae pos:=by rfl) :
 PE X (.Call (.Attribute o m ae) (e :: es) [] pos) (Zge C m (fun vs H Q E=>sp vs H Q E0\/sp' vs H Q E) [] E ta t):=by
 obtain⟨f,fd,h1,h3,h4⟩:=F;obtain⟨f',fd',a1,a3,a4⟩:=G;have ef:=h1.at_.symm.trans a1.at_;cases ef
 intro aa s σ H Q I h;refine Xby (pl:=pl) (thn (he aa s σ H _ I h) fun u s1 hz=>?_) ht;obtain⟨x,H1,I1,rx,a,dx,fs,ex,ea,l,q⟩:=hz;subst ex;obtain rfl:u=Value.ref a:=rx;refine Zc7 I1 ea c h1 l ?_;refine Xbq (first:=[.ref a]) (h₀:=X.base) I.ok.mod.kin h1.kp (thn (ha pos aa s1 σ H1 _ I1 q) fun us s2=>ex5 fun vs H2 I2 r q2=>⟨I2.kIn,?_⟩) hst hpl;have q2:sp (V.ref a :: vs++[]) H2 Q E0\/sp' (V.ref a :: vs++[]) H2 Q E:=q2;rcases q2 with q2 | q2
 . exact Zgr (us:=.ref a :: us) (vs:=.ref a :: vs) h4 hr h3 .nil Zb6 I2 (.cons rfl r) q2
 . exact Zgr (us:=.ref a :: us) (vs:=.ref a :: vs) a4 hr a3 .nil hx I2 (.cons rfl r) q2
theorem MtN.toX {k:Nat}{m:Str}{ps:List Str}{sp:Sp}(F:MtN P w K mg base C k m ps sp):MtX P w K mg base C k m ps sp:=by
 obtain⟨f,fd,h1,h3,h4⟩:=F;refine⟨f,fd,h1,h3,h4.len,fun A outer s H args us vs Q E hr e0 hb r h=>codeAny_mono (h4.run A outer s H args us vs Q E hr e0 hb r h) fun r s' hq=>?_⟩;cases r with
 | error e=>obtain⟨ea,t,C,B,H',e1,F,_,q⟩:=hq;exact⟨ea,t,C,B,H',e1,F,q⟩
 | ok fl=>cases fl <;> exact hq
theorem Zlg {sz:V}{len n:Nat}(h:Zbx sz len=some n):n<=len:=by
 unfold Zbx at h;split at h
 . split at h
   . next i c=>cases h;omega
   . cases h
 . cases h;exact Xae _
def Zxb (cT cE:Addr):Sp:=fun vs H _ E=>∃ (x d f:Addr)(D:Nat)(kvs:List (Key×V))(k:Int),vs=[.ref x,.int k]/\TabAt cT H x d f D kvs/\¬ Of k D/\E (.ref cE) none H
theorem Zqm (F:MethAt K cT "way" "Table.way" Zu5)(T:Txt K mg cT)(Mc:MtX P w K mg base cT 2 "check" ["self","key"] (Zj6 cT cE)):MtX P w K mg base cT 20 "way" ["self","key"] (Zxb cT cE):=by
 refine F.okX scTW (fun _ _ _ _ _ _=>l2e fun _ _=>rfl) (fun vs H Q E h=>?_) (fun f0 ad A outer s H vs Q E hr h=>?_)
 . obtain⟨x,d,f,D,kvs,k,rfl,_⟩:=h;rfl
 obtain⟨x,d,f,D,kvs,k,rfl,hT,c,q⟩:=h;obtain⟨⟨dx,h1⟩,h2⟩:=id hT;refine⟨_,Zab (Za9 (Zbf Mc (pv 0) T.cl hr.m Za4 (pa1 (pv 1)))) Zb3,?_⟩;exact⟨_,rfl,x,dx,_,rfl,h1,rfl,_,rfl,x,d,f,D,kvs,k,rfl,hT,fun z=>absurd z c,fun _=>q⟩
noncomputable abbrev bkG (D:Nat) (es:List En):Tm:=.nd "book" (.int (es.length:Int)) (tpT (es.map (lfG D)))
def Zyf (K:W.Frag)(mg:Str->Option Value)(C cT cE:Addr):Sp:=fun vs H Q E=>∃ (S:Sl)(x f aT aL aB:Addr)(D:Nat)(es:List En)(sz:V),vs=[.ref x,sz]/\KgAt C cT S H x f aT aL aB D es/\SealAt K mg Zbe S H f/\SzV sz/\es.length<=300/\Cap S H 310/\match Zbx sz es.length with
 | some n=>∀ v H',Gr S 310 H H'->isT S H' (bkG D (es.take n)) v->Q v H'
 | none=>E (.ref cE) none H
theorem scKH:Zak ["self","size","count"] ["self","size"] (Zad Zmk):=Zb2
theorem Zsc (F:MethV K C "head" "Keeper.head" Zmk .non)(T:TxK K mg C)(Ms:MtX P w K mg base C 1 "size_or_whole" ["self","size"] (Zlh C cT cE))(Fb:FnP P w K mg base 2 "book_seal" ["seal","size","top"] (Zd1 K mg "book"))(Ft:FnP P w K mg base 12 "top_of" ["seal","leaves"] (Zit K mg 9)):MtDX P w K mg base C 13 "head" ["self","size"] (Zyf K mg C cT cE) .non:=by
 refine F.okX scKH (fun _ _ _ _ _ _ _ _=>l2e fun _ _=>⟨_,rfl,rfl⟩) (fun _ _ _ _ _ _ _ _=>m1e fun _=>⟨_,rfl,rfl⟩) (fun vs H Q E h=>?_) (fun f0 ad A outer s H vs Q E hr h=>?_)
 . obtain⟨S,x,f,aT,aL,aB,D,es,sz,rfl,_⟩:=h;rfl
 obtain⟨S,x,f,aT,aL,aB,D,es,sz,rfl,hK,hS,hz,hl,hc,q⟩:=h;have nd:=scKH.nd;obtain⟨dx,h1⟩:=hK.ob;obtain⟨wL,h3,h4⟩:=hK.lv;refine⟨_,Zab (Zao (i:=2) nd rfl (Or.inl rfl) (Zbf Ms (pv 0) T.cl hr.m Za4 (pa1 (pv 1)))) <|
  psr (Zag Fb hr.m rfl (pa3 (Za1 (pv 0) rfl) (pv 2) (Zag Ft hr rfl (pa2 (Za1 (pv 0) rfl) (Zay Za8 (Za1 (pv 0) rfl) Za6 (Za5 (pv 2))))))),?_⟩
 refine⟨_,rfl,x,dx,_,rfl,h1,rfl,_,rfl,S,x,f,aT,aL,aB,D,es,sz,rfl,hK,hz,?_⟩;cases hn':Zbx sz es.length with
 | none=>rw[hn'] at q;exact q
 | some n=>
 rw[hn'] at q;have hn:=Zlg hn';refine⟨_,rfl,x,C,dx,_,_,rfl,h1,T.cl,T.n1,rfl,_,rfl,_,rfl,x,C,dx,_,_,rfl,h1,T.cl,T.n1,rfl,_,rfl,x,C,dx,_,_,rfl,h1,T.cl,T.n4,rfl,_,rfl,_,rfl,aL,wL,rfl,SqL.of h3,fun p hp=>?_⟩;have g1:Gr S 0 H (upd H p (.lst (Zc6 wL none (some (n:Int))))):=.new hS.told hp;have l1:upd H p (.lst (Zc6 wL none (some (n:Int)))) p=some (.lst (wL.take n)):=by rw[Zaa,show Zc6 wL none (some (n:Int))=wL.take n from Zbs]
 have lt:((es.map (lfG D)).take n).length=n:=by rw[Xav,Xad];omega
 have cl:=Zdz ((es.map (lfG D)).take n);refine⟨S,f,p,_,(es.map (lfG D)).take n,rfl,hS.up g1.gn,SqL.of l1,Zb5 n (Zap g1.gn h4),om,hc.go g1.gn om,fun v H2 g2 i2=>?_⟩;have g12:=g1.trans g2;refine⟨S,f,.int (n:Int),_,_,_,rfl,hS.up g12.gn,hc.go g12.gn om,rfl,i2,fun v3 H3 g3 i3=>q v3 H3 ((g12.trans g3).up om) ?_⟩;have e1:(es.take n).length=n:=by rw[Xav];omega
 show isT S H3 (.nd "book" (.int ((es.take n).length:Int)) (tpT ((es.take n).map (lfG D)))) v3;rw[e1,List.map_take];exact i3
def Zvo (K:W.Frag)(mg:Str->Option Value)(C cT cE:Addr):Sp:=fun vs H Q E=>∃ (S:Sl)(x f aT aL aB:Addr)(D:Nat)(es:List En)(p:Int)(sz:V),vs=[.ref x,.int p,sz]/\KgAt C cT S H x f aT aL aB D es/\SealAt K mg Zbe S H f/\SzV sz/\es.length<=300/\Cap S H 310/\match Zbx sz es.length with
 | some n=>((0<=p/\p<(n:Int))->∀ r rs H',Gr S 310 H H'->H' r=some (.lst rs)->Zdc S H' (paT ((es.take n).map (lfG D)) p.toNat) rs->Q (.ref r) H')/\(¬ (0<=p/\p<(n:Int))->E (.ref cE) none H)
 | none=>E (.ref cE) none H
theorem scKP:Zak ["self","place","size","count"] ["self","place","size"] (Zad Zmw):=Zb2
theorem Zrc (F:MethV K C "path" "Keeper.path" Zmw .non)(T:TxK K mg C)(Ms:MtX P w K mg base C 1 "size_or_whole" ["self","size"] (Zlh C cT cE))(Fc:FnX P w K mg base 1 "check_place" ["place","size"] (Zr2 cE))(Fp:FnP P w K mg base 13 "path_of" ["seal","leaves","place"] (Zj7 K mg 9)):MtDX P w K mg base C 14 "path" ["self","place","size"] (Zvo K mg C cT cE) .non:=by
 refine F.okX scKP (fun _ _ _ _ _ _ _ _=>l3e fun _ _ _=>⟨_,rfl,rfl⟩) (fun _ _ _ _ _ _ _ _=>m2e fun _ _=>⟨_,rfl,rfl⟩) (fun vs H Q E h=>?_) (fun f0 ad A outer s H vs Q E hr h=>?_)
 . obtain⟨S,x,f,aT,aL,aB,D,es,p,sz,rfl,_⟩:=h;rfl
 obtain⟨S,x,f,aT,aL,aB,D,es,p,sz,rfl,hK,hS,hz,hl,hc,q⟩:=h;have nd:=scKP.nd;obtain⟨dx,h1⟩:=hK.ob;obtain⟨wL,h3,h4⟩:=hK.lv;refine⟨_,Zab (Zao (i:=3) nd rfl (Or.inl rfl) (Zbf Ms (pv 0) T.cl hr.m Za4 (pa1 (pv 2)))) <|
  Zab (Za9 (Ze7 Fc hr.m rfl Za4 (pa2 (pv 1) (pv 3)))) <|
  psr (Zag Fp hr rfl (pa3 (Za1 (pv 0) rfl) (Zay Za8 (Za1 (pv 0) rfl) Za6 (Za5 (pv 3))) (pv 1))),?_⟩
 refine⟨_,rfl,x,dx,_,rfl,h1,rfl,_,rfl,S,x,f,aT,aL,aB,D,es,sz,rfl,hK,hz,?_⟩;cases hn':Zbx sz es.length with
 | none=>rw[hn'] at q;exact q
 | some n=>
 rw[hn'] at q;obtain⟨q1,q2⟩:=q;have hn:=Zlg hn';refine⟨_,rfl,_,rfl,p,n,rfl,?_⟩;by_cases c:0<=p/\p<(n:Int)
 . rw[if_pos c];have ep:((p.toNat:Nat):Int)=p:=by omega
   refine⟨_,rfl,x,C,dx,_,_,rfl,h1,T.cl,T.n1,rfl,_,rfl,x,C,dx,_,_,rfl,h1,T.cl,T.n4,rfl,_,rfl,_,rfl,aL,wL,rfl,SqL.of h3,fun p1 hp1=>⟨_,rfl,?_⟩⟩;have g1:Gr S 0 H (upd H p1 (.lst (Zc6 wL none (some (n:Int))))):=.new hS.told hp1;have l1:upd H p1 (.lst (Zc6 wL none (some (n:Int)))) p1=some (.lst (wL.take n)):=by rw[Zaa,show Zc6 wL none (some (n:Int))=wL.take n from Zbs]
   have lt:((es.take n).map (lfG D)).length=n:=by rw[Xad,Xav];omega
   exact⟨S,f,p1,_,(es.take n).map (lfG D),p.toNat,by rw[ep];rfl,hS.up g1.gn,SqL.of l1,by rw[List.map_take];exact Zb5 n (Zap g1.gn h4),om,om,hc.go g1.gn om,fun r rs H2 g2 nr er ir=>q1 c r rs H2 ((g1.trans g2).up om) er ir⟩
 . rw[if_neg c];exact q2 c
def Zwo (K:W.Frag)(mg:Str->Option Value)(C cT cE:Addr):Sp:=fun vs H Q E=>∃ (S:Sl)(x f aT aL aB:Addr)(D:Nat)(es:List En)(p:Int)(sz:V),vs=[.ref x,.int p,sz]/\KgAt C cT S H x f aT aL aB D es/\SealAt K mg Zbe S H f/\SzV sz/\es.length<=300/\Cap S H 310/\match Zbx sz es.length with
 | some n=>((0<=p/\p<=(n:Int))->∀ r rs H',Gr S 310 H H'->H' r=some (.lst rs)->Zdc S H' (gwT ((es.take n).map (lfG D)) p.toNat) rs->Q (.ref r) H')/\(¬ (0<=p/\p<=(n:Int))->E (.ref cE) none H)
 | none=>E (.ref cE) none H
theorem scKG:Zak ["self","old","size","count"] ["self","old","size"] (Zad Zeu):=Zb2
theorem Zq7 (F:MethV K C "growth" "Keeper.growth" Zeu .non)(T:TxK K mg C)(N:Npl K mg cE)(Ms:MtX P w K mg base C 1 "size_or_whole" ["self","size"] (Zlh C cT cE))(Fg:FnP P w K mg base 13 "growth_of" ["seal","leaves","old"] (Zkk K mg 9)):MtDX P w K mg base C 14 "growth" ["self","old","size"] (Zwo K mg C cT cE) .non:=by
 refine F.okX scKG (fun _ _ _ _ _ _ _ _=>l3e fun _ _ _=>⟨_,rfl,rfl⟩) (fun _ _ _ _ _ _ _ _=>m2e fun _ _=>⟨_,rfl,rfl⟩) (fun vs H Q E h=>?_) (fun f0 ad A outer s H vs Q E hr h=>?_)
 . obtain⟨S,x,f,aT,aL,aB,D,es,p,sz,rfl,_⟩:=h;rfl
 obtain⟨S,x,f,aT,aL,aB,D,es,p,sz,rfl,hK,hS,hz,hl,hc,q⟩:=h;have nd:=scKG.nd;obtain⟨dx,h1⟩:=hK.ob;obtain⟨wL,h3,h4⟩:=hK.lv;refine⟨_,Zab (Zao (i:=3) nd rfl (Or.inl rfl) (Zbf Ms (pv 0) T.cl hr.m Za4 (pa1 (pv 2)))) <|
  Zab (Zat (PW.pt (Zeq (Zaj Zdg (pv 1) Zae (Zam _)) (Zdq (Zaj Zmo (pv 1) (pv 3) (Zam _))))) (Zar (Zel Zf2 hr.hd N.xc rfl N.hm (pa1 Zav))) Zal) <|
  psr (Zag Fg hr rfl (pa3 (Za1 (pv 0) rfl) (Zay Za8 (Za1 (pv 0) rfl) Za6 (Za5 (pv 3))) (pv 1))),?_⟩
 refine⟨_,rfl,x,dx,_,rfl,h1,rfl,_,rfl,S,x,f,aT,aL,aB,D,es,sz,rfl,hK,hz,?_⟩;cases hn':Zbx sz es.length with
 | none=>rw[hn'] at q;exact q
 | some n=>
 rw[hn'] at q;obtain⟨q1,q2⟩:=q;have hn:=Zlg hn';refine⟨_,rfl,_,_,rfl,rfl,_,rfl,?_⟩;by_cases c1:p<0
 . rw[Xah c1];exact Zbz (Zbz ⟨sl1,q2 om⟩)
 rw[Xag c1];refine Zby ?_;refine⟨_,rfl,_,rfl,_,_,rfl,rfl,_,rfl,?_⟩;by_cases c2:p > (n:Int)
 . rw[Xah c2];exact Zbz ⟨sl1,q2 om⟩
 rw[Xag c2];refine Zby ?_;have ep:((p.toNat:Nat):Int)=p:=by omega
 refine⟨_,rfl,x,C,dx,_,_,rfl,h1,T.cl,T.n1,rfl,_,rfl,x,C,dx,_,_,rfl,h1,T.cl,T.n4,rfl,_,rfl,_,rfl,aL,wL,rfl,SqL.of h3,fun p1 hp1=>⟨_,rfl,?_⟩⟩;have g1:Gr S 0 H (upd H p1 (.lst (Zc6 wL none (some (n:Int))))):=.new hS.told hp1;have l1:upd H p1 (.lst (Zc6 wL none (some (n:Int)))) p1=some (.lst (wL.take n)):=by rw[Zaa,show Zc6 wL none (some (n:Int))=wL.take n from Zbs]
 have lt:((es.take n).map (lfG D)).length=n:=by rw[Xad,Xav];omega
 exact⟨S,f,p1,_,(es.take n).map (lfG D),p.toNat,by rw[ep];rfl,hS.up g1.gn,SqL.of l1,by rw[List.map_take];exact Zb5 n (Zap g1.gn h4),om,om,hc.go g1.gn om,fun r rs H2 g2 nr er ir=>q1 ⟨om,om⟩ r rs H2 ((g1.trans g2).up om) er ir⟩
def Zup (K:W.Frag)(mg:Str->Option Value)(C cT cE:Addr):Sp:=fun vs H Q E=>∃ (S:Sl)(x f aT aL aB:Addr)(D:Nat)(es:List En)(p k:Int),vs=[.ref x,.int p,.int k]/\KgAt C cT S H x f aT aL aB D es/\SealAt K mg Zbe S H f/\D<=16/\Cap S H 6000/\
 (((0<=p/\p<(es.length:Int))/\Of k D)->∀ e q r H',es[p.toNat]? = some e->Gr S 6000 H H'->WayAt S H' q r (Zdh D e.2.2 k)->Q (.ref q) H')/\(¬ ((0<=p/\p<(es.length:Int))/\Of k D)->E (.ref cE) none H)
theorem scKW:Zak ["self","place","key"] ["self","place","key"] (Zad Zwc):=Zb2
theorem Zuq (F:MethAt K C "way" "Keeper.way" Zwc)(T:TxK K mg C)(TT:Txt K mg cT)(Mb:MtX P w K mg base C 2 "table_behind" ["self","place"] (Zvw C cT cE))(Mw:MtP P w K mg base cT 20 "way" ["self","key"] (Zsx K mg cT))(Mr:MtX P w K mg base cT 20 "way" ["self","key"] (Zxb cT cE)):MtX P w K mg base C 21 "way" ["self","place","key"] (Zup K mg C cT cE):=by
 refine F.okX scKW (fun _ _ _ _ _ _=>l3e fun _ _ _=>rfl) (fun vs H Q E h=>?_) (fun f0 ad A outer s H vs Q E hr h=>?_)
 . obtain⟨S,x,f,aT,aL,aB,D,es,p,k,rfl,_⟩:=h;rfl
 obtain⟨S,x,f,aT,aL,aB,D,es,p,k,rfl,hK,hS,D16,hc,q1,q2⟩:=h;obtain⟨dx,h1⟩:=hK.ob;refine⟨_,psr (Zoj Mw Mr (Zbf Mb (pv 0) T.cl hr.m Za4 (pa1 (pv 1))) TT.cl hr Za4 (pa1 (pv 2))),?_⟩;refine⟨_,rfl,x,dx,_,rfl,h1,rfl,_,rfl,S,x,f,aT,aL,aB,D,es,p,rfl,hK,fun c e t d ee Tt=>?_,fun c=>q2 fun z=>c z.1⟩;obtain⟨⟨dt,t1⟩,t2⟩:=id Tt;have eo:=hK.ok e (Xa7 ee);have h8:=eo.l;have rl:=eo.s.len;refine⟨t,dt,_,rfl,t1,rfl,_,rfl,?_⟩;by_cases ck:Of k D
 . have wl:wcP D e.2.2 k<=6000:=by
    have:=Znc D e.2.2 k;have h2:D * e.2.2.length<=16 * 8:=Nat.mul_le_mul D16 om;have h3:D * (D * e.2.2.length)<=16 * (16 * 8):=Nat.mul_le_mul D16 h2;omega
   exact .inl ⟨S,t,d,f,D,e.2.1,e.2.2,k,rfl,Tt,hS,eo.w,om,eo.s,D16,ck.1,ck.2,hc.dn wl,fun q r H' g _ _ wy=>q1 ⟨c,ck⟩ e q r H' ee (g.up wl) wy⟩
 . exact .inr ⟨t,d,f,D,e.2.1,k,rfl,Tt,ck,q2 fun z=>ck z.2⟩
def PpAt (S:Sl)(H:Hp)(q:Addr)(z:Str)(t:Tm)(ts:List Tm)(wy:List Tm×List Rw):Prop:=∃ u r rs p r2,H q=some (.tup [.str z,u,.ref r,.ref p])/\isT S H t u/\H r=some (.lst rs)/\Zdc S H ts rs/\WayAt S H p r2 wy
theorem WayAt.gr {S:Sl}{n:Nat}{H H':Hp}{p r:Addr}{wy:List Tm×List Rw}(h:WayAt S H p r wy)(g:Gr S n H H'):WayAt S H' p r wy:=by
 obtain⟨os,ev,h1,h2,h3,h4⟩:=h;exact⟨os,ev,g.same h1 (fun _ e=>nomatch e),g.lst h2,Zap g.gn h3,h4.up g.gn⟩
def Zw0 (K:W.Frag)(mg:Str->Option Value)(C cT cE:Addr):Sp:=fun vs H Q E=>∃ (S:Sl)(x f aT aL aB:Addr)(D:Nat)(es:List En)(p k:Int)(sz:V),vs=[.ref x,.int p,.int k,sz]/\KgAt C cT S H x f aT aL aB D es/\SealAt K mg Zbe S H f/\SzV sz/\es.length<=300/\D<=16/\Cap S H 7000/\
 (∀ n e q H',Zbx sz es.length=some n->(0<=p/\p<(n:Int))->Of k D->es[p.toNat]? = some e->Gr S 7000 H H'->PpAt S H' q e.1 (tbT D e.2.2) (paT ((es.take n).map (lfG D)) p.toNat) (Zdh D e.2.2 k)->Q (.ref q) H')/\
 ((∀ n,Zbx sz es.length=some n->¬ ((0<=p/\p<(n:Int))/\Of k D))->∀ H',Gr S 7000 H H'->E (.ref cE) none H')
theorem scKQ:Zak ["self","place","key","size","path"] ["self","place","key","size"] (Zad Zgt):=Zb2
theorem Znq (F:MethV K C "paper" "Keeper.paper" Zgt .non)(T:TxK K mg C)(Mp:MtX P w K mg base C 14 "path" ["self","place","size"] (Zvo K mg C cT cE))(Mx:MtX P w K mg base C 2 "text" ["self","place"] (Zum C cT cE))(Mh:MtX P w K mg base C 21 "table_head" ["self","place"] (Zv5 K mg C cT cE))(Mw:MtX P w K mg base C 21 "way" ["self","place","key"] (Zup K mg C cT cE)):MtDX P w K mg base C 22 "paper" ["self","place","key","size"] (Zw0 K mg C cT cE) .non:=by
 refine F.okX scKQ (fun _ _ _ _ _ _ _ _=>l4e fun _ _ _ _=>⟨_,rfl,rfl⟩) (fun _ _ _ _ _ _ _ _=>m3e fun _ _ _=>⟨_,rfl,rfl⟩) (fun vs H Q E h=>?_) (fun f0 ad A outer s H vs Q E hr h=>?_)
 . obtain⟨S,x,f,aT,aL,aB,D,es,p,k,sz,rfl,_⟩:=h;rfl
 obtain⟨S,x,f,aT,aL,aB,D,es,p,k,sz,rfl,hK,hS,hz,hl,D16,hc,q1,q2⟩:=h;have nd:=scKQ.nd;obtain⟨dx,h1⟩:=hK.ob;refine⟨_,Zab (Zao (i:=4) nd rfl (Or.inl rfl) (Zbf Mp (pv 0) T.cl hr.m Za4 (pa2 (pv 1) (pv 3)))) <|
  psr (Zbw (pa4 (Zbf Mx (pv 0) T.cl hr.m Za4 (pa1 (pv 1))) (Zbf Mh (pv 0) T.cl hr Za4 (pa1 (pv 1))) (pv 4) (Zbf Mw (pv 0) T.cl hr Za4 (pa2 (pv 1) (pv 2))))),?_⟩
 refine⟨_,rfl,x,dx,_,rfl,h1,rfl,_,rfl,_,rfl,S,x,f,aT,aL,aB,D,es,p,sz,rfl,hK,hS,hz,hl,hc.dn om,?_⟩;cases hn':Zbx sz es.length with
 | none=>exact q2 (fun n z=>by rw[hn'] at z;cases z) H (Gr.up (.refl hS.told) om)
 | some n=>
 have hn:=Zlg hn';refine⟨fun c r rs H1 g1 er ir=>?_,fun c=>q2 (fun m z y=>by rw[hn'] at z;cases z;exact c y.1) H (Gr.up (.refl hS.told) om)⟩;have hi:p.toNat<es.length:=by omega
 have ee:es[p.toNat]? = some es[p.toNat]:=Xab hi;have cL:0<=p/\p<(es.length:Int):=⟨om,om⟩
 have K1:=hK.up g1;have S1:=hS.up g1.gn;obtain⟨dx1,h11⟩:=K1.ob;dsimp only[Zbk];refine⟨_,rfl,x,dx1,_,rfl,h11,rfl,_,rfl,S,x,f,aT,aL,aB,D,es,p,rfl,K1,fun _ e1 ee1=>?_,fun z=>absurd cL z⟩;rw[ee] at ee1;cases ee1;refine⟨_,rfl,x,dx1,_,rfl,h11,rfl,_,rfl,S,x,f,aT,aL,aB,D,es,p,rfl,K1,S1,D16,hc.go g1.gn om,fun _ e2 v2 H2 ee2 g2 i2=>?_,fun z=>absurd cL z⟩;rw[ee] at ee2;cases ee2;have g12:=g1.trans g2;have K2:=hK.up g12;obtain⟨dx2,h12⟩:=K2.ob;refine⟨_,rfl,_,rfl,x,dx2,_,rfl,h12,rfl,_,rfl,_,rfl,S,x,f,aT,aL,aB,D,es,p,k,rfl,K2,hS.up g12.gn,D16,hc.go g12.gn om,fun ck e3 q r2 H3 ee3 g3 wy=>?_,fun z=>q2 (fun m y c'=>z ⟨cL,c'.2⟩) H2 (g12.up om)⟩;rw[ee] at ee3;cases ee3;refine⟨sl4,fun pp npp=>?_⟩;have g4:Gr S 0 H3 (upd H3 pp (.tup [.str es[p.toNat].1,v2,.ref r,.ref q])):=.new (g12.trans g3).gn.told2 npp;have g34:=g3.trans g4;exact q1 n _ pp _ hn' c ck.2 ee ((g12.trans g34).up om) ⟨v2,r,rs,q,r2,Zaa,Zaz g34.gn i2,(g2.trans g34).lst er,Zap (g2.trans g34).gn ir,wy.gr g4⟩
noncomputable def Zbg (es:List En):List (Key×V):=(([] :: es.map (·.2.1))[es.length]?).getD []
theorem Zox (es:List En):([] :: es.map (·.2.1))[es.length]? = some (Zbg es):=by
 have h:es.length<([] :: es.map (·.2.1)).length:=by rw[Xax,Xad];omega
 unfold Zbg;rw[Xab h];rfl
theorem Znr (es:List En)(e:En):Zbg (es++[e])=e.2.1:=by
 unfold Zbg;rw[Xay,Xa8,List.getElem?_cons_succ,Xbk,Xbv (by rw[Xad];exact Xae _),Xad];simp
theorem Zvs {D:Nat}{es:List En}(ok:∀ e∈es,Zwe D e):Rws D (Zbg es)/\(Zbg es).length<=8:=by
 unfold Zbg;cases h:es.length with
 | zero=>exact⟨.nil,by simp⟩
 | succ n=>
  rw[List.getElem?_cons_succ,Xas];have hn:n<es.length:=by omega
  rw[Xab hn];have:=ok _ (Xbh hn);exact⟨this.w,this.l⟩
theorem Ztr {ws:List V}{v:V}{n:Nat}(hl:ws.length=n+1)(h:ws[n]? = some v):atI ws (-1)=some v:=by
 unfold atI ixN;rw[if_neg (by decide),if_pos (by rw[hl];omega)];show ws[((-1:Int)+(ws.length:Nat)).toNat]? = _;rw[hl,show((-1:Int)+((n+1:Nat):Int)).toNat=n by omega];exact h
theorem Zue {cT:Addr}{H:Hp}{f:Addr}{D:Nat}{kvl:List (List (Key×V))}{ws:List V}(h:TbsAt cT H f D kvl ws):ws.length=kvl.length:=(Paired.length h).symm
def Zqt (K:W.Frag)(mg:Str->Option Value)(C cT cR:Addr):Sp:=fun vs H Q E=>∃ (S:Sl)(x f aT aL aB:Addr)(D:Nat)(es:List En)(t:Str),vs=[.ref x,.str t]/\KgAt C cT S H x f aT aL aB D es/\SealAt K mg Zbe S H f/\Cap S H 400/\D<=16/\es.length<=1000/\
 t.length<=sizeLine/\(Txt.split t "\n").length<=1000/\(∀ r∈Txt.split t "\n",r.length<=1000/\r.cps.all (· < 128)=true)/\(∀ kv,goR D 0 (Txt.split t "\n") (Zbg es) = .inr kv->Rws D kv/\kv.length<=8)/\
 match goR D 0 (Txt.split t "\n") (Zbg es) with
 | .inl n=>Refd cR (n:Int) H E
 | .inr kv=>∀ ac H',SrtOf kv ac->KgAt C cT S H' x f aT aL aB D (es++[(t,kv,ac)])->KeepL S 400 [aT,aL,aB] H H'->Q (.int (es.length:Int)) H'
theorem scKA:Zak ["self","text","table","leaf"] ["self","text"] (Zad Zwb):=Zb2
theorem Zt5 (F:MethAt K C "add" "Keeper.add" Zwb)(T:TxK K mg C)(TT:Txt K mg cT)(Fc:FnR P w K mg base 5 "changed" ["table","text","depth"] (Zx0 cT cR))(Fl:FnP P w K mg base 2 "leaf_seal" ["seal","text","table"] (Zd1 K mg "leaf"))(Mh:MtP P w K mg base cT 20 "head" ["self"] (Zjx K mg cT))(ml:mg "len" = none):Zva P w K mg base C 21 "add" ["self","text"] (Zqt K mg C cT cR):=by
 refine F.okR scKA (fun _ _ _ _ _ _=>l2e fun _ _=>rfl) (fun vs H Q E h=>?_) (fun f0 ad A outer s H vs Q E hr h=>?_)
 . obtain⟨S,x,f,aT,aL,aB,D,es,t,rfl,_⟩:=h;rfl
 obtain⟨S,x,f,aT,aL,aB,D,es,z,rfl,hK,hS,hc,D16,hl,zl,zs,zr,zk,q⟩:=h;have nd:=scKA.nd;refine⟨_,Zab (Zao (i:=2) nd rfl (Or.inl rfl) (Zea Zdb Fc hr.m rfl (pa3 (Zaw Zax (Za1 (pv 0) rfl) (Zyk Zsq Zae) (fun _ _=>rfl)) (pv 1) (Za1 (pv 0) rfl)))) <|
  Zab (Zao (i:=3) nd rfl (Or.inl rfl) (Zag Fl hr.m rfl (pa3 (Za1 (pv 0) rfl) (pv 1) (Zcn Mh (pv 2) TT.cl hr)))) <|
  Zab (Za9 (Zco Xa1 Xa4 Xa3 Zbp (Za1 (pv 0) rfl) (pa1 (pv 1)))) <|
  Zab (Za9 (Zco Xa1 Xa4 Xa3 Zbp (Za1 (pv 0) rfl) (pa1 (pv 3)))) <|
  Zab (Za9 (Zco Xa1 Xa4 Xa3 Zbp (Za1 (pv 0) rfl) (pa1 (pv 2)))) <|
  psr (Zas Zb7 (Zai Zah rfl ml boot_len (pa1 (Za1 (pv 0) rfl))) Zae),?_⟩
 have lok:=Zvs hK.ok;obtain⟨⟨dx,h1⟩,h2,⟨wL,h3,h4⟩,⟨ws,h5,h7⟩,n1,n2,n3,oks⟩:=hK;have wl:=Za0 h4;rw[Xad] at wl;have tl:=Zue h7;rw[Xax,Xad] at tl;obtain⟨t,d,et,Tt⟩:=Zsp h7 (Zox es);refine⟨_,rfl,x,C,dx,_,_,rfl,h1,T.cl,T.n5,rfl,_,rfl,aB,_,_,_,rfl,rfl,SqL.of h5,Ztr tl et,_,rfl,_,rfl,x,C,dx,_,_,rfl,h1,T.cl,T.n2,rfl,?_⟩;refine⟨t,d,f,z,D,Zbg es,rfl,Tt,om,zl,zs,zr,?_⟩;cases hg:goR D 0 (Txt.split z "\n") (Zbg es) with
 | inl n=>rw[hg] at q;exact q
 | inr kv=>
 rw[hg] at q;obtain⟨kw,kl⟩:=zk kv hg;obtain⟨ac,srt⟩:=Zx1 kw;have eo:Zwe D (z,kv,ac):=⟨kw,kl,srt⟩
 have c8:=Zj2 eo D16;intro y e H1 T1 x1 _ _;have g1:Gr S 0 H H1:=.ext hS.told x1;have h11:=x1 _ _ h1;obtain⟨⟨dy,y1⟩,e1⟩:=id T1;refine⟨_,rfl,x,C,dx,_,_,rfl,h11,T.cl,T.n1,rfl,_,rfl,_,rfl,y,dy,_,rfl,y1,rfl,?_⟩;refine⟨S,y,e,f,D,kv,ac,rfl,T1,hS.up g1.gn,kw,om,srt,D16,hc.go g1.gn (by have c8':Zgd D ac+1<=300:=c8;omega),fun v2 H2 g2 i2=>?_⟩;have g2:=g2.up (show Zgd D ac+1<=300 from c8);have g12:=g1.trans g2;refine⟨S,f,.str z,tbT D ac,_,_,rfl,hS.up g12.gn,hc.go g12.gn om,rfl,i2,fun v3 H3 g3 i3=>?_⟩;have g13:=g12.trans g3;have tld3:=g13.gn.told2;have h13:=g13.same h1 (fun _ e=>nomatch e);have h23:=g13.lst h2;have h33:=g13.lst h3;have h53:=g13.lst h5;have h43:=Zap g13.gn h4;have h73:=h7.up g13;have T3:=(T1.up g2).up g3;have nxT:x≠aT:=by rintro rfl;rw[h13] at h23;cases h23
 have nxL:x≠aL:=by rintro rfl;rw[h13] at h33;cases h33
 have nxB:x≠aB:=by rintro rfl;rw[h13] at h53;cases h53
 have lists:∀ a∈[aT,aL,aB],∃ xs,H3 a=some (.lst xs):=fun a ha=>by
  simp only[Xbd,Xa0,or_false] at ha;rcases ha with rfl | rfl | rfl
  . exact⟨_,h23⟩
  . exact⟨_,h33⟩
  . exact⟨_,h53⟩
 refine⟨_,rfl,x,C,dx,_,_,rfl,h13,T.cl,T.n3,rfl,.inl ⟨rfl,_,SqL.of h23⟩,_,rfl,aT,_,_,rfl,rfl,h23,by rw[Xam,Xad];omega,?_⟩;have k4:KeepL S 0 [aT,aL,aB] H3 (upd H3 aT (.lst ((es.map fun e=>V.str e.1)++[.str z]))):=.chg tld3 h23 (by simp);generalize hH4:upd H3 aT (.lst ((es.map fun e=>V.str e.1)++[.str z]))=H4 at k4;have a4:∀ b o,H3 b=some o->b≠aT->H4 b=some o:=fun b o hb hn=>by rw[<- hH4,Zaf hn];exact hb
 have t4:H4 aT=some (.lst ((es.map fun e=>V.str e.1)++[.str z])):=by rw[<- hH4,Zaa]
 refine⟨_,rfl,x,C,dx,_,_,rfl,a4 _ _ h13 nxT,T.cl,T.n4,rfl,.inl ⟨rfl,_,SqL.of (a4 _ _ h33 n1.symm)⟩,_,rfl,aL,_,_,rfl,rfl,a4 _ _ h33 n1.symm,by rw[Xam];omega,?_⟩;have k5:KeepL S 0 [aT,aL,aB] H4 (upd H4 aL (.lst (wL++[v3]))):=.chg k4.gn.told2 (a4 _ _ h33 n1.symm) (by simp);generalize hH5:upd H4 aL (.lst (wL++[v3]))=H5 at k5;have a5:∀ b o,H4 b=some o->b≠aL->H5 b=some o:=fun b o hb hn=>by rw[<- hH5,Zaf hn];exact hb
 have l5:H5 aL=some (.lst (wL++[v3])):=by rw[<- hH5,Zaa]
 have b5:=a5 _ _ (a4 _ _ h53 n2.symm) n3.symm;refine⟨_,rfl,x,C,dx,_,_,rfl,a5 _ _ (a4 _ _ h13 nxT) nxL,T.cl,T.n5,rfl,.inl ⟨rfl,_,SqL.of b5⟩,_,rfl,aB,_,_,rfl,rfl,b5,by rw[Xam];omega,?_⟩;have k6:KeepL S 0 [aT,aL,aB] H5 (upd H5 aB (.lst (ws++[.ref y]))):=.chg k5.gn.told2 b5 (by simp);generalize hH6:upd H5 aB (.lst (ws++[.ref y]))=H6 at k6;have a6:∀ b o,H5 b=some o->b≠aB->H6 b=some o:=fun b o hb hn=>by rw[<- hH6,Zaf hn];exact hb
 have b6:H6 aB=some (.lst (ws++[.ref y])):=by rw[<- hH6,Zaa]
 have x6:=a6 _ _ (a5 _ _ (a4 _ _ h13 nxT) nxL) nxB;have t6:=a6 _ _ (a5 _ _ t4 n1) n2;have g36:=(k4.trans k5).trans k6;refine⟨_,rfl,x,C,dx,_,_,rfl,x6,T.cl,T.n3,rfl,aT,_,rfl,.inl (SqL.of t6),_,_,rfl,rfl,?_⟩;have h76:=h73.off g36 tld3 lists;obtain⟨⟨dy3,y3⟩,e3⟩:=T3;have er:((((es.map fun e=>V.str e.1)++[V.str z]).length:Nat):Int) - 1=(es.length:Int):=by rw[Xay,Xad,Xa8];omega
 dsimp only;rw[er];refine q ac _ srt ⟨⟨dx,x6⟩,?_,⟨wL++[v3],a6 _ _ l5 n3,?_⟩,⟨ws++[.ref y],b6,?_⟩,n1,n2,n3,fun e' he'=>?_⟩ (((KeepL.of g13).trans g36).up om)
 . rw[Xbk];exact t6
 . rw[Xbk];exact Zdp (Zap g36.gn h43) (.cons (Zaz g36.gn i3) .nil)
 . rw[Xbk,<- List.cons_append];exact Zdp h76 (.cons ⟨y,e,rfl,⟨dy3,g36.oth tld3 lists y3 (fun _ e=>nomatch e) (fun _ e=>nomatch e)⟩,g36.oth tld3 lists e3 (fun _ e=>nomatch e) (fun _ e=>nomatch e)⟩ .nil)
 . rcases List.mem_append.mp he' with m | m
   . exact oks e' m
   . rw[List.mem_singleton.mp m];exact eo
inductive Sh where
 | nil
 | tr (t:Tm)
 | ls (ts:List Tm)
 | en (z:Str) (t:Tm)
 | wy (w:List Tm×List Rw)
 | pp (z:Str) (t:Tm) (ts:List Tm) (w:List Tm×List Rw)
def ShAt (S:Sl)(H:Hp):Sh->V->Prop
 | .nil,v=>∃ l,v = .ref l/\H l=some (.lst [])
 | .tr t,v=>∃ l u,v = .ref l/\H l=some (.lst [u])/\isT S H t u
 | .ls ts,v=>∃ l r rs,v = .ref l/\H l=some (.lst [.ref r])/\H r=some (.lst rs)/\Zdc S H ts rs
 | .en z t,v=>∃ l u,v = .ref l/\H l=some (.lst [.str z,u])/\isT S H t u
 | .wy w,v=>∃ l p r,v = .ref l/\H l=some (.lst [.ref p])/\WayAt S H p r w
 | .pp z t ts w,v=>∃ l q,v = .ref l/\H l=some (.lst [.ref q])/\PpAt S H q z t ts w
noncomputable def Ze9 (D:Nat) (es:List En) (wh:Nat) (p:Int) (sz:V) (old k:Int):Sh:=match wh with
 | 0=>match Zbx sz es.length with
  | some n=>.tr (bkG D (es.take n))
  | none=>.nil
 | 1=>match Zbx sz es.length with
  | some n=>if 0<=p/\p<(n:Int) then .ls (paT ((es.take n).map (lfG D)) p.toNat) else .nil
  | none=>.nil
 | 2=>match Zbx sz es.length with
  | some n=>if 0<=old/\old<=(n:Int) then .ls (gwT ((es.take n).map (lfG D)) old.toNat) else .nil
  | none=>.nil
 | 3=>if 0<=p/\p<(es.length:Int) then(match es[p.toNat]? with | some e=>.en e.1 (tbT D e.2.2) | none=>.nil) else .nil
 | 4=>if (0<=p/\p<(es.length:Int))/\Of k D then(match es[p.toNat]? with | some e=>.wy (Zdh D e.2.2 k) | none=>.nil) else .nil
 | _=>match Zbx sz es.length with
  | some n=>if (0<=p/\p<(n:Int))/\Of k D then(match es[p.toNat]? with | some e=>.pp e.1 (tbT D e.2.2) (paT ((es.take n).map (lfG D)) p.toNat) (Zdh D e.2.2 k) | none=>.nil) else .nil
  | none=>.nil
structure Er11 (K:W.Frag)(mg:Str->Option Value)(cE cR cP:Addr):Prop where
 n:Npl K mg cE
 hR:mg "BadRow" = some (.ref cR)
 hP:mg "BadPaper" = some (.ref cP)
 kR:W.kitOne K (.ref cE) (.ref cR)=some false
 kP:W.kitOne K (.ref cE) (.ref cP)=some false
 kV:W.kitOne K (.ref cE) (.type "ValueError")=some true
 mV:mg "ValueError" = none
 mi:mg "isinstance" = none
structure Kps (P:Program)(w:World)(K:W.Frag)(mg:Str->Option Value)(base:Heap)(C cT cE:Addr):Prop where
 cl:Cls K C
 hd:MtDX P w K mg base C 13 "head" ["self","size"] (Zyf K mg C cT cE) .non
 pa:MtDX P w K mg base C 14 "path" ["self","place","size"] (Zvo K mg C cT cE) .non
 gw:MtDX P w K mg base C 14 "growth" ["self","old","size"] (Zwo K mg C cT cE) .non
 tx:MtX P w K mg base C 2 "text" ["self","place"] (Zum C cT cE)
 th:MtX P w K mg base C 21 "table_head" ["self","place"] (Zv5 K mg C cT cE)
 wy:MtX P w K mg base C 21 "way" ["self","place","key"] (Zup K mg C cT cE)
 pp:MtDX P w K mg base C 22 "paper" ["self","place","key","size"] (Zw0 K mg C cT cE) .non
def spLO (K:W.Frag)(mg:Str->Option Value)(C cT cE:Addr):Sp:=fun vs H Q E=>∃ (S:Sl)(x f aT aL aB:Addr)(D:Nat)(es:List En)(wh:Nat)(p old k:Int),vs=[.ref x,.int (wh:Int),.int p,.int old]/\KgAt C cT S H x f aT aL aB D es/\SealAt K mg Zbe S H f/\wh<3/\es.length<=300/\Cap S H 310/\
 (∀ v H',Ze9 D es wh p .non old k≠.nil->Gr S 310 H H'->ShAt S H' (Ze9 D es wh p .non old k) v->Q v H')/\(Ze9 D es wh p .non old k = .nil->E (.ref cE) none H)
theorem scLO:Zak ["_law_keeper","_law_which","_law_place","_law_old"] ["_law_keeper","_law_which","_law_place","_law_old"] (Zad Zli):=Zb2
theorem ok_lo (F:FunAt K mg "_law_left_out" Zli)(M:Kps P w K mg base C cT cE):FnX P w K mg base 15 "_law_left_out" ["_law_keeper","_law_which","_law_place","_law_old"] (spLO K mg C cT cE):=by
 refine F.okX scLO (fun _ _ _ _ _ _=>l4e fun _ _ _ _=>rfl) (fun vs H Q E h=>?_) (fun f0 ad A outer s H vs Q E hr h=>?_)
 . obtain⟨S,x,f,aT,aL,aB,D,es,wh,p,old,k,rfl,_⟩:=h;rfl
 obtain⟨S,x,f,aT,aL,aB,D,es,wh,p,old,k,rfl,hK,hS,w3,hl,hc,q1,q2⟩:=h;obtain⟨dx,h1⟩:=hK.ob;refine⟨_,Zab (Zat (Zaj Za2 (pv 1) Zae (Zam _)) (psr (Zau (pa1 (Zl9 M.hd (pv 0) M.cl hr.m Za4)))) Zal) <|
  Zab (Zat (Zaj Za2 (pv 1) Zae (Zam _)) (psr (Zau (pa1 (Zie M.pa (pv 0) M.cl hr Za4 (pa1 (pv 2)))))) Zal) <|
  psr (Zau (pa1 (Zie M.gw (pv 0) M.cl hr Za4 (pa1 (pv 3))))),?_⟩
 have cn:Zbx .non es.length=some es.length:=rfl;obtain rfl | rfl | rfl:wh=0\/wh=1\/wh=2:=by omega
 . refine⟨_,rfl,rfl,_,rfl,Zbz ?_⟩;refine⟨_,rfl,x,dx,_,rfl,h1,rfl,S,x,f,aT,aL,aB,D,es,.non,rfl,hK,hS,.inl rfl,hl,hc,fun v H' g i=>⟨sl1,fun l nl=>?_⟩⟩;have g2:Gr S 0 H' (upd H' l (.lst [v])):=.new g.gn.told2 nl;exact q1 _ _ (fun z=>nomatch z) (g.trans g2) ⟨l,v,rfl,Zaa,Zaz g2.gn i⟩
 . refine⟨_,rfl,rfl,_,rfl,Zby ?_⟩;refine⟨_,rfl,rfl,_,rfl,Zbz ?_⟩;have es1:Ze9 D es 1 p .non old k=if 0<=p/\p<(es.length:Int) then .ls (paT ((es.take es.length).map (lfG D)) p.toNat) else .nil:=rfl;refine⟨_,rfl,x,dx,_,rfl,h1,rfl,_,rfl,S,x,f,aT,aL,aB,D,es,p,.non,rfl,hK,hS,.inl rfl,hl,hc,fun c r rs H' g er ir=>⟨sl1,fun l nl=>?_⟩,fun c=>q2 (by rw[es1,if_neg c])⟩;have g2:Gr S 0 H' (upd H' l (.lst [.ref r])):=.new g.gn.told2 nl;rw[es1,if_pos c] at q1;exact q1 _ _ (fun z=>nomatch z) (g.trans g2) ⟨l,r,rs,rfl,Zaa,g2.lst er,Zap g2.gn ir⟩
 . refine⟨_,rfl,rfl,_,rfl,Zby ?_⟩;refine⟨_,rfl,rfl,_,rfl,Zby ?_⟩;have es1:Ze9 D es 2 p .non old k=if 0<=old/\old<=(es.length:Int) then .ls (gwT ((es.take es.length).map (lfG D)) old.toNat) else .nil:=rfl;refine⟨_,rfl,x,dx,_,rfl,h1,rfl,_,rfl,S,x,f,aT,aL,aB,D,es,old,.non,rfl,hK,hS,.inl rfl,hl,hc,fun c r rs H' g er ir=>⟨sl1,fun l nl=>?_⟩,fun c=>q2 (by rw[es1,if_neg c])⟩;have g2:Gr S 0 H' (upd H' l (.lst [.ref r])):=.new g.gn.told2 nl;rw[es1,if_pos c] at q1;exact q1 _ _ (fun z=>nomatch z) (g.trans g2) ⟨l,r,rs,rfl,Zaa,g2.lst er,Zap g2.gn ir⟩
theorem PpAt.gr {S:Sl}{n:Nat}{H H':Hp}{q:Addr}{z:Str}{t:Tm}{ts:List Tm}{wy:List Tm×List Rw}(h:PpAt S H q z t ts wy)(g:Gr S n H H'):PpAt S H' q z t ts wy:=by
 obtain⟨u,r,rs,p,r2,h1,h2,h3,h4,h5⟩:=h;exact⟨u,r,rs,p,r2,g.same h1 (fun _ e=>nomatch e),Zaz g.gn h2,g.lst h3,Zap g.gn h4,h5.gr g⟩
def Zyj (K:W.Frag)(mg:Str->Option Value)(C cT:Addr):Sp:=fun vs H Q _=>∃ (S:Sl)(x f aT aL aB:Addr)(D:Nat)(es:List En)(wh:Nat)(p:Int)(sz:V)(old k:Int),vs=[.ref x,.int (wh:Int),.int p,sz,.int old,.int k]/\KgAt C cT S H x f aT aL aB D es/\SealAt K mg Zbe S H f/\SzV sz/\wh<6/\es.length<=300/\D<=16/\Cap S H 7000/\
 ∀ v H',Gr S 7000 H H'->ShAt S H' (Ze9 D es wh p sz old k) v->Q v H'
theorem scAk:Zak ["_law_keeper","_law_which","_law_place","_law_size","_law_old","_law_key","e"] ["_law_keeper","_law_which","_law_place","_law_size","_law_old","_law_key"] (Zad Zka):=Zb2
theorem Zyg (F:FunAt K mg "_law_asked" Zka)(M:Kps P w K mg base C cT cE)(Er:Er11 K mg cE cR cP)(Fl:FnX P w K mg base 15 "_law_left_out" ["_law_keeper","_law_which","_law_place","_law_old"] (spLO K mg C cT cE)):FnP P w K mg base 23 "_law_asked" ["_law_keeper","_law_which","_law_place","_law_size","_law_old","_law_key"] (Zyj K mg C cT):=by
 refine F.ok scAk (fun _ _ _ _ _ _=>l6e fun _ _ _ _ _ _=>rfl) (fun vs H Q E h=>?_) (fun f0 ad A outer s H vs Q E hr h=>?_)
 . obtain⟨S,x,f,aT,aL,aB,D,es,wh,p,sz,old,k,rfl,_⟩:=h;rfl
 obtain⟨S,x,f,aT,aL,aB,D,es,wh,p,sz,old,k,rfl,hK,hS,hz,w6,hl,D16,hc,q⟩:=h;have nd:=scAk.nd;obtain⟨dx,h1⟩:=hK.ob;refine⟨_,Zar (Zqe (i:=6) rfl ⟨rfl,rfl⟩ nd rfl rfl Er.n.xc rfl Er.n.hm
  (Zr5 rfl fun aa R=>
   Zab (Zat (PW.pt (Zin (Zaj Znk (pv 3) Zdl (Zam _)) (Zfy (Zaj Zdg (pv 1) Zae (Zam _))))) (psr (Ze7 Fl hr.m rfl Zdi (pa4 (pv 0) (pv 1) (pv 2) (pv 4)))) Zal) <|
   Zab (Zat (Zaj Za2 (pv 1) Zae (Zam _)) (psr (Zau (pa1 (Zbf M.hd.full (pv 0) M.cl hr.m Zdi (pa1 (pv 3)))))) Zal) <|
   Zab (Zat (Zaj Za2 (pv 1) Zae (Zam _)) (psr (Zau (pa1 (Zbf M.pa.full (pv 0) M.cl hr.m Zdi (pa2 (pv 2) (pv 3)))))) Zal) <|
   Zab (Zat (Zaj Za2 (pv 1) Zae (Zam _)) (psr (Zau (pa1 (Zbf M.gw.full (pv 0) M.cl hr.m Zdi (pa2 (pv 4) (pv 3)))))) Zal) <|
   Zab (Zat (Zaj Za2 (pv 1) Zae (Zam _)) (psr (Zau (pa2 (Zbf M.tx (pv 0) M.cl hr.m Zdi (pa1 (pv 2))) (Zbf M.th (pv 0) M.cl hr.m Zdi (pa1 (pv 2)))))) Zal) <|
   Zab (Zat (Zaj Za2 (pv 1) Zae (Zam _)) (psr (Zau (pa1 (Zbf M.wy (pv 0) M.cl hr.m Zdi (pa2 (pv 2) (pv 5)))))) Zal) <|
   psr (Zau (pa1 (Zbf M.pp.full (pv 0) M.cl hr Zdi (pa3 (pv 2) (pv 5) (pv 3))))))
  (fun e=>Zab (Zat (PW.pt (Zeq (Zcg (Zai (Zdr (K:=K)) rfl Er.mi Xbc (pa2 (pv 6) (Zep (v:=.ref cR) rfl Er.hR rfl)))) (Zeq (Zcg (Zai (Zdr (K:=K)) rfl Er.mi Xbc (pa2 (pv 6) (Zep (v:=.ref cP) rfl Er.hP rfl)))) (Zdq (Zcu (Zcg (Zai (Zdr (K:=K)) rfl Er.mi Xbc (pa2 (pv 6) (Zl1 rfl Er.mV PyProof.Rows.Boot.ValueError))))))))) (psr (Zau (pa1 Zdl))) Zal) <|
   psr (Zau Zbl))),?_⟩
 have g0:Gr S 7000 H H:=Gr.up (.refl hS.told) om;refine⟨fun C' H'=>C'=cE/\Gr S 7000 H H'/\Ze9 D es wh p sz old k = .nil,fun σ' C' H' hσ ⟨e1,g,en⟩=>⟨e1,fun ea oe n0 ix=>?_⟩,?_⟩
 . have hg6:(σ'.set 6 (some (V.ref ea)))[6]? = some (some (.ref ea)):=List.getElem?_set_self (by rw[hσ];exact(by decide:6<7));have hu:∀ (c:Addr) (u:Value),RelV (.ref c) u->u = .ref c:=fun _ _ z=>z;have g2:=Gr.trans g (.new g.gn.told2 n0 (o:=.frz oe (.own 0)));refine⟨_,hg6,ea,cE,oe,_,_,_,rfl,rfl,hu _,Zaa,ix,Er.kR,_,rfl,?_⟩;refine Zby ?_;refine⟨_,hg6,ea,cE,oe,_,_,_,rfl,rfl,hu _,Zaa,ix,Er.kP,_,rfl,?_⟩;refine Zby ?_;refine⟨_,hg6,ea,cE,oe,_,_,_,rfl,rfl,(fun u z=>z),Zaa,ix,Er.kV,_,rfl,?_⟩;refine Zby ?_;refine⟨sl0,fun l nl=>?_⟩;rw[en] at q;have g3:=Gr.trans g2 (.new g2.gn.told2 nl (o:=.lst []));exact q _ _ g3 ⟨l,rfl,Zaa⟩
 have mkl:∀ {H':Hp}{l:Addr}{vs:List V},Gr S 7000 H H'->H' l=none->Gr S 7000 H (upd H' l (.lst vs))/\Gr S 0 H' (upd H' l (.lst vs)):=fun g nl=>⟨Gr.trans g (.new g.gn.told2 nl),.new g.gn.told2 nl⟩
 have u310:∀ {H'},Gr S 310 H H'->Gr S 7000 H H':=fun g=>g.up om;by_cases c0:sz = .non/\wh<3
 . obtain⟨rfl,w3⟩:=c0;refine⟨_,rfl,rfl,_,rfl,Zbz ⟨_,rfl,_,_,rfl,rfl,_,rfl,?_⟩⟩;rw[Xah (show((wh:Nat):Int)<3 by omega)];refine Zbz ?_;refine⟨_,rfl,_,rfl,_,rfl,_,rfl,S,x,f,aT,aL,aB,D,es,wh,p,old,k,rfl,hK,hS,w3,hl,hc.dn om,fun v H' _ g i=>q v H' (u310 g) i,fun en=>⟨cE,rfl,rfl,g0,en⟩⟩
 refine via (fun hh=>⟨_,rfl,rfl,_,rfl,Zcl (fun e=>⟨_,rfl,_,_,rfl,rfl,_,rfl,Zcl (fun e2=>?x) (fun _=>hh)⟩) (fun _=>Zby hh)⟩) ?_
 case x=>
  have z1:sz = .non:=Xaf e;have z2:((wh:Nat):Int)<3:=Xaf e2;exact absurd ⟨z1,om⟩ c0
 all_goals
  obtain rfl | rfl | rfl | rfl | rfl | rfl:wh=0\/wh=1\/wh=2\/wh=3\/wh=4\/wh=5:=by omega
  . refine⟨_,rfl,rfl,_,rfl,Zbz ?_⟩;refine⟨_,rfl,x,dx,_,rfl,h1,rfl,_,rfl,S,x,f,aT,aL,aB,D,es,sz,rfl,hK,hS,hz,hl,hc.dn om,?_⟩;have sh:Ze9 D es 0 p sz old k=(match Zbx sz es.length with | some n=>.tr (bkG D (es.take n)) | none=>.nil):=rfl;cases hn:Zbx sz es.length with
    | none=>rw[hn] at sh;exact⟨cE,rfl,rfl,g0,sh⟩
    | some n=>
     rw[hn] at sh;rw[sh] at q;intro v H' g i;refine⟨sl1,fun l nl=>?_⟩;obtain⟨G,g2⟩:=mkl (vs:=[v]) (u310 g) nl;exact q _ _ G ⟨l,v,rfl,Zaa,Zaz g2.gn i⟩
  . refine⟨_,rfl,rfl,_,rfl,Zby ?_⟩;refine⟨_,rfl,rfl,_,rfl,Zbz ?_⟩;refine⟨_,rfl,x,dx,_,rfl,h1,rfl,_,rfl,_,rfl,S,x,f,aT,aL,aB,D,es,p,sz,rfl,hK,hS,hz,hl,hc.dn om,?_⟩;have sh:Ze9 D es 1 p sz old k=(match Zbx sz es.length with | some n=>if 0<=p/\p<(n:Int) then .ls (paT ((es.take n).map (lfG D)) p.toNat) else .nil | none=>.nil):=rfl;cases hn:Zbx sz es.length with
    | none=>rw[hn] at sh;exact⟨cE,rfl,rfl,g0,sh⟩
    | some n=>
     rw[hn] at sh;dsimp only at sh;refine⟨fun c r rs H' g er ir=>⟨sl1,fun l nl=>?_⟩,fun c=>⟨cE,rfl,rfl,g0,by rw[sh,if_neg c]⟩⟩;rw[sh,if_pos c] at q;obtain⟨G,g2⟩:=mkl (vs:=[.ref r]) (u310 g) nl;exact q _ _ G ⟨l,r,rs,rfl,Zaa,g2.lst er,Zap g2.gn ir⟩
  . refine⟨_,rfl,rfl,_,rfl,Zby ?_⟩;refine⟨_,rfl,rfl,_,rfl,Zby ?_⟩;refine⟨_,rfl,rfl,_,rfl,Zbz ?_⟩;refine⟨_,rfl,x,dx,_,rfl,h1,rfl,_,rfl,_,rfl,S,x,f,aT,aL,aB,D,es,old,sz,rfl,hK,hS,hz,hl,hc.dn om,?_⟩;have sh:Ze9 D es 2 p sz old k=(match Zbx sz es.length with | some n=>if 0<=old/\old<=(n:Int) then .ls (gwT ((es.take n).map (lfG D)) old.toNat) else .nil | none=>.nil):=rfl;cases hn:Zbx sz es.length with
    | none=>rw[hn] at sh;exact⟨cE,rfl,rfl,g0,sh⟩
    | some n=>
     rw[hn] at sh;dsimp only at sh;refine⟨fun c r rs H' g er ir=>⟨sl1,fun l nl=>?_⟩,fun c=>⟨cE,rfl,rfl,g0,by rw[sh,if_neg c]⟩⟩;rw[sh,if_pos c] at q;obtain⟨G,g2⟩:=mkl (vs:=[.ref r]) (u310 g) nl;exact q _ _ G ⟨l,r,rs,rfl,Zaa,g2.lst er,Zap g2.gn ir⟩
  . refine⟨_,rfl,rfl,_,rfl,Zby ?_⟩;refine⟨_,rfl,rfl,_,rfl,Zby ?_⟩;refine⟨_,rfl,rfl,_,rfl,Zby ?_⟩;refine⟨_,rfl,rfl,_,rfl,Zbz ?_⟩;have sh:Ze9 D es 3 p sz old k=(if 0<=p/\p<(es.length:Int) then(match es[p.toNat]? with | some e=>.en e.1 (tbT D e.2.2) | none=>.nil) else .nil):=rfl;refine⟨_,rfl,x,dx,_,rfl,h1,rfl,_,rfl,S,x,f,aT,aL,aB,D,es,p,rfl,hK,fun c e ee=>?_,fun c=>⟨cE,rfl,rfl,g0,by rw[sh,if_neg c]⟩⟩;refine⟨_,rfl,x,dx,_,rfl,h1,rfl,_,rfl,S,x,f,aT,aL,aB,D,es,p,rfl,hK,hS,D16,hc.dn om,fun _ e2 v H' ee2 g i=>⟨sl2,fun l nl=>?_⟩,fun z=>absurd c z⟩;rw[ee] at ee2;cases ee2;rw[sh,if_pos c,ee] at q;obtain⟨G,g2⟩:=mkl (vs:=[.str e.1,v]) (g.up om) nl;exact q _ _ G ⟨l,v,rfl,Zaa,Zaz g2.gn i⟩
  . refine⟨_,rfl,rfl,_,rfl,Zby ?_⟩;refine⟨_,rfl,rfl,_,rfl,Zby ?_⟩;refine⟨_,rfl,rfl,_,rfl,Zby ?_⟩;refine⟨_,rfl,rfl,_,rfl,Zby ?_⟩;refine⟨_,rfl,rfl,_,rfl,Zbz ?_⟩;have sh:Ze9 D es 4 p sz old k=(if (0<=p/\p<(es.length:Int))/\Of k D then(match es[p.toNat]? with | some e=>.wy (Zdh D e.2.2 k) | none=>.nil) else .nil):=rfl;refine⟨_,rfl,x,dx,_,rfl,h1,rfl,_,rfl,_,rfl,S,x,f,aT,aL,aB,D,es,p,k,rfl,hK,hS,D16,hc.dn om,fun c e y r H' ee g wy=>⟨sl1,fun l nl=>?_⟩,fun c=>⟨cE,rfl,rfl,g0,by rw[sh,if_neg c]⟩⟩;rw[sh,if_pos c,ee] at q;obtain⟨G,g2⟩:=mkl (vs:=[.ref y]) (g.up om) nl;exact q _ _ G ⟨l,y,r,rfl,Zaa,wy.gr g2⟩
  . refine⟨_,rfl,rfl,_,rfl,Zby ?_⟩;refine⟨_,rfl,rfl,_,rfl,Zby ?_⟩;refine⟨_,rfl,rfl,_,rfl,Zby ?_⟩;refine⟨_,rfl,rfl,_,rfl,Zby ?_⟩;refine⟨_,rfl,rfl,_,rfl,Zby ?_⟩;have sh:Ze9 D es 5 p sz old k=(match Zbx sz es.length with | some n=>if (0<=p/\p<(n:Int))/\Of k D then(match es[p.toNat]? with | some e=>.pp e.1 (tbT D e.2.2) (paT ((es.take n).map (lfG D)) p.toNat) (Zdh D e.2.2 k) | none=>.nil) else .nil | none=>.nil):=rfl;refine⟨_,rfl,x,dx,_,rfl,h1,rfl,_,rfl,_,rfl,_,rfl,S,x,f,aT,aL,aB,D,es,p,k,sz,rfl,hK,hS,hz,hl,D16,hc,fun n e y H' hn c ck ee g pp=>⟨sl1,fun l nl=>?_⟩,fun c H' g=>⟨cE,rfl,rfl,g,?_⟩⟩
    . rw[sh,hn] at q;dsimp only at q;rw[if_pos ⟨c,ck⟩,ee] at q;obtain⟨G,g2⟩:=mkl (vs:=[.ref y]) g nl;exact q _ _ G ⟨l,y,rfl,Zaa,pp.gr g2⟩
    . rw[sh];cases hn:Zbx sz es.length with
      | none=>rfl
      | some n=>dsimp only;rw[if_neg (c n hn)]
def Tells (t:TT)(σ:St)(H:Hp)(c:Bool):Prop:=∀ Q:Bool->Hp->Prop,Q c H->t σ H Q
def Zuv (t:TE)(σ:St)(H:Hp)(v:V):Prop:=∀ Q:VK,Q v H->t σ H Q
theorem Tells.and {t u:TT}{σ:St}{H:Hp}{a b:Bool}(h:Tells t σ H a)(h2:Tells u σ H b):Tells (tAnd t u) σ H (a && b):=fun Q q=>h _ (by
 cases a with
 | true=>exact Zbz (h2 Q q)
 | false=>exact Zby q)
theorem Tells.or {t u:TT}{σ:St}{H:Hp}{a b:Bool}(h:Tells t σ H a)(h2:Tells u σ H b):Tells (tOr t u) σ H (a || b):=fun Q q=>h _ (by
 cases a with
 | true=>exact Zbz q
 | false=>exact Zby (h2 Q q))
theorem Tells.not {t:TT}{σ:St}{H:Hp}{a:Bool}(h:Tells t σ H a):Tells (tNot t) σ H (!a):=fun _ q=>h _ q
theorem Zbi {ta tb tc:TE}{σ:St}{H:Hp}{i j k:Int}{p p':Int->Int->Bool}(h1:Zuv ta σ H (.int i))(h2:Zuv tb σ H (.int j))(h3:Zuv tc σ H (.int k)):Tells (Ztx (Zpa (rI0 fun a b=>.bl (p a b)) (rI0 fun a b=>.bl (p' a b)) ta tb tc)) σ H (p i j && p' j k):=by
 intro Q q;refine h1 _ (h2 _ ⟨i,j,rfl,rfl,_,rfl,?_⟩);dsimp only;cases e:p i j with
 | true=>rw[e] at q;exact Zbz (h3 _ ⟨j,k,rfl,rfl,_,rfl,q⟩)
 | false=>rw[e] at q;exact Zby ⟨_,rfl,q⟩
theorem Zyl {c:TT}{t u v:TS}{D:Zex}{σ:St}{H:Hp}{b:Bool}(h:Tells c σ H b)(hb:b=true)(k:t { D with nx:=v D } σ H):Zx6 (tIfS c t u) v D σ H:=h _ (by rw[hb];exact Zbz k)
theorem Zl6 {c:TT}{t v:TS}{D:Zex}{σ:St}{H:Hp}{b:Bool}(h:Tells c σ H b)(hb:b=false)(k:v D σ H):Zx6 (tIfS c t Zvh) v D σ H:=h _ (by rw[hb];exact Zby k)
theorem Zw4 {c:TT}{t u:TE}{D:Zex}{σ:St}{H:Hp}{b:Bool}(h:Tells c σ H b)(hb:b=true)(k:t σ H D.rt):Zxc (tIf c t u) D σ H:=h _ (by rw[hb];exact Zbz k)
theorem Zwv {c:TT}{t u:TE}{D:Zex}{σ:St}{H:Hp}{b:Bool}(h:Tells c σ H b)(hb:b=false)(k:u σ H D.rt):Zxc (tIf c t u) D σ H:=h _ (by rw[hb];exact Zby k)
theorem Zq1 {te:TE}{g:TG}{rest:TS}{D:Zex}{σ:St}{H:Hp}(R:V->Hp->Prop)(hm:∀ Q':VK,(∀ v H',R v H'->Q' v H')->te σ H Q')(hq:∀ v H',R v H'->g v σ H' (rest D)):Zx6 (tAsg te g) rest D σ H:=hm _ hq
def EnAt (S:Sl)(H:Hp)(D:Nat)(e:En)(v:V):Prop:=∃ p d u,v = .ref p/\H p=some (.tup [.str e.1,.ref d,u])/\H d=some (.dK e.2.1)/\isT S H (tbT D e.2.2) u
theorem EnAt.up {S:Sl}{n D:Nat}{H H':Hp}{e:En}{v:V}(h:EnAt S H D e v)(g:Gr S n H H'):EnAt S H' D e v:=by
 obtain⟨p,d,u,rfl,h1,h2,h3⟩:=h;exact⟨p,d,u,rfl,g.same h1 (fun _ e=>nomatch e),g.same h2 (fun _ e=>nomatch e),Zaz g.gn h3⟩
def BkAt (S:Sl)(H:Hp)(D:Nat)(b:Addr)(es:List En)(us:List V):Prop:=H b=some (.lst us)/\Paired (EnAt S H D) es us
theorem BkAt.up {S:Sl}{n D:Nat}{H H':Hp}{b:Addr}{es:List En}{us:List V}(h:BkAt S H D b es us)(g:Gr S n H H'):BkAt S H' D b es us:=
 ⟨g.lst h.1,L2.Paired.imp2 (fun _ _ z=>z.up g) h.2⟩
theorem Zwz {xs:List V}{i:Int}:∃ m,Zc6 xs none (some i)=xs.take m/\(0<=i->m=i.toNat):=by
 by_cases h:0<=i
 . refine⟨i.toNat,?_,fun _=>rfl⟩;have z:Zc6 xs none (some ((i.toNat:Nat):Int))=xs.take i.toNat:=Zbs;rw[show((i.toNat:Nat):Int)=i by omega] at z;exact z
 . exact⟨_,by unfold Zc6;rw[HT.sIx_none,List.drop_zero,Nat.sub_zero],fun z=>absurd z h⟩
def Zwp (K:W.Frag)(mg:Str->Option Value):Sp:=fun vs H Q _=>∃ (S:Sl)(f b:Addr)(D:Nat)(es:List En)(us:List V),vs=[.ref f,.ref b]/\SealAt K mg Zbe S H f/\BkAt S H D b es us/\es.length<=300/\Cap S H 300/\
 ∀ r rs H',Gr S 300 H H'->H' r=some (.lst rs)->Zdc S H' (es.map (lfG D)) rs->Q (.ref r) H'
theorem scLvs:Zak ["_law_seal","_law_book"] ["_law_seal","_law_book"] (Zad Zg1):=Zb2
theorem Zxe (F:FunAt K mg "_law_leaves" Zg1)(Fl:Zch P w K mg base CX0 1 (Zc9 K mg Zbe)):FnP P w K mg base 2 "_law_leaves" ["_law_seal","_law_book"] (Zwp K mg):=by
 refine F.ok scLvs (fun _ _ _ _ _ _=>l2e fun _ _=>rfl) (fun vs H Q E h=>?_) (fun f0 ad A outer s H vs Q E hr h=>?_)
 . obtain⟨S,f,b,D,es,us,rfl,_⟩:=h;rfl
 obtain⟨S,f,b,D,es,us,rfl,hS,hB,hl,hc,q⟩:=h;refine' ⟨_,psr (Zet (ys:=["_law_seal"]) (js:=[0]) ?ok (Zcz (pv 1)) (fun _ _ _=>Zd2) ?he),?rd⟩
 case ok=>
  refine⟨rfl,rfl,rfl,by decide +kernel,by decide +kernel,rfl,by decide +kernel,Zfq (fun p hp=>?_),rfl,fun i y h=>?_,rfl⟩
  . simp only[Xbd,Xa0,or_false] at hp;rcases hp with rfl <;> rfl
  . match i,h with
    | 0,h=>simp at h;subst h;exact⟨0,rfl,rfl,rfl,rfl⟩
    | i+1,h=>simp at h
 case he=>
  exact fun _ _ _=>Zn8 (i:=1) K rfl Fl hr Zb6 rfl (Or.inr (Or.inl rfl)) (pa3 Zav (Zaw (Zds K rfl) (pv 0) Zae (fun _ _=>rfl)) (Zaw (Zds K rfl) (pv 0) Zae (fun _ _=>rfl)))
 case rd=>
 refine⟨_,rfl,b,rfl,⟨_,SqL.of hB.1⟩,?_⟩;have lu:=Za0 hB.2;refine Zh1 (K:=K) (xs:=us) (fun DD i ys H'=>Gr S i H H'/\H' DD=some (.lst ys)/\ys.length=i/\Zdc S H' ((es.take i).map (lfG D)) ys) (fun DD hD=>⟨.new hS.told hD,Zaa,rfl,.nil⟩) (fun DD i ys H' hD h=>SqL.of (h.1.lst hB.1)) ?_ ?_
 . rintro DD i x ys H2 Qb hD hx ⟨g2,hD2,yl,it⟩ hQ;have hi':=(List.getElem?_eq_some_iff.mp hx).1;have hi:i<es.length:=by omega
   have eE:es[i]? = some es[i]:=Xab hi;obtain⟨p,d,u,rfl,hp,hd,iu⟩:=(Zkp hB.2 eE hx).up g2;have hS2:=hS.up g2.gn;refine⟨f,rfl,hS2.fny,_,rfl,p,_,0,_,rfl,rfl,.inl (.inl hp),Zan (j:=0) rfl,_,rfl,p,_,2,_,rfl,rfl,.inl (.inl hp),Zan (j:=2) rfl,hS2.fny,S,_,.str es[i].1,tbT D es[i].2.2,_,_,hS2,hc.go g2.gn om,rfl,rfl,iu,fun v5 H5 g5 i5=>?_⟩;have g25:=g2.trans g5;refine hQ v5 H5 (g5.lst hD2) (by rw[Xam];omega) ⟨(g25.own hD).up om,Zaa,by simp;omega,?_⟩;have et:es.take (i+1)=es.take i++[es[i]]:=by rw[List.take_succ,eE];rfl
   rw[et,Xbk];have g6:Gn S 0 H5 (upd H5 DD (.lst (ys++[v5]))):=Gn.chg g5.gn.told2 (g5.lst hD2) rfl (fun _ e=>nomatch e);exact Zdp (Zap g6 (Zap g5.gn it)) (.cons (Zaz g6 i5) .nil)
 . rintro DD ys H2 hD ⟨g2,hD2,yl,it⟩;rw[<- lu,List.take_length] at it;exact q DD ys H2 (g2.up om) hD2 it
def CtOf (sz:V)(n:Nat)(ct:Int):Prop:=(sz = .non/\ct=(n:Int))\/sz = .int ct
theorem Zxd {sz:V}{n:Nat}{ct:Int}(h:CtOf sz n ct):Zbx sz n=if 0<=ct/\ct<=(n:Int) then some ct.toNat else none:=by
 rcases h with⟨rfl,rfl⟩ | rfl
 . rw[if_pos ⟨om,om⟩];rfl
 . rfl
def Zxn (K:W.Frag)(mg:Str->Option Value):Sp:=fun vs H Q _=>∃ (S:Sl)(f b:Addr)(D:Nat)(es:List En)(us:List V)(wh:Nat)(p:Int)(sz:V)(old k:Int),vs=[.ref f,.ref b,.int (D:Int),.int (wh:Int),.int p,sz,.int old,.int k]/\SealAt K mg Zbe S H f/\BkAt S H D b es us/\(∀ e∈es,Zwe D e)/\SzV sz/\wh<6/\es.length<=300/\D<=16/\Cap S H 7000/\
 ∀ v H',Gr S 7000 H H'->ShAt S H' (Ze9 D es wh p sz old k) v->Q v H'
noncomputable abbrev nmDue:List Str:=["_law_seal","_law_book","_law_depth","_law_which","_law_place","_law_size","_law_old","_law_key","_law_count","_law_leaves_here","_law_last","_law_entry","_law_way_here"]
theorem scDu:Zak nmDue ["_law_seal","_law_book","_law_depth","_law_which","_law_place","_law_size","_law_old","_law_key"] (Zad sDue):=Zb2
theorem Zwi (F:FunAt K mg "_law_due" sDue)(Fl:Zch P w K mg base CX0 1 (Zc9 K mg Zbe))(Fv:FnP P w K mg base 2 "_law_leaves" ["_law_seal","_law_book"] (Zwp K mg))(Flt:FnP P w K mg base 11 "_law_top" ["_law_seal","_law_leaves_here"] (Zit K mg 9))(Flp:FnP P w K mg base 12 "_law_path" ["_law_seal","_law_leaves_here","_law_place"] (Zj7 K mg 9))(Flg:FnP P w K mg base 12 "_law_growth" ["_law_seal","_law_leaves_here","_law_old"] (Zkk K mg 9))(Flw:FnP P w K mg base 20 "_law_way" ["_law_seal","_law_rows","_law_depth","_law_key"] (Zsw K mg))
 (ml:mg "len" = none)(mso:mg "sorted" = none):FnP P w K mg base 21 "_law_due" ["_law_seal","_law_book","_law_depth","_law_which","_law_place","_law_size","_law_old","_law_key"] (Zxn K mg):=by
 refine F.ok scDu (fun _ _ _ _ _ _=>l8e fun _ _ _ _ _ _ _ _=>rfl) (fun vs H Q E h=>?_) (fun f0 ad A outer s H vs Q E hr h=>?_)
 . obtain⟨S,f,b,D,es,us,wh,p,sz,old,k,rfl,_⟩:=h;rfl
 obtain⟨S,f,b,D,es,us,wh,p,sz,old,k,rfl,hS,hB,oks,hz,w6,hl,D16,hc,q⟩:=h;have nd:=scDu.nd;have hu:=Zjz hr;refine' ⟨_,Zab (Zao (i:=8) nd rfl (Or.inl rfl) (Zen (Zaj Znk (pv 5) Zdl (Zam _)) (Zai Zah rfl ml boot_len (pa1 (pv 1))) (pv 5))) <|
  Zab (Zat (PW.pt (Zeq (PW.pt (Zin (Zaj Zdg (pv 3) Zae (Zam _)) (Zfy (Zcu (Zeg Ze5 Ze5 Zae (pv 8) (Zai Zah rfl ml boot_len (pa1 (pv 1)))))))) (Zdq (PW.pt (Zin (Zaj Za2 (pv 3) Zae (Zam _)) (Zfy (Zcu (Zeg Ze5 Ze5 Zae (pv 8) (Zai Zah rfl ml boot_len (pa1 (pv 1))))))))))) (psr (Zau Zbl)) Zal) <|
  Zab (Zao (i:=9) nd rfl (Or.inl rfl) (Zag Fv hr.m rfl (pa2 (pv 0) (Zay Za8 (pv 1) Za6 (Za5 (pv 8)))))) <|
  Zab (Zat (Zaj Za2 (pv 3) Zae (Zam _)) (psr (Zau (pa1 (Zbd (i:=0) Fl hr.m Zb6 rfl (Or.inl rfl) (pa3 Zav (pv 8) (Zag Flt hr.m rfl (pa2 (pv 0) (pv 9)))))))) Zal) <|
  Zab (Zat (Zaj Za2 (pv 3) Zae (Zam _)) (psr (Zen (Zeg Ze5 Ze5 Zae (pv 6) (pv 8)) (Zau (pa1 (Zag Flg hr.m rfl (pa3 (pv 0) (pv 9) (pv 6))))) (Zau Zbl))) Zal) <|
  Zab (Zao (i:=10) nd rfl (Or.inl rfl) (Zen (PW.pt (Zeq (Zaj Za2 (pv 3) Zae (Zam _)) (Zdq (Zaj Za2 (pv 3) Zae (Zam _))))) (Zai Zah rfl ml boot_len (pa1 (pv 1))) (pv 8))) <|
  Zab (Zat (PW.pt (Zeq (Zcu (Zeg Ze5 Zdg Zae (pv 4) (pv 10))) (Zdq (PW.pt (Zin (Zaj Zmo (pv 3) Zae (Zam _)) (Zfy (Zcu (Zeg Ze5 Zdg Zae (pv 7) (Zas Zgg Zae (pv 2)))))))))) (psr (Zau Zbl)) Zal) <|
  Zab (Zat (Zaj Za2 (pv 3) Zae (Zam _)) (psr (Zau (pa1 (Zag Flp hr.m rfl (pa3 (pv 0) (pv 9) (pv 4)))))) Zal) <|
  Zab (Zao (i:=11) nd rfl (Or.inl rfl) (Zau (pa2 (Zaw Za7 (Zaw Zax (pv 1) (pv 4) (fun _ _=>rfl)) Zae (fun _ _=>rfl)) (Zaw Za7 (Zaw Zax (pv 1) (pv 4) (fun _ _=>rfl)) Zae (fun _ _=>rfl))))) <|
  Zab (Zat (Zaj Za2 (pv 3) Zae (Zam _)) (psr (pv 11)) Zal) <|
  Zab (Zao (i:=12) nd rfl (Or.inl rfl) (Zag Flw hr rfl (pa4 (pv 0) (Zet (ys:=["_law_book","_law_place"]) (js:=[1,4]) ?ok (Zcz (Zai (Ze0 rfl) rfl mso PyProof.Rows.boot_sorted (pa1 (Zaw Za7 (Zaw Zax (pv 1) (pv 4) (fun _ _=>rfl)) Zae (fun _ _=>rfl))))) (fun _ _ _=>Zd2) ?he) (pv 2) (pv 7)))) <|
  Zab (Zat (Zaj Za2 (pv 3) Zae (Zam _)) (psr (Zau (pa1 (pv 12)))) Zal) <|
  psr (Zau (pa1 (Zbw (pa4 (Zaw Zax (pv 11) Zae (fun _ _=>rfl)) (Zaw Zax (pv 11) Zae (fun _ _=>rfl)) (Zag Flp hr.m rfl (pa3 (pv 0) (pv 9) (pv 4))) (pv 12))))),?rd⟩
 case ok=>
  refine⟨rfl,rfl,rfl,by decide +kernel,by decide +kernel,rfl,by decide +kernel,Zfq (fun p hp=>?_),rfl,fun i y h=>?_,rfl⟩
  . simp only[Xbd,Xa0,or_false] at hp;rcases hp with rfl | rfl <;> rfl
  . match i,h with
    | 0,h=>simp at h;subst h;exact⟨1,rfl,rfl,rfl,rfl⟩
    | 1,h=>simp at h;subst h;exact⟨4,rfl,rfl,rfl,rfl⟩
    | i+2,h=>simp at h
 case he=>
  exact fun _ _ _=>Zbw (pa2 (pv 0) (Zjw hu (Zaw (Zds K rfl) (Zaw (Zso K rfl) (pv 1) (pv 2) (fun _ _=>rfl)) Zae (fun _ _=>rfl)) (pv 0) (fun _ _=>rfl)))
 case rd=>
 have lu:=Za0 hB.2;have g0:Gr S 0 H H:=.refl hS.told;have nilq:∀ {H':Hp}{n:Nat},n<=7000->Gr S n H H'->Ze9 D es wh p sz old k = .nil->∀ l,H' l=none->Q (.ref l) (upd H' l (.lst [])):=fun hn g en l nl=>by
  rw[en] at q;exact q _ _ ((g.trans (.new g.gn.told2 nl)).up om) ⟨l,rfl,Zaa⟩
 refine Zq1 (fun v H'=>H=H'/\∃ ct:Int,v = .int ct/\CtOf sz es.length ct) (fun Q' hQ=>?_) ?_
 . rcases hz with rfl | ⟨i,rfl⟩
   . exact⟨_,rfl,rfl,_,rfl,Zbz ⟨_,rfl,b,_,rfl,.inl (SqL.of hB.1),hQ _ _ ⟨rfl,_,rfl,.inl ⟨rfl,by rw[lu]⟩⟩⟩⟩
   . exact⟨_,rfl,rfl,_,rfl,Zby ⟨_,rfl,hQ _ _ ⟨rfl,_,rfl,.inr rfl⟩⟩⟩
 rintro _ _ ⟨rfl,ct,rfl,hct⟩;have hcn:=Zxd hct;dsimp only[Zbk];by_cases bad:(wh<3\/wh=5)/\¬ (0<=ct/\ct<=(es.length:Int))
 . refine Zyl (Tells.or (Tells.and (fun Q q=>⟨_,rfl,_,_,rfl,rfl,_,rfl,q⟩) (Tells.not (Zbi (i:=0) (j:=ct) (k:=(us.length:Int)) (fun Q q=>q) (fun Q q=>⟨_,rfl,q⟩) (fun Q q=>⟨_,rfl,b,_,rfl,.inl (SqL.of hB.1),q⟩)))) (Tells.and (fun Q q=>⟨_,rfl,rfl,_,rfl,q⟩) (Tells.not (Zbi (i:=0) (j:=ct) (k:=(us.length:Int)) (fun Q q=>q) (fun Q q=>⟨_,rfl,q⟩) (fun Q q=>⟨_,rfl,b,_,rfl,.inl (SqL.of hB.1),q⟩))))) ?_ ⟨sl0,nilq om g0 ?_⟩
   . have e1:(decide ((0:Int)<=ct) && decide (ct<=(us.length:Int)))=false:=by rw[<- Bool.decide_and,<- lu];exact Xag bad.2
     rw[e1];rcases bad.1 with c | rfl
     . rw[Xah (show((wh:Nat):Int)<3 by omega)];rfl
     . rfl
   . have en:Zbx sz es.length=none:=by rw[hcn,if_neg bad.2]
     have w4:wh=0\/wh=1\/wh=2\/wh=5:=by omega
     rcases w4 with rfl | rfl | rfl | rfl
     all_goals
      unfold Ze9;rw[en]
      rfl
 refine Zl6 (Tells.or (Tells.and (fun Q q=>⟨_,rfl,_,_,rfl,rfl,_,rfl,q⟩) (Tells.not (Zbi (i:=0) (j:=ct) (k:=(us.length:Int)) (fun Q q=>q) (fun Q q=>⟨_,rfl,q⟩) (fun Q q=>⟨_,rfl,b,_,rfl,.inl (SqL.of hB.1),q⟩)))) (Tells.and (fun Q q=>⟨_,rfl,rfl,_,rfl,q⟩) (Tells.not (Zbi (i:=0) (j:=ct) (k:=(us.length:Int)) (fun Q q=>q) (fun Q q=>⟨_,rfl,q⟩) (fun Q q=>⟨_,rfl,b,_,rfl,.inl (SqL.of hB.1),q⟩))))) ?_ ?_
 . by_cases cc:0<=ct/\ct<=(es.length:Int)
   . have e1:(decide ((0:Int)<=ct) && decide (ct<=(us.length:Int)))=true:=by rw[<- Bool.decide_and,<- lu];exact Xah cc
     rw[e1];simp
   . have cw:¬ (wh<3\/wh=5):=fun z=>bad ⟨z,cc⟩;have w4:wh=3\/wh=4:=by omega
     rcases w4 with rfl | rfl <;> rfl
 have okc:(wh<3\/wh=5)->0<=ct/\ct<=(es.length:Int):=fun z=>Classical.byContradiction fun y=>bad ⟨z,y⟩;clear bad;obtain⟨m,em,hm⟩:=Zwz (xs:=us) (i:=ct);refine⟨_,rfl,_,rfl,_,rfl,_,rfl,b,us,rfl,SqL.of hB.1,fun b2 nb2=>?_⟩;have gb:Gr S 0 H (upd H b2 (.lst (Zc6 us none (some ct)))):=.new hS.told nb2;refine⟨S,f,b2,D,es.take m,us.take m,rfl,hS.up gb.gn,⟨by rw[Zaa,em],Zb5 m (hB.up gb).2⟩,by rw[Xav];omega,hc.go gb.gn om,fun r rs H1 g1' er ir=>?_⟩;have g1:Gr S 300 H H1:=(gb.trans g1').up om;have hS1:=hS.up g1.gn;have hB1:=hB.up g1;dsimp only[Zbk];have ltm:((es.take m).map (lfG D)).length<=300:=by rw[Xad,Xav];omega
 have cl:=Zdz ((es.take m).map (lfG D));have mk1:∀ {H':Hp}{l:Addr}{vs:List V}{n:Nat},n<=7000->Gr S n H H'->H' l=none->Gr S 7000 H (upd H' l (.lst vs))/\Gr S 0 H' (upd H' l (.lst vs)):=fun hn g nl=>⟨(g.trans (.new g.gn.told2 nl)).up om,.new g.gn.told2 nl⟩
 by_cases w0:wh=0
 . subst w0;have cc:=okc (.inl om);have em2:=hm cc.1;have sh:Ze9 D es 0 p sz old k = .tr (bkG D (es.take m)):=by
    show(match Zbx sz es.length with | some n=>Sh.tr (bkG D (es.take n)) | none=>Sh.nil)=_;rw[hcn,if_pos cc,em2]
   refine⟨_,rfl,rfl,_,rfl,Zbz ?_⟩;refine⟨f,rfl,hS1.fny,_,rfl,_,rfl,_,rfl,S,f,r,rs,(es.take m).map (lfG D),rfl,hS1,SqL.of er,ir,om,hc.go g1.gn om,fun v2 H2 g2 i2=>?_⟩;have g12:=g1.trans g2;have hS2:=hS.up g12.gn;refine⟨hS2.fny,S,_,.int ct,_,_,_,hS2,hc.go g12.gn om,rfl,rfl,i2,fun v3 H3 g3 i3=>⟨sl1,fun l nl=>?_⟩⟩;have g13:=g12.trans g3;obtain⟨G,g4⟩:=mk1 (vs:=[v3]) om g13 nl;rw[sh] at q;have e1:(((es.take m).length:Nat):Int)=ct:=by rw[Xav];omega
   refine q _ _ G ⟨l,v3,rfl,Zaa,?_⟩;show isT S _ (.nd "book" (.int ((es.take m).length:Int)) (tpT ((es.take m).map (lfG D)))) v3;rw[e1];exact Zaz g4.gn i3
 refine Zl6 (b:=false) (fun Q q=>⟨_,rfl,rfl,_,rfl,?_⟩) rfl ?_
 . rw[show decide (V.int ((wh:Nat):Int)=V.int 0)=false from Xag fun z=>w0 (by injection z with z;omega)];exact q
 by_cases w2:wh=2
 . subst w2;have cc:=okc (.inl om);have em2:=hm cc.1;have sh:Ze9 D es 2 p sz old k=if 0<=old/\old<=(m:Int) then .ls (gwT ((es.take m).map (lfG D)) old.toNat) else .nil:=by
    show(match Zbx sz es.length with | some n=>if 0<=old/\old<=(n:Int) then Sh.ls (gwT ((es.take n).map (lfG D)) old.toNat) else Sh.nil | none=>Sh.nil)=_;rw[hcn,if_pos cc,em2]
   refine⟨_,rfl,rfl,_,rfl,Zbz ?_⟩;have emi:(m:Int)=ct:=by omega
   by_cases co:0<=old/\old<=(m:Int)
   . refine Zw4 (Zbi (i:=0) (j:=old) (k:=ct) (fun Q q=>q) (fun Q q=>⟨_,rfl,q⟩) (fun Q q=>⟨_,rfl,q⟩)) (by rw[<- Bool.decide_and,<- emi];exact Xah co) ?_;have eo:((old.toNat:Nat):Int)=old:=by omega
     refine⟨_,rfl,_,rfl,_,rfl,S,f,r,rs,(es.take m).map (lfG D),old.toNat,by rw[eo];rfl,hS1,SqL.of er,ir,om,by rw[Xad,Xav];omega,hc.go g1.gn om,fun r2 rs2 H2 g2 _ er2 ir2=>⟨sl1,fun l nl=>?_⟩⟩;obtain⟨G,g4⟩:=mk1 (vs:=[.ref r2]) om (g1.trans g2) nl;rw[sh,if_pos co] at q;exact q _ _ G ⟨l,r2,rs2,rfl,Zaa,g4.lst er2,Zap g4.gn ir2⟩
   . refine Zwv (Zbi (i:=0) (j:=old) (k:=ct) (fun Q q=>q) (fun Q q=>⟨_,rfl,q⟩) (fun Q q=>⟨_,rfl,q⟩)) (by rw[<- Bool.decide_and,<- emi];exact Xag co) ⟨sl0,nilq om g1 (by rw[sh,if_neg co])⟩
 refine Zl6 (b:=false) (fun Q q=>⟨_,rfl,rfl,_,rfl,?_⟩) rfl ?_
 . rw[show decide (V.int ((wh:Nat):Int)=V.int 2)=false from Xag fun z=>w2 (by injection z with z;omega)];exact q
 have hw4:wh=1\/wh=3\/wh=4\/wh=5:=by omega
 refine Zq1 (fun v H'=>H1=H'/\v = .int (if wh=3\/wh=4 then(es.length:Int) else ct)) (fun Q' hQ=>?_) ?_
 . rcases hw4 with rfl | rfl | rfl | rfl
   . exact⟨_,rfl,rfl,_,rfl,Zby ⟨_,rfl,rfl,_,rfl,Zby ⟨_,rfl,hQ _ _ ⟨rfl,rfl⟩⟩⟩⟩
   . exact⟨_,rfl,rfl,_,rfl,Zbz (Zbz ⟨_,rfl,b,_,rfl,.inl (SqL.of hB1.1),hQ _ _ ⟨rfl,by rw[<- lu];first | done | rfl⟩⟩)⟩
   . exact⟨_,rfl,rfl,_,rfl,Zby ⟨_,rfl,rfl,_,rfl,Zbz ⟨_,rfl,b,_,rfl,.inl (SqL.of hB1.1),hQ _ _ ⟨rfl,by rw[<- lu];first | done | rfl⟩⟩⟩⟩
   . exact⟨_,rfl,rfl,_,rfl,Zby ⟨_,rfl,rfl,_,rfl,Zby ⟨_,rfl,hQ _ _ ⟨rfl,rfl⟩⟩⟩⟩
 rintro _ _ ⟨rfl,rfl⟩;dsimp only[Zbk];generalize hla:(if wh=3\/wh=4 then(es.length:Int) else ct)=la;have e2D:(1:Int) * 2 ^ ((D:Int)).toNat=2 ^ D:=by rw[Int.one_mul,Int.toNat_natCast]
 have eOf:(decide ((0:Int)<=k) && decide (k<(1:Int) * 2 ^ ((D:Int)).toNat))=decide (Of k D):=by rw[<- Bool.decide_and,e2D]
 have ePl:(decide ((0:Int)<=p) && decide (p<la))=decide (0<=p/\p<la):=by rw[<- Bool.decide_and]
 by_cases bad2:¬ (0<=p/\p<la)\/(3<wh/\¬ Of k D)
 . refine Zyl (Tells.or (Tells.not (Zbi (i:=0) (j:=p) (k:=la) (fun Q q=>q) (fun Q q=>⟨_,rfl,q⟩) (fun Q q=>⟨_,rfl,q⟩))) (Tells.and (fun Q q=>⟨_,rfl,_,_,rfl,rfl,_,rfl,q⟩) (Tells.not (Zbi (i:=0) (j:=k) (k:=(1:Int) * 2 ^ ((D:Int)).toNat) (fun Q q=>q) (fun Q q=>⟨_,rfl,q⟩) (fun Q q=>⟨_,rfl,_,_,rfl,rfl,⟨om,om,om⟩,q⟩))))) ?_ ⟨sl0,nilq om g1 ?_⟩
   . rw[eOf,ePl];rcases bad2 with c | ⟨c1,c2⟩
     . rw[Xag c];rfl
     . rw[Xag c2,Xah (show((wh:Nat):Int) > 3 by omega)];simp
   . rcases hw4 with rfl | rfl | rfl | rfl
     . have cc:=okc (.inl om);show(match Zbx sz es.length with | some n=>if 0<=p/\p<(n:Int) then Sh.ls (paT ((es.take n).map (lfG D)) p.toNat) else Sh.nil | none=>Sh.nil)=_;rw[hcn,if_pos cc];dsimp only;rw[if_neg];rcases bad2 with c | ⟨c1,_⟩
       . rw[if_neg om] at hla;subst hla;intro z;exact c ⟨z.1,om⟩
       . omega
     . show(if 0<=p/\p<(es.length:Int) then(match es[p.toNat]? with | some e=>Sh.en e.1 (tbT D e.2.2) | none=>Sh.nil) else Sh.nil)=_;rw[if_neg];rcases bad2 with c | ⟨c1,_⟩
       . rw[if_pos om] at hla;subst hla;exact c
       . omega
     . show(if (0<=p/\p<(es.length:Int))/\Of k D then(match es[p.toNat]? with | some e=>Sh.wy (Zdh D e.2.2 k) | none=>Sh.nil) else Sh.nil)=_;rw[if_neg];rcases bad2 with c | ⟨_,c2⟩
       . rw[if_pos om] at hla;subst hla;exact fun z=>c z.1
       . exact fun z=>c2 z.2
     . have cc:=okc (.inr rfl);show(match Zbx sz es.length with | some n=>if (0<=p/\p<(n:Int))/\Of k D then(match es[p.toNat]? with | some e=>Sh.pp e.1 (tbT D e.2.2) (paT ((es.take n).map (lfG D)) p.toNat) (Zdh D e.2.2 k) | none=>Sh.nil) else Sh.nil | none=>Sh.nil)=_;rw[hcn,if_pos cc];dsimp only;rw[if_neg];rcases bad2 with c | ⟨_,c2⟩
       . rw[if_neg om] at hla;subst hla;intro z;exact c ⟨z.1.1,om⟩
       . exact fun z=>c2 z.2
 have cpl:0<=p/\p<la:=Classical.byContradiction fun y=>bad2 (.inl y);have cof:3<wh->Of k D:=fun z=>Classical.byContradiction fun y=>bad2 (.inr ⟨z,y⟩);clear bad2;refine Zl6 (Tells.or (Tells.not (Zbi (i:=0) (j:=p) (k:=la) (fun Q q=>q) (fun Q q=>⟨_,rfl,q⟩) (fun Q q=>⟨_,rfl,q⟩))) (Tells.and (fun Q q=>⟨_,rfl,_,_,rfl,rfl,_,rfl,q⟩) (Tells.not (Zbi (i:=0) (j:=k) (k:=(1:Int) * 2 ^ ((D:Int)).toNat) (fun Q q=>q) (fun Q q=>⟨_,rfl,q⟩) (fun Q q=>⟨_,rfl,_,_,rfl,rfl,⟨om,om,om⟩,q⟩))))) ?_ ?_
 . rw[eOf,ePl,Xah cpl];by_cases w3:3<wh
   . rw[Xah (cof w3)];simp
   . rw[Xag (show ¬ ((wh:Nat):Int) > 3 by omega)];rfl
 have lae:la<=(es.length:Int):=by
  rw[<- hla];split
  . omega
  . exact(okc om).2
 have ep:((p.toNat:Nat):Int)=p:=by omega
 have pm:(wh=1\/wh=5)->(m:Int)=ct/\p<(m:Int)/\p.toNat<((es.take m).map (lfG D)).length:=fun z=>by
  have cc:=okc om;have em2:=hm cc.1;rw[if_neg om] at hla;subst hla;rw[Xad,Xav];omega
 by_cases w1:wh=1
 . subst w1;have cc:=okc (.inl om);obtain⟨emi,pm1,pm2⟩:=pm (.inl rfl);have sh:Ze9 D es 1 p sz old k = .ls (paT ((es.take m).map (lfG D)) p.toNat):=by
    show(match Zbx sz es.length with | some n=>if 0<=p/\p<(n:Int) then Sh.ls (paT ((es.take n).map (lfG D)) p.toNat) else Sh.nil | none=>Sh.nil)=_;rw[hcn,if_pos cc,<- hm cc.1];dsimp only;rw[if_pos ⟨om,om⟩]
   refine⟨_,rfl,rfl,_,rfl,Zbz ?_⟩;refine⟨_,rfl,_,rfl,_,rfl,S,f,r,rs,(es.take m).map (lfG D),p.toNat,by rw[ep];rfl,hS1,SqL.of er,ir,om,pm2,hc.go g1.gn om,fun r2 rs2 H2 g2 _ er2 ir2=>⟨sl1,fun l nl=>?_⟩⟩;obtain⟨G,g4⟩:=mk1 (vs:=[.ref r2]) om (g1.trans g2) nl;rw[sh] at q;exact q _ _ G ⟨l,r2,rs2,rfl,Zaa,g4.lst er2,Zap g4.gn ir2⟩
 refine Zl6 (b:=false) (fun Q q=>⟨_,rfl,rfl,_,rfl,?_⟩) rfl ?_
 . rw[show decide (V.int ((wh:Nat):Int)=V.int 1)=false from Xag fun z=>w1 (by injection z with z;omega)];exact q
 have hi:p.toNat<es.length:=by omega
 have ee:es[p.toNat]? = some es[p.toNat]:=Xab hi;obtain⟨v,eu,hv⟩:=Zj1 hB1.2 ee;obtain⟨pt,d,u,rfl,hpt,hd,iu⟩:=hv;have eat:atI us p=some (.ref pt):=by
  have z:=Zan eu;rw[ep] at z;exact z
 refine⟨_,rfl,_,rfl,b,_,_,_,rfl,rfl,SqL.of hB1.1,eat,pt,_,0,_,rfl,rfl,.inl (.inl hpt),Zan (j:=0) rfl,_,rfl,_,rfl,b,_,_,_,rfl,rfl,SqL.of hB1.1,eat,pt,_,2,_,rfl,rfl,.inl (.inl hpt),Zan (j:=2) rfl,sl2,fun aE nE=>?_⟩;have gE:Gr S 0 H1 (upd H1 aE (.lst [.str es[p.toNat].1,u])):=.new g1.gn.told2 nE;have hE:upd H1 aE (.lst [.str es[p.toNat].1,u]) aE=some (.lst [.str es[p.toNat].1,u]):=Zaa;generalize upd H1 aE (.lst [.str es[p.toNat].1,u])=H2 at gE hE;have g2:Gr S 300 H H2:=g1.trans gE;have hB2:=hB1.up gE;have hS2:=hS.up g2.gn;have hpt2:=gE.same hpt (fun _ e=>nomatch e);have hd2:=gE.same hd (fun _ e=>nomatch e);have iu2:=Zaz gE.gn iu;dsimp only[Zbk];by_cases w3:wh=3
 . subst w3;refine⟨_,rfl,rfl,_,rfl,Zbz ?_⟩;have sh:Ze9 D es 3 p sz old k = .en es[p.toNat].1 (tbT D es[p.toNat].2.2):=by
    show(if 0<=p/\p<(es.length:Int) then(match es[p.toNat]? with | some e=>Sh.en e.1 (tbT D e.2.2) | none=>Sh.nil) else Sh.nil)=_;rw[if_pos ⟨cpl.1,om⟩,ee]
   rw[sh] at q;exact⟨_,rfl,q _ _ (g2.up om) ⟨aE,u,rfl,hE,iu2⟩⟩
 refine Zl6 (b:=false) (fun Q q=>⟨_,rfl,rfl,_,rfl,?_⟩) rfl ?_
 . rw[show decide (V.int ((wh:Nat):Int)=V.int 3)=false from Xag fun z=>w3 (by injection z with z;omega)];exact q
 have eo:=oks es[p.toNat] (Xbh hi);have hw:=eo.w;have h8:=eo.l;have srt0:=eo.s;have rlen:=srt0.len;have ck:=cof (by clear cof pm okc;omega);generalize es[p.toNat]=e at *;obtain⟨z,kvs,ac⟩:=e;dsimp only at *;refine⟨_,rfl,_,rfl,_,rfl,b,_,_,_,rfl,rfl,SqL.of hB2.1,eat,pt,_,1,_,rfl,rfl,.inl (.inl hpt2),Zan (j:=1) rfl,d,kvs,rfl,hd2,hw.ints,om,fun l lk nl pm' pw=>⟨l,rfl,⟨_,SqL.of Zaa⟩,fun DD hDD=>?_⟩⟩;have srt:=Zpc hw pm' pw;have g6:Gr S 0 H2 (upd H2 l (.lst (lk.map V.int))):=.new hS2.told nl;have llk:lk.length=kvs.length:=by have:=pm'.length_eq;simpa using this
 refine⟨fun i m ys H3=>m=lk.length - i/\i<=lk.length/\H3 DD=some (.lst ys)/\Gr S 0 (upd H2 l (.lst (lk.map V.int))) H3/\RowsAt H3 ((lk.take i).map fun k=>(k,Zlk kvs k)) ys,
  ⟨lk.length,by simp,om,Zaa,Gr.new g6.gn.told2 hDD,.nil⟩,?_⟩
 rintro i m' ys H3 ⟨rfl,hi',hD2,g,ry⟩;have hl2:=g.lst (show upd H2 l (.lst (lk.map V.int)) l=some (.lst (lk.map V.int)) from Zaa);have ylen:=Za0 ry;rw[Xad,Xav] at ylen;have g0':=g6.trans g;by_cases hlt:i<lk.length
 . refine .inr ⟨⟨_,V.int lk[i],SqL.of hl2,by simp[hlt]⟩,fun y H4 ⟨e3,hx⟩=>?_⟩;subst e3;have ex:y=V.int lk[i]:=by
    have z:=hx _ (SqL.of hl2);simp[hlt] at z;exact z.symm
   subst ex;refine Zbz ?_;have hh:=g0'.same hd2 (fun _ e=>nomatch e);have ev:=Zn1 hw (Zpp hw pm' (Xbh hlt));refine⟨_,rfl,_,rfl,_,rfl,b,_,_,_,rfl,rfl,SqL.of (g0'.lst hB2.1),eat,pt,_,1,_,rfl,rfl,.inl (.inl (g0'.same hpt2 (fun _ e=>nomatch e))),Zan (j:=1) rfl,_,rfl,d,.str (Zlk kvs lk[i]),rfl,?_,(sl2),fun pp hpp=>?_⟩
   . have z:=DGet.k (H:=H4) (a:=d) (k:=.inl lk[i]) hh;rw[ev] at z;exact z
   have g7:Gr S 0 H4 (upd H4 pp (.tup [.int lk[i],.str (Zlk kvs lk[i])])):=.new g.gn.told2 hpp;have hD7:=g7.lst hD2;have g8:Gn S 0 _ (upd (upd H4 pp (.tup [.int lk[i],.str (Zlk kvs lk[i])])) DD (.lst (ys++[.ref pp]))):=Gn.chg g7.gn.told2 hD7 rfl (fun _ e=>nomatch e);refine⟨hD7,by rw[Xam];omega,lk.length - (i+1),om,rfl,om,Zaa,((g.trans g7).up om).own hDD,?_⟩;rw[List.take_succ,Xab hlt,Xbk];exact RowsAt.up (Zjp (RowsAt.up ry g7.gn) ⟨pp,rfl,Zaa⟩) g8
 have e:i=lk.length:=by omega
 subst e;refine .inl ⟨⟨_,SqL.of hl2,by simp⟩,?_⟩;rw[List.take_length] at ry;have er':=Zm6 srt0 srt;rw[er'] at ry;have g23:Gr S 300 H H3:=g2.trans g0';have wl:wcP D ac k<=6000:=by
  have:=Znc D ac k;have h2:D * ac.length<=16 * 8:=Nat.mul_le_mul D16 om;have h3:D * (D * ac.length)<=16 * (16 * 8):=Nat.mul_le_mul D16 h2;omega
 refine⟨_,rfl,_,rfl,S,f,DD,ys,D,ac,k,rfl,hS.up g23.gn,hD2,ry,om,srt0.okr hw,D16,hc.go g23.gn om,fun y r2 H5 g5 _ _ wy=>?_⟩;have g5':=g5.up wl;have g25:=g23.trans g5';have g35:=g0'.trans g5';dsimp only[Zbk];by_cases w4:wh=4
 . subst w4;refine⟨_,rfl,rfl,_,rfl,Zbz ?_⟩;have sh:Ze9 D es 4 p sz old k = .wy (Zdh D ac k):=by
    show(if (0<=p/\p<(es.length:Int))/\Of k D then(match es[p.toNat]? with | some e=>Sh.wy (Zdh D e.2.2 k) | none=>Sh.nil) else Sh.nil)=_;rw[if_pos ⟨⟨cpl.1,om⟩,ck⟩,ee]
   rw[sh] at q;refine⟨_,rfl,sl1,fun l nl=>?_⟩;obtain⟨G,g7⟩:=mk1 (vs:=[.ref y]) om g25 nl;exact q _ _ G ⟨l,y,r2,rfl,Zaa,wy.gr g7⟩
 have w5:wh=5:=by clear cof pm okc;omega
 subst w5;refine⟨_,rfl,rfl,_,rfl,Zby ?_⟩;have cc:=okc (.inr rfl);obtain⟨emi,pm1,pm2⟩:=pm (.inr rfl);have sh:Ze9 D es 5 p sz old k = .pp z (tbT D ac) (paT ((es.take m).map (lfG D)) p.toNat) (Zdh D ac k):=by
  show(match Zbx sz es.length with | some n=>if (0<=p/\p<(n:Int))/\Of k D then(match es[p.toNat]? with | some e=>Sh.pp e.1 (tbT D e.2.2) (paT ((es.take n).map (lfG D)) p.toNat) (Zdh D e.2.2 k) | none=>Sh.nil) else Sh.nil | none=>Sh.nil)=_;rw[hcn,if_pos cc,<- hm cc.1];dsimp only;rw[if_pos ⟨⟨om,om⟩,ck⟩,ee]
 rw[sh] at q;have hE5:=g35.lst hE;refine⟨_,rfl,aE,_,_,_,rfl,rfl,SqL.of hE5,Zan (j:=0) rfl,_,rfl,aE,_,_,_,rfl,rfl,SqL.of hE5,Zan (j:=1) rfl,?_⟩;have gr5:Gr S 6000 H1 H5:=(gE.trans g35).up om;refine⟨_,rfl,_,rfl,_,rfl,S,f,r,rs,(es.take m).map (lfG D),p.toNat,by rw[ep];rfl,hS.up g25.gn,SqL.of (gr5.lst er),Zap gr5.gn ir,om,pm2,hc.go g25.gn om,fun r6 rs6 H6 g6 _ er6 ir6=>⟨_,rfl,sl4,fun pq npq=>⟨sl1,fun l nl=>?_⟩⟩⟩;have g26:=g25.trans g6;have gq:Gr S 0 H6 (upd H6 pq (.tup [.str z,u,.ref r6,.ref y])):=.new g26.gn.told2 npq;obtain⟨G,g7⟩:=mk1 (vs:=[.ref pq]) om (g26.trans gq) nl;have gq7:=gq.trans g7;refine q _ _ G ⟨l,pq,rfl,Zaa,?_⟩;exact PpAt.gr ⟨u,r6,rs6,y,r2,Zaa,Zaz ((g35.trans g6).trans gq).gn iu2,gq.lst er6,Zap gq.gn ir6,(wy.gr g6).gr gq⟩ g7
theorem ShAt.gr {S:Sl}{n:Nat}{H H':Hp}{sh:Sh}{v:V}(h:ShAt S H sh v)(g:Gr S n H H'):ShAt S H' sh v:=by
 cases sh with
 | nil=>obtain⟨l,e,h1⟩:=h;exact⟨l,e,g.lst h1⟩
 | tr t=>obtain⟨l,u,e,h1,h2⟩:=h;exact⟨l,u,e,g.lst h1,Zaz g.gn h2⟩
 | ls ts=>obtain⟨l,r,rs,e,h1,h2,h3⟩:=h;exact⟨l,r,rs,e,g.lst h1,g.lst h2,Zap g.gn h3⟩
 | en z t=>obtain⟨l,u,e,h1,h2⟩:=h;exact⟨l,u,e,g.lst h1,Zaz g.gn h2⟩
 | wy w=>obtain⟨l,p,r,e,h1,h2⟩:=h;exact⟨l,p,r,e,g.lst h1,h2.gr g⟩
 | pp z t ts w=>obtain⟨l,q,e,h1,h2⟩:=h;exact⟨l,q,e,g.lst h1,h2.gr g⟩
theorem Zku {H:Hp}{n:Nat}{a c:Addr}{xs ys:List V}(ha:H a=some (.tup xs))(hc:H c=some (.tup ys))(hl:xs.length=ys.length)(hf:∀ (i:Nat) u v,xs[i]? = some u->ys[i]? = some v->EqB H n u v true):EqB H (n+1) (.ref a) (.ref c) true:=by
 refine .inr (.inl ⟨a,c,xs,ys,fun _=>true,rfl,rfl,ha,hc,hf,?_⟩);rw[Zcx,hl];simp
theorem Zer {S:Sl}{H:Hp}{n:Nat}{ts:List Tm}{us vs:List V}(hd:∀ t∈ts,t.dep<=n)(h:Zdc S H ts us)(h':Zdc S H ts vs):us.length=vs.length/\∀ (i:Nat) u v,us[i]? = some u->vs[i]? = some v->EqB H n u v true:=by
 refine⟨(Za0 h).symm.trans (Za0 h'),fun i u v e1 e2=>?_⟩;obtain⟨t,et,it⟩:=Znh h e1;exact EqB.up (hd t (Xa7 et)) (Zcb it (Zkp h' et e2))
theorem Zj4 {H:Hp}(n:Nat)(z:Str):EqB H n (.str z) (.str z) true:=EqB.bas (.inl ⟨rfl,rfl,(Zb4 rfl).symm⟩) n
theorem Zqg {H:Hp}{ac:List Rw}{v v':V}(h:EndAt H ac v)(h':EndAt H ac v'):EqB H 1 v v' true:=by
 cases ac with
 | nil=>
  have h:v = .non:=h;have h':v' = .non:=h';subst h h';exact EqB.bas (.inl ⟨rfl,rfl,(Zb4 rfl).symm⟩) _
 | cons r l=>
  obtain⟨p,rfl,g⟩:=h;obtain⟨p',rfl,g'⟩:=h';exact Zrp g g' (by simp[Zd4])
theorem Zkj {S:Sl}{H:Hp}{n:Nat}{p p' r r':Addr}{w:List Tm×List Rw}(hd:∀ t∈w.1,t.dep<=n)(h:WayAt S H p r w)(h':WayAt S H p' r' w):EqB H (n+2) (.ref p) (.ref p') true:=by
 obtain⟨os,ev,h1,h2,h3,h4⟩:=h;obtain⟨os',ev',h1',h2',h3',h4'⟩:=h';obtain⟨s1,s2⟩:=Zer hd h3 h3';refine Zku h1 h1' rfl fun i u v e1 e2=>?_
 match i,e1,e2 with
 | 0,e1,e2=>simp at e1 e2;subst e1 e2;exact Zdt h2 h2' s1 s2
 | 1,e1,e2=>simp at e1 e2;subst e1 e2;exact EqB.up om (Zqg h4 h4')
 | i+2,e1,e2=>simp at e1
theorem Ze8 {H:Hp}{n:Nat}{a c:Addr}{u v:V}(ha:H a=some (.lst [u]))(hc:H c=some (.lst [v]))(h:EqB H n u v true):EqB H (n+1) (.ref a) (.ref c) true:=
 Zdt ha hc rfl fun i x y e1 e2=>by
  match i,e1,e2 with
  | 0,e1,e2=>simp at e1 e2;subst e1 e2;exact h
  | i+1,e1,e2=>simp at e1
def Sh.ok (n:Nat):Sh->Prop
 | .nil=>True
 | .tr t=>t.dep<=n
 | .ls ts=>∀ t∈ts,t.dep<=n
 | .en _ t=>t.dep<=n
 | .wy w=>∀ t∈w.1,t.dep<=n
 | .pp _ t ts w=>t.dep<=n/\(∀ t∈ts,t.dep<=n)/\∀ t∈w.1,t.dep<=n
theorem Zt2 {S:Sl}{H:Hp}{n:Nat}{sh:Sh}{v v':V}(ok:sh.ok n)(h:ShAt S H sh v)(h':ShAt S H sh v'):EqB H (n+4) v v' true:=by
 cases sh with
 | nil=>
  obtain⟨l,rfl,h1⟩:=h;obtain⟨l',rfl,h1'⟩:=h';exact Zdt h1 h1' rfl fun i u v e1 _=>by simp at e1
 | tr t=>
  obtain⟨l,u,rfl,h1,h2⟩:=h;obtain⟨l',u',rfl,h1',h2'⟩:=h';exact Ze8 h1 h1' (EqB.up (Xan ok om) (Zcb h2 h2'))
 | ls ts=>
  obtain⟨l,r,rs,rfl,h1,h2,h3⟩:=h;obtain⟨l',r',rs',rfl,h1',h2',h3'⟩:=h';obtain⟨s1,s2⟩:=Zer ok h3 h3';exact Ze8 h1 h1' (EqB.up om (Zdt h2 h2' s1 s2))
 | en z t=>
  obtain⟨l,u,rfl,h1,h2⟩:=h;obtain⟨l',u',rfl,h1',h2'⟩:=h';refine Zdt h1 h1' rfl fun i x y e1 e2=>?_
  match i,e1,e2 with
  | 0,e1,e2=>simp at e1 e2;subst e1 e2;exact Zj4 _ z
  | 1,e1,e2=>simp at e1 e2;subst e1 e2;exact EqB.up (Xan ok om) (Zcb h2 h2')
  | i+2,e1,e2=>simp at e1
 | wy w=>
  obtain⟨l,p,r,rfl,h1,h2⟩:=h;obtain⟨l',p',r',rfl,h1',h2'⟩:=h';exact Ze8 h1 h1' (EqB.up om (Zkj ok h2 h2'))
 | pp z t ts w=>
  obtain⟨l,q,rfl,h1,u,r,rs,p,r2,h2,h3,h4,h5,h6⟩:=h;obtain⟨l',q',rfl,h1',u',r',rs',p',r2',h2',h3',h4',h5',h6'⟩:=h';obtain⟨o1,o2,o3⟩:=ok;obtain⟨s1,s2⟩:=Zer o2 h5 h5';refine Ze8 h1 h1' (Zku h2 h2' rfl fun i x y e1 e2=>?_)
  match i,e1,e2 with
  | 0,e1,e2=>simp at e1 e2;subst e1 e2;exact Zj4 _ z
  | 1,e1,e2=>simp at e1 e2;subst e1 e2;exact EqB.up om (Zcb h3 h3')
  | 2,e1,e2=>simp at e1 e2;subst e1 e2;exact EqB.up om (Zdt h4 h4' s1 s2)
  | 3,e1,e2=>simp at e1 e2;subst e1 e2;exact EqB.up om (Zkj o3 h6 h6')
  | i+4,e1,e2=>simp at e1
theorem sh_ok {D:Nat}{es:List En}{wh:Nat}{p:Int}{sz:V}{old k:Int}(D16:D<=16)(hl:es.length<=20):(Ze9 D es wh p sz old k).ok 60:=by
 have tb:∀ ac:List Rw,(tbT D ac).dep<=19:=fun ac=>by
  have dp:=Zff D ac;show max ((Tm.int (D:Int)).dep) ((Zgb D ac).dep)+1<=19;have:(Tm.int (D:Int)).dep=0:=rfl;omega
 have lf:∀ n,∀ t∈(es.take n).map (lfG D),t.dep<=20:=fun n t ht=>by
  obtain⟨e,_,rfl⟩:=List.mem_map.mp ht;show max ((Tm.str e.1).dep) ((tbT D e.2.2).dep)+1<=20;have:(Tm.str e.1).dep=0:=rfl;have:=tb e.2.2;omega
 have ll:∀ n,((es.take n).map (lfG D)).length<=20:=fun n=>by rw[Xad,Xav];omega
 have pa:∀ n p,∀ t∈paT ((es.take n).map (lfG D)) p,t.dep<=60:=fun n p t ht=>Xan (Zr9 (ll n) (lf n) t ht) om;have wy:∀ (ac:List Rw) (k:Int),∀ t∈(Zdh D ac k).1,t.dep<=60:=fun ac k t ht=>Xan (Zk4 D ac k t ht) om;unfold Ze9;split
 . split
   . next n _=>
     have:=Zfx 20 _ 20 (ll n) (lf n);show max ((Tm.int _).dep) _+1<=60;have e:∀ i,(Tm.int i).dep=0:=fun _=>rfl;rw[e];omega
   . trivial
 . split
   . split
     . exact pa _ _
     . trivial
   . trivial
 . split
   . split
     . exact fun t ht=>Xan (Zoi 20 _ _ 20 (ll _) (lf _) t ht) om
     . trivial
   . trivial
 . split
   . split
     . exact Xan (tb _) om
     . trivial
   . trivial
 . split
   . split
     . exact wy _ _
     . trivial
   . trivial
 . split
   . split
     . split
       . exact⟨Xan (tb _) om,pa _ _,wy _ _⟩
       . trivial
     . trivial
   . trivial
structure Rt (K:W.Frag)(mg:Str->Option Value)(C cT:Addr)(S:Sl)(f x aT aL aB b aN:Addr)(D:Nat)(es:List En)(us:List V)(ks:List Int)(n:Nat)(H:Hp):Prop where
 sl:SealAt K mg Zbe S H f
 cap:Cap S H n
 kp:KgAt C cT S H x f aT aL aB D es
 bk:BkAt S H D b es us
 nr:H aN=some (.lst (ks.map V.int))
theorem Rt.go {S:Sl}{f x aT aL aB b aN:Addr}{D:Nat}{es:List En}{us:List V}{ks:List Int}{n m k:Nat}{H H':Hp}(h:Rt K mg C cT S f x aT aL aB b aN D es us ks n H)(g:Gr S m H H')(hk:m+k<=n):Rt K mg C cT S f x aT aL aB b aN D es us ks k H':=
 ⟨h.sl.up g.gn,h.cap.go g.gn hk,h.kp.up g,h.bk.up g,g.lst h.nr⟩
theorem Rt.ext {S:Sl}{f x aT aL aB b aN:Addr}{D:Nat}{es:List En}{us:List V}{ks:List Int}{n:Nat}{H H':Hp}(h:Rt K mg C cT S f x aT aL aB b aN D es us ks n H)(k:∀ b o,H b=some o->H' b=some o):Rt K mg C cT S f x aT aL aB b aN D es us ks n H':=h.go (Gr.ext h.sl.told k) om
def spRi (K:W.Frag)(mg:Str->Option Value)(C cT:Addr):Sp:=fun vs H Q _=>∃ (S:Sl)(f x aT aL aB b aN:Addr)(D:Nat)(es:List En)(us:List V)(ks:List Int)(c:Int),vs=[.ref f,.ref x,.ref b,.int (D:Int),.int c,.ref aN]/\Rt K mg C cT S f x aT aL aB b aN D es us ks 90000 H/\es.length<=20/\0<ks.length/\D<=16/\∀ H',Gr S 90000 H H'->Q (.bl true) H'
noncomputable abbrev nmRi:List Str:=["_law_seal","_law_keeper","_law_book","_law_depth","_law_cell","_law_near","_law_which","_law_one","_law_size","_law_place","_law_old","_law_key","_law_told"]
theorem scRi:Zak nmRi ["_law_seal","_law_keeper","_law_book","_law_depth","_law_cell","_law_near"] (Zad Zh7):=Zb2
theorem ok_ri (F:FunAt K mg "_law_right" Zh7)(cl:Cls K C)(Mz:MtP P w K mg base C 1 "size" ["self"] (Zwj C cT))(Fd:FnP P w K mg base 1 "_law_draw" ["_law_cell","_law_k","_law_many"] Zez)(Fa:FnP P w K mg base 23 "_law_asked" ["_law_keeper","_law_which","_law_place","_law_size","_law_old","_law_key"] (Zyj K mg C cT))(Fdu:FnP P w K mg base 21 "_law_due" ["_law_seal","_law_book","_law_depth","_law_which","_law_place","_law_size","_law_old","_law_key"] (Zxn K mg))
 (ml:mg "len" = none)(mr:mg "range" = none)(mi:mg "isinstance" = none)(mint:mg "int" = none):FnP P w K mg base 24 "_law_right" ["_law_seal","_law_keeper","_law_book","_law_depth","_law_cell","_law_near"] (spRi K mg C cT):=by
 refine F.ok scRi (fun _ _ _ _ _ _=>l6e fun _ _ _ _ _ _=>rfl) (fun vs H Q E h=>?_) (fun f0 ad A outer s H vs Q E hr h=>?_)
 . obtain⟨S,f,x,aT,aL,aB,b,aN,D,es,us,ks,c,rfl,_⟩:=h;rfl
 obtain⟨S,f,x,aT,aL,aB,b,aN,D,es,us,ks,c,rfl,hR,hl,hk0,D16,q⟩:=h;have nd:=scRi.nd;have hun:=hr.un;have lu:=Za0 hR.bk.2;refine⟨_,Zab (Zat (PW.pt (Zeq (Zcu (Zcg (Zai Zcq rfl mi Xbc (pa2 (Zcn Mz (pv 1) cl hr.m) (Zl1 rfl mint PyProof.Rows.boot_int)))))
  (Zdq (Zaj Zuu (Zcn Mz (pv 1) cl hr.m) (Zai Zah rfl ml boot_len (pa1 (pv 2))) (Zam _))))) (psr Zi7) Zal) <|
  Zab (Zgs PassesOwn.never rfl (Zc2 rfl mr (pa1 Zae)) (Zd3 (i:=6) nd rfl (Or.inl rfl)) <|
   Zab (Zao (i:=7) nd rfl (Or.inl rfl) (Zas Zcv (pv 4) (Zas Zfi Zae (pv 6)))) <|
   Zab (Zao (i:=8) nd rfl (Or.inl rfl) (Zen (Zaj Za2 (Zag Fd hr.m rfl (pa3 (pv 7) Zae Zae)) Zae (Zam _)) Zdl (Zas Zb7 (Zag Fd hr.m rfl (pa3 (pv 7) Zae (Zas Zcv (Zai Zah rfl ml boot_len (pa1 (pv 2))) Zae))) Zae))) <|
   Zab (Zao (i:=9) nd rfl (Or.inl rfl) (Zas Zb7 (Zag Fd hr.m rfl (pa3 (pv 7) Zae (Zas Zcv (Zai Zah rfl ml boot_len (pa1 (pv 2))) Zae))) Zae)) <|
   Zab (Zao (i:=10) nd rfl (Or.inl rfl) (Zas Zb7 (Zag Fd hr.m rfl (pa3 (pv 7) Zae (Zas Zcv (Zai Zah rfl ml boot_len (pa1 (pv 2))) Zae))) Zae)) <|
   Zab (Zao (i:=11) nd rfl (Or.inl rfl) (Zaw Zax (pv 5) (Zag Fd hr.m rfl (pa3 (pv 7) Zae (Zai Zah rfl ml boot_len (pa1 (pv 5))))) (fun _ _=>rfl))) <|
   Zab (Zat (Zaj Za2 (Zag Fd hr.m rfl (pa3 (pv 7) Zae Zae)) Zae (Zam _)) (Zar (Zao (i:=11) nd rfl (Or.inl rfl) (Zaw Za7 (Zbw (pa2 (Zyk Zsq Zae) (Zas Zgg Zae (pv 3)))) (Zas Zc4 (pv 11) Zae) (fun _ _=>rfl)))) Zal) <|
   Zab (Zao (i:=12) nd rfl (Or.inl rfl) (Zag Fa hr rfl (Zbr (pv 1) (Zbr (pv 6) (pa4 (pv 9) (pv 8) (pv 10) (pv 11)))))) <|
   Zar (Zat (Zaj Zni (pv 12) (Zag Fdu hr.m rfl (Zbr (pv 0) (Zbr (pv 2) (Zbr (pv 3) (Zbr (pv 6) (pa4 (pv 9) (pv 8) (pv 10) (pv 11))))))) (Zam _)) (psr Zi7) Zal)) <|
  psr Zi7,?_⟩
 obtain⟨dx,h1⟩:=hR.kp.ob;refine⟨_,rfl,x,dx,_,rfl,h1,rfl,S,x,f,aT,aL,aB,D,es,rfl,hR.kp,_,_,_,_,rfl,.int _,rfl,_,rfl,?_⟩;refine Zby ?_;refine⟨_,rfl,x,dx,_,rfl,h1,rfl,S,x,f,aT,aL,aB,D,es,rfl,hR.kp,_,rfl,b,us,rfl,.inl (SqL.of hR.bk.1),rfl,_,rfl,?_⟩;refine Zcl (fun z=>absurd z (by rw[lu];simp)) (fun _=>?_);refine⟨6,rfl,om,om,?_⟩;refine Zec (n:=6) (fun i σ H'=>Rt K mg C cT S f x aT aL aB b aN D es us ks (90000 - 14000 * i) H'/\Gr S (14000 * i) H H'/\∃ o6 o7 o8 o9 o10 o11 o12:Option V,σ=[some (.ref f),some (.ref x),some (.ref b),some (.int (D:Int)),some (.int c),some (.ref aN),o6,o7,o8,o9,o10,o11,o12])
  ⟨hR,.refl hR.sl.told,none,none,none,none,none,none,none,rfl⟩ ?_ (fun σ H' ⟨_,g,_⟩=>q H' (g.up om))
 rintro i σ H' hi ⟨h,G,o6,o7,o8,o9,o10,o11,o12,rfl⟩;have e0:(0:Int)+(i:Int)=(i:Int):=by omega
 dsimp only[Zbk];refine⟨_,rfl,_,rfl,_,_,rfl,rfl,.inl ⟨by decide,om⟩,_,_,rfl,rfl,?_⟩;dsimp only[Zbk];generalize c+41 * (0+(i:Int))=one;refine Zq1 (fun v H2=>(∀ b o,H' b=some o->H2 b=some o)/\SzV v) (fun Q' hQ=>?_) ?_
 . refine⟨_,rfl,one,7,3,rfl,om,om,fun v H2 _ _ x2=>⟨rfl,_,rfl,?_⟩⟩;have x2:∀ b o,H' b=some o->H2 b=some o:=x2;refine Zcl (fun _=>hQ _ _ ⟨x2,.inl rfl⟩) (fun _=>?_);refine⟨_,rfl,_,rfl,b,us,rfl,.inl (SqL.of (x2 _ _ h.bk.1)),_,_,rfl,rfl,one,8,_,rfl,om,by show(0:Int)<(us.length:Int)+3;omega,fun v H3 _ _ x3=>⟨_,_,rfl,rfl,hQ _ _ ⟨fun b o e=>x3 _ _ (x2 _ _ e),.inr ⟨_,rfl⟩⟩⟩⟩
 rintro sz H2 ⟨x2,hz⟩;have h2:=h.ext x2;dsimp only[Zbk];refine⟨_,rfl,_,rfl,b,us,rfl,.inl (SqL.of h2.bk.1),_,_,rfl,rfl,one,9,_,rfl,om,by show(0:Int)<(us.length:Int)+3;omega,fun v3 H3 _ _ x3=>⟨_,_,rfl,rfl,?_⟩⟩;have x3:∀ b o,H2 b=some o->H3 b=some o:=x3;have h3:=h2.ext x3;dsimp only[Zbk];generalize v3 - 1=p;refine⟨_,rfl,_,rfl,b,us,rfl,.inl (SqL.of h3.bk.1),_,_,rfl,rfl,one,10,_,rfl,om,by show(0:Int)<(us.length:Int)+3;omega,fun v4 H4 _ _ x4=>⟨_,_,rfl,rfl,?_⟩⟩;have x4:∀ b o,H3 b=some o->H4 b=some o:=x4;have h4:=h3.ext x4;dsimp only[Zbk];generalize v4 - 1=old;refine⟨_,rfl,_,rfl,_,rfl,aN,_,rfl,.inl (SqL.of h4.nr),one,11,_,rfl,om,by rw[Xad];omega,fun v5 H5 a5 b5 x5=>?_⟩;have x5:∀ b o,H4 b=some o->H5 b=some o:=x5;have h5:=h4.ext x5;rw[Xad] at b5;have hv5:v5.toNat<ks.length:=by omega
 have eat:atI (ks.map V.int) v5=some (.int ks[v5.toNat]):=by
  have z:atI (ks.map V.int) ((v5.toNat:Nat):Int)=some (.int ks[v5.toNat]):=Zan (by rw[Xas,Xab hv5];rfl);rw[show((v5.toNat:Nat):Int)=v5 by omega] at z;exact z
 refine⟨aN,_,_,_,rfl,rfl,SqL.of h5.nr,eat,?_⟩;dsimp only[Zbk];generalize ks[v5.toNat]=k0;refine Zqi (fun σ H6=>Rt K mg C cT S f x aT aL aB b aN D es us ks (90000 - 14000 * i) H6/\Gr S 0 H' H6/\∃ k:Int,σ=[some (.ref f),some (.ref x),some (.ref b),some (.int (D:Int)),some (.int c),some (.ref aN),some (.int (0+(i:Int))),some (.int one),some sz,some (.int p),some (.int old),some (.int k),o12]) (fun D' hD'=>?_) ?_
 . refine⟨_,rfl,one,6,6,rfl,om,om,fun v6 H6 _ _ x6=>⟨rfl,_,rfl,?_⟩⟩;have x6:∀ b o,H5 b=some o->H6 b=some o:=x6;have h6:=h5.ext x6;have g6:Gr S 0 H' H6:=Gr.ext h.sl.told fun b o e=>x6 _ _ (x5 _ _ (x4 _ _ (x3 _ _ (x2 _ _ e))));refine Zcl (fun _=>?_) (fun _=>hD' _ _ ⟨h6,g6,k0,rfl⟩);refine⟨_,rfl,_,rfl,_,_,rfl,rfl,⟨om,om,om⟩,sl2,fun pt npt=>⟨_,rfl,_,_,rfl,rfl,(by show(0:Int)<2;decide),?_⟩⟩;have g7:Gr S 0 H6 (upd H6 pt (.tup [.int (-1),.int (1 * 2 ^ ((D:Int)).toNat)])):=.new h6.sl.told npt;have hm:k0 % 2=0\/k0 % 2=1:=by omega
   rcases hm with e | e
   . refine⟨pt,_,_,.int (-1),rfl,rfl,.inl (.inl Zaa),by rw[e];exact Zan (j:=0) rfl,hD' _ _ ⟨h6.go g7 om,g6.trans g7,_,rfl⟩⟩
   . refine⟨pt,_,_,.int (1 * 2 ^ ((D:Int)).toNat),rfl,rfl,.inl (.inl Zaa),by rw[e];exact Zan (j:=1) rfl,hD' _ _ ⟨h6.go g7 om,g6.trans g7,_,rfl⟩⟩
 rintro _ H6 ⟨h6,g6,k,rfl⟩;rw[e0];refine⟨_,rfl,_,rfl,_,rfl,_,rfl,_,rfl,_,rfl,S,x,f,aT,aL,aB,D,es,i,p,sz,old,k,rfl,h6.kp,h6.sl,hz,hi,om,D16,h6.cap.dn om,fun v7 H7 g7 s7=>?_⟩;have h7:=h6.go (k:=90000 - 14000 * i - 7000) g7 om;dsimp only[Zbk];refine⟨_,rfl,_,rfl,_,rfl,_,rfl,_,rfl,_,rfl,_,rfl,_,rfl,_,rfl,S,f,b,D,es,us,i,p,sz,old,k,rfl,h7.sl,h7.bk,h7.kp.ok,hz,hi,om,D16,h7.cap.dn om,fun v8 H8 g8 s8=>?_⟩;refine⟨_,true,Zt2 (sh_ok D16 hl) (s7.gr g8) s8,(by show(A.deeper (PyProof.Rows.envOfC "_law_right" (Zad Zh7) s.heap.objs.size f0 ad)).units+(60+4)+1<cLine;omega),_,rfl,?_⟩;refine Zby ?_;exact⟨h7.go g8 om,(((G.trans g6).trans g7).trans g8).up om,_,_,_,_,_,_,_,rfl⟩
theorem Zuj {H:Hp}{a c:Addr}{us:List V}(ha:H a=some (.lst us))(hc:H c=some (.lst [])):EqB H 1 (.ref a) (.ref c) us.isEmpty:=
 .inr (.inr ⟨a,c,us,[],fun _=>true,rfl,rfl,ha,hc,fun i u v _ e2=>by simp at e2,by cases us <;> simp⟩)
theorem Zt0 {es:List En}{n:Nat}{e:En}(h:es.length=n+1)(he:es[n]? = some e):Zbg es=e.2.1:=by
 unfold Zbg;rw[h,List.getElem?_cons_succ,Xas,he];rfl
theorem KeepL.sub {S:Sl}{n:Nat}{l l':List Addr}{H H':Hp}(g:KeepL S n l H H')(h:∀ a∈l,a∈l'):KeepL S n l' H H':=⟨g.gn,fun b o e nb d=>g.all b o e (fun z=>nb (h b z)) d⟩
theorem EnAt.off {S:Sl}{n D:Nat}{l:List Addr}{H H':Hp}{e:En}{v:V}(h:EnAt S H D e v)(k:KeepL S n l H H')(t:Zgn S H)(hl:∀ a∈l,∃ xs,H a=some (.lst xs)):EnAt S H' D e v:=by
 obtain⟨p,d,u,rfl,h1,h2,h3⟩:=h;exact⟨p,d,u,rfl,k.oth t hl h1 (fun _ e=>nomatch e) (fun _ e=>nomatch e),k.oth t hl h2 (fun _ e=>nomatch e) (fun _ e=>nomatch e),Zaz k.gn h3⟩
theorem BkAt.off {S:Sl}{n D:Nat}{l:List Addr}{H H':Hp}{b:Addr}{es:List En}{us:List V}(h:BkAt S H D b es us)(k:KeepL S n l H H')(t:Zgn S H)(hl:∀ a∈l,∃ xs,H a=some (.lst xs))(nb:b∉l):BkAt S H' D b es us:=
 ⟨k.lst t h.1 nb,L2.Paired.imp2 (fun _ _ z=>z.off k t hl) h.2⟩
section
open Tx
structure Br10 (K:W.Frag)(mg:Str->Option Value)(cR:Addr):Prop where
 xg:XGet K cR
 no:W.findIn K (.ref cR) "row" = some none
 hR:mg "BadRow" = some (.ref cR)
 mi:mg "isinstance" = none
 md:mg "dict" = none
 kd:W.kitOne K (.type "dict") (.type "dict")=some true
 ki:W.kitOne K (.type "int") (.type "dict")=some false
theorem DueA.up {H H':Hp}{r:Sum Nat (List (Key×V))}{v:V}(h:DueA H r v)(k:∀ b o,H b=some o->H' b=some o):DueA H' r v:=by
 cases r with
 | inl n=>exact h
 | inr kv=>obtain⟨b,e,z⟩:=h;exact⟨b,e,k _ _ z⟩
structure TxOk (ks:List Int)(D:Nat)(kvs:List (Key×V))(H:Hp)(t:Str)(r:Sum Nat (List (Key×V)))(du:V):Prop where
 go:goR D 0 (Txt.split t "\n") kvs=r
 due:DueA H r du
 nr:∀ kv,r = .inr kv->Near ks D kv
 len:t.length<=sizeLine
 sz:(Txt.split t "\n").length<=1000
 row:∀ r∈Txt.split t "\n",r.length<=1000/\r.cps.all (· < 128)=true
structure MdAt (H:Hp)(D:Nat)(ks:List Int)(mp l:Addr)(ac:List Str)(ws:List V):Prop where
 p:H mp=some (.tup [.str (Txt.join "\n" ac),.ref l])
 l:H l=some (.lst ws)
 o:Paired (OpAt H) (Zbj D 0 ac) ws
 n:ac.length<=3
 r:∀ r∈ac,r.length<=100/\Zbt r/\RdK ks D r
def spAd (K:W.Frag)(mg:Str->Option Value)(C cT:Addr):Sp:=fun vs H Q _=>∃ (S:Sl)(f x aT aL aB b aN mp l:Addr)(D:Nat)(es:List En)(us:List V)(ks:List Int)(c:Int)(ac:List Str)(ws:List V),vs=[.ref f,.ref x,.ref b,.ref mp,.int (D:Int),.int c]/\Rt K mg C cT S f x aT aL aB b aN D es us ks 3000 H/\es.length<20/\ks.length=4/\Near ks D (Zbg es)/\D<=16/\b∉[aT,aL,aB]/\MdAt H D ks mp l ac ws/\
 ∀ H' es' us',KeepL S 2000 [aT,aL,aB,b] H H'->KgAt C cT S H' x f aT aL aB D es'->BkAt S H' D b es' us'->es'.length<=es.length+1->Near ks D (Zbg es')->Q (.bl true) H'
noncomputable abbrev nmAd:List Str:=["_law_seal","_law_keeper","_law_book","_law_made","_law_depth","_law_cell","_law_due_here","_law_text_here","_law_both","_law_place","e"]
theorem scAd:Zak nmAd ["_law_seal","_law_keeper","_law_book","_law_made","_law_depth","_law_cell"] (Zad Zim):=Zb2
theorem Zri (F:FunAt K mg "_law_added" Zim)(cl:Cls K C)(X:Br10 K mg cR)(Fd:FnP P w K mg base 1 "_law_draw" ["_law_cell","_law_k","_law_many"] Zez)(Fbh:FnP P w K mg base 1 "_law_behind" ["_law_held","_law_done"] Zg6)(Fsp:FnP P w K mg base 2 "_law_spoilt" ["_law_text_here","_law_due_here","_law_cell"] Zk0)
 (Ma:Zva P w K mg base C 21 "add" ["self","text"] (Zqt K mg C cT cR))(Ftb:FnP P w K mg base 20 "_law_table" ["_law_seal","_law_held","_law_depth"] (Zs2 K mg))(ml:mg "len" = none)(mint:mg "int" = none):FnP P w K mg base 22 "_law_added" ["_law_seal","_law_keeper","_law_book","_law_made","_law_depth","_law_cell"] (spAd K mg C cT):=by
 refine F.ok scAd (fun _ _ _ _ _ _=>l6e fun _ _ _ _ _ _=>rfl) (fun vs H Q E h=>?_) (fun f0 ad A outer s H vs Q E hr h=>?_)
 . obtain⟨S,f,x,aT,aL,aB,b,aN,mp,l,D,es,us,ks,c,ac,ws,rfl,_⟩:=h;rfl
 obtain⟨S,f,x,aT,aL,aB,b,aN,mp,l,D,es,us,ks,c,ac,ws,rfl,hR,hl,k4,hnr,D16,nb,hM,q⟩:=h;have nd:=scAd.nd;have hun:=hr.un;have lu:=Za0 hR.bk.2;have mi:=X.mi;have md:=X.md;have kl8:=hnr.len;refine⟨_,Zab (Zao (i:=6) nd rfl (Or.inl rfl) (Zag Fbh hr.m rfl (pa2 (Zen (Zaj Zni (pv 2) (Zau Zbl) (Zam _)) (Zaw Za7 (Zaw Zax (pv 2) (Zas Zb7 (Zai Zah rfl ml boot_len (pa1 (pv 2))) Zae) (fun _ _=>rfl)) Zae (fun _ _=>rfl)) Zk5) (Zaw Za7 (pv 3) Zae (fun _ _=>rfl))))) <|
  Zab (Zao (i:=7) nd rfl (Or.inl rfl) (Zaw Za7 (pv 3) Zae (fun _ _=>rfl))) <|
  Zab (Zat (Zaj Za2 (Zag Fd hr.m rfl (pa3 (pv 5) Zae Zae)) Zae (Zam _))
   (Zab (Zao (i:=8) nd rfl (Or.inl rfl) (Zag Fsp hr.m rfl (pa3 (pv 7) (pv 6) (pv 5)))) <|
    Zab (Zao (i:=7) nd rfl (Or.inl rfl) (Zaw Za7 (pv 8) Zae (fun _ _=>rfl))) <|
    Zar (Zao (i:=6) nd rfl (Or.inl rfl) (Zaw Za7 (pv 8) Zae (fun _ _=>rfl)))) Zal) <|
  Zab (Zrn (i:=10) rfl ⟨rfl,rfl⟩ nd rfl rfl X.xg.own rfl X.hR (Zpg (i:=9) nd rfl (Or.inl rfl) Ma (pv 1) cl hr (pa1 (pv 7))) Zal
   (fun e=>psr (Zkr (Zw5 (Zai Zcq rfl mi Xbc (pa2 (pv 6) (Zl1 rfl md PyProof.Rows.boot_dict)))) (Zk9 (Zfn Za2 (Zu9 K rfl (pv 10) rfl) (pv 6) (Zam _)))))) <|
  Zab (Zat (PW.pt (Zeq (Zcu (Zcg (Zai Zcq rfl mi Xbc (pa2 (pv 6) (Zl1 rfl md PyProof.Rows.boot_dict))))) (Zeq (Zcu (Zcg (Zai Zcq rfl mi Xbc (pa2 (pv 9) (Zl1 rfl mint PyProof.Rows.boot_int))))) (Zdq (Zaj Zuu (pv 9) (Zai Zah rfl ml boot_len (pa1 (pv 2))) (Zam _)))))) (psr Zi7) Zal) <|
  Zab (Za9 (Zco Xa1 Xa4 Xa3 Zbp (pv 2) (pa1 (Zbw (pa3 (pv 7) (pv 6) (Zag Ftb hr.m rfl (pa3 (pv 0) (pv 6) (pv 4)))))))) <|
  psr Zi7,?_⟩
 have es_:=Zgu fun r hr=>(hM.r r hr).2.1;have hjl:(Txt.join "\n" ac).length<=1000:=by
  rw[Zjl];have:=Zg8 ac (fun z hz=>(hM.r z hz).1);have:=hM.n;omega
 have hgo:goR D 0 (Txt.split (Txt.join "\n" ac) "\n") (Zbg es)=goS (Zbj D 0 ac) (Zbg es):=by
  rw[es_];split
  . next z=>
    have:Zbn "" D=some none:=Zgw (n:=0) (by decide +kernel);rw[z,Zdf,this];rfl
  . exact Zkc 0 ac (Zbg es) fun r hr=>(hM.r r hr).2.2.ne
 have hall':∀ r∈Txt.split (Txt.join "\n" ac) "\n",r.length<=100/\Zbt r/\RdK ks D r:=by
  rw[es_];intro r hr;split at hr
  . rw[List.mem_singleton.mp hr];exact⟨by decide,by decide +kernel,Zsb ks D⟩
  . exact hM.r r hr
 have hsl:(Txt.split (Txt.join "\n" ac) "\n").length<=3:=by
  rw[es_];split
  . decide
  . exact hM.n
 have sln:=Ziw D 0 ac;have r3:=hM.n;refine Zq1 (fun v H1=>(∀ b o,H b=some o->H1 b=some o)/\DueA H1 (goR D 0 (Txt.split (Txt.join "\n" ac) "\n") (Zbg es)) v) (fun Q' hQ=>?_) ?_
 . have arg:∀ (hd:Addr) (H1:Hp),(∀ b o,H b=some o->H1 b=some o)->H1 hd=some (.dK (Zbg es))->Zg6 [.ref hd,.ref l] H1 Q' E0:=fun hd H1 x1 hh=>by
    refine⟨hd,l,Zbg es,Zbj D 0 ac,ws,rfl,hh,om,x1 _ _ hM.l,Znu hM.o x1,om,?_⟩;rw[hgo] at hQ;cases e:goS (Zbj D 0 ac) (Zbg es) with
    | inl m=>rw[e] at hQ;exact fun H5 x5=>hQ _ _ ⟨fun b o e=>x5 _ _ (x1 _ _ e),rfl⟩
    | inr kv=>rw[e] at hQ;exact fun b H5 hb x5 _=>hQ _ _ ⟨fun b o e=>x5 _ _ (x1 _ _ e),b,rfl,hb⟩
   refine⟨_,rfl,sl0,fun l0 nl0=>?_⟩;have x1:∀ b o,H b=some o->upd H l0 (.lst []) b=some o:=fun b o e=>by rw[Zaf (Zac e nl0)];exact e
   refine⟨1,_,Zuj (x1 _ _ hR.bk.1) Zaa,(by show(A.deeper (PyProof.Rows.envOfC "_law_added" (Zad Zim) s.heap.objs.size f0 ad)).units+1+1<cLine;omega),_,rfl,?_⟩;cases hus:us with
   | nil=>
    refine Zby ?_;have ee:es=[]:=by rw[hus] at lu;exact List.length_eq_zero_iff.mp lu
    intro h0 nh0;have x2:∀ b o,H b=some o->upd (upd H l0 (.lst [])) h0 (.dK []) b=some o:=fun b o e=>by rw[Zaf (Zac (x1 _ _ e) nh0)];exact x1 _ _ e
    exact⟨_,rfl,mp,_,1,_,rfl,rfl,.inl (.inl (x2 _ _ hM.p)),Zan (j:=1) rfl,arg h0 _ x2 (by rw[ee];exact Zaa)⟩
   | cons u0 us0=>
    refine Zbz ?_;have ln:es.length=us0.length+1:=by rw[lu,hus];rfl
    have ee:es[us0.length]? = some es[us0.length]:=Xab om;obtain⟨v,eu,hv⟩:=Zj1 hR.bk.2 ee;obtain⟨pt,d,u,rfl,hpt,hd,iu⟩:=hv;have lk:=Zt0 ln ee;have hb:=x1 _ _ hR.bk.1;rw[hus] at hb eu;refine⟨_,rfl,_,rfl,b,_,rfl,.inl (SqL.of hb),_,_,rfl,rfl,b,_,_,_,rfl,rfl,SqL.of hb,?_,pt,_,1,_,rfl,rfl,.inl (.inl (x1 _ _ hpt)),Zan (j:=1) rfl,_,rfl,mp,_,1,_,rfl,rfl,.inl (.inl (x1 _ _ hM.p)),Zan (j:=1) rfl,arg d _ x1 (by rw[lk];exact x1 _ _ hd)⟩;have z:=Zan eu;rw[show((us0.length:Nat):Int)=(((u0 :: us0).length:Nat):Int) - 1 by rw[Xax];omega] at z;exact z
 rintro du H1 ⟨x1,hdu⟩;dsimp only[Zbk];have near:∀ kv,goR D 0 (Txt.split (Txt.join "\n" ac) "\n") (Zbg es) = .inr kv->Near ks D kv:=fun kv e=>Zfd _ _ _ _ (fun r hr=>(hall' r hr).2.2) hnr e;refine⟨_,rfl,mp,_,0,_,rfl,rfl,.inl (.inl (x1 _ _ hM.p)),Zan (j:=0) rfl,?_⟩;dsimp only[Zbk];generalize Txt.join "\n" ac=t at hjl hall' hsl hdu near;refine Zqi (fun σ H2=>∃ (t':Str) (du':V) (bo:Option V) (r:Sum Nat (List (Key×V))),(∀ b o,H b=some o->H2 b=some o)/\TxOk ks D (Zbg es) H2 t' r du'/\σ=[some (.ref f),some (.ref x),some (.ref b),some (.ref mp),some (.int (D:Int)),some (.int c),some du',some (.str t'),bo,none,none]) (fun D' hD'=>?_) ?_
 . refine⟨_,rfl,c,12,6,rfl,om,om,fun v H6 _ _ x6=>⟨rfl,_,rfl,?_⟩⟩;have x6:∀ b o,H1 b=some o->H6 b=some o:=x6;have x06:∀ b o,H b=some o->H6 b=some o:=fun b o e=>x6 _ _ (x1 _ _ e);refine Zcl (fun _=>?_) (fun _=>hD' _ _ ⟨t,du,_,_,x06,⟨rfl,hdu.up x6,near,by rw[Xam];omega,om,fun r hr=>⟨by have:=(hall' r hr).1;omega,Znl (hall' r hr).2.1⟩⟩,rfl⟩);refine⟨_,rfl,_,rfl,_,rfl,t,du,c,_,rfl,hdu.up x6,by rw[Xam];omega,om,fun r hr=>(hall' r hr).1,fun p2 H7 z at_ ha hz zl zv hdz x7=>?_⟩;obtain⟨du',hdu',hp2⟩:=hdz;dsimp only[Zbk];refine⟨_,rfl,p2,_,0,_,rfl,rfl,.inl (.inl hp2),Zan (j:=0) rfl,?_⟩;dsimp only[Zbk];refine⟨_,rfl,p2,_,1,_,rfl,rfl,.inl (.inl hp2),Zan (j:=1) rfl,?_⟩;have hz2:∀ r∈(Txt.split t "\n").take at_++z :: (Txt.split t "\n").drop at_,r.length<=100/\Zbt r:=fun r hr=>by
    rcases List.mem_append.mp hr with m | m
    . exact⟨(hall' r (List.mem_of_mem_take m)).1,(hall' r (List.mem_of_mem_take m)).2.1⟩
    . rcases List.mem_cons.mp m with rfl | m
      . exact⟨zl,zv⟩
      . exact⟨(hall' r (Xbs m)).1,(hall' r (Xbs m)).2.1⟩
   have ln2:((Txt.split t "\n").take at_++z :: (Txt.split t "\n").drop at_).length<=4:=by rw[Xay,Xav,Xax,Xbe];omega
   have es2:=Zgu fun r hr=>(hz2 r hr).2;rw[if_neg (by simp)] at es2;have jl2:=Zg8 _ fun r hr=>(hz2 r hr).1;refine hD' _ _ ⟨_,du',_,Zmc (goR D 0 (Txt.split t "\n") (Zbg es)) at_,fun b o e=>x7 _ _ (x06 _ _ e),⟨?_,hdu',?_,?_,?_,?_⟩,rfl⟩
   . rw[es2,Ztg (hz D) at_ _ 0 (Zbg es) (fun r hr=>(hall' r hr).2.2.ne) ha,Nat.zero_add]
   . intro kv e;unfold Zmc at e;split at e
     . split at e <;> cases e
     . cases e
   . rw[Zjl,Xam];omega
   . rw[es2];omega
   . rw[es2];exact fun r hr=>⟨by have:=(hz2 r hr).1;omega,Znl (hz2 r hr).2⟩
 rintro _ H2 ⟨t',du',bo,r,x2,tx,rfl⟩;have h2:=hR.ext x2;obtain⟨dx,ob⟩:=h2.kp.ob;have tld:=hR.sl.told;refine⟨_,rfl,x,dx,_,rfl,ob,rfl,_,rfl,S,x,f,aT,aL,aB,D,es,t',rfl,h2.kp,h2.sl,h2.cap.dn om,D16,om,tx.len,tx.sz,tx.row,fun kv e=>?_,?_⟩
 . rw[tx.go] at e;have:=tx.nr kv e;have l8:=this.len;exact⟨this.w,om⟩
 rw[tx.go];cases r with
 | inl n'=>
  obtain rfl:du' = .int (n':Int):=tx.due;intro H3 dd od k3 hd3 ro;refine⟨cR,dd,rfl,rfl,rfl,fun ea oe n0 ix co=>?_⟩;have k4:∀ b o,H3 b=some o->upd H3 ea (.frz oe (.own 0)) b=some o:=fun b o e=>by rw[Zaf (Zac e n0)];exact e
  have x4:∀ b o,H b=some o->upd H3 ea (.frz oe (.own 0)) b=some o:=fun b o e=>k4 _ _ (k3 _ _ (x2 _ _ e));have h4:=hR.ext x4;refine⟨_,rfl,_,_,_,_,rfl,.int _,X.ki,_,rfl,_,rfl,?_⟩;refine Zbz ?_;refine⟨_,rfl,ea,cR,dd,oe,od,(n':Int),rfl,Zaa,ix,X.xg,X.no,k4 _ _ hd3,ro,_,rfl,rfl,?_⟩;rw[Xah rfl];exact q _ es us (KeepL.up (.of (Gr.ext tld x4)) om) h4.kp h4.bk om hnr
 | inr kv=>
  obtain⟨bd,rfl,hbd⟩:=tx.due;have nr':=tx.nr _ rfl;have l8:=nr'.len;intro rws H3 srt K3 L3;have hls:∀ a∈[aT,aL,aB],∃ xs,H2 a=some (.lst xs):=fun a ha=>by
   obtain⟨_,h2',⟨wL,h3',_⟩,⟨ws',h5',_⟩,_,_,_,_⟩:=h2.kp;simp only[Xbd,Xa0,or_false] at ha;rcases ha with rfl | rfl | rfl
   . exact⟨_,h2'⟩
   . exact⟨_,h3'⟩
   . exact⟨_,h5'⟩
  have B3:=h2.bk.off L3 h2.sl.told hls nb;have bd3:=L3.oth h2.sl.told hls hbd (fun _ e=>nomatch e) (fun _ e=>nomatch e);have S3:=h2.sl.up L3.gn;have c3:=h2.cap.go L3.gn (b:=2600) om;refine⟨_,rfl,_,_,_,_,rfl,.dK bd3,X.kd,_,rfl,?_⟩;refine Zby ?_;refine⟨_,rfl,_,_,_,_,rfl,.int _,rfl,_,rfl,?_⟩;refine Zby ?_;refine⟨_,rfl,_,rfl,b,us,rfl,.inl (SqL.of B3.1),rfl,_,rfl,?_⟩;refine Zcl (fun z=>absurd z (by rw[lu];simp)) (fun _=>?_);have eo:Zwe D (t',kv,rws):=⟨nr'.w,by show kv.length<=8;omega,srt⟩
  have ct:Zgd D rws+1<=300:=Zj2 eo D16;refine⟨_,rfl,.inl ⟨rfl,_,SqL.of B3.1⟩,_,rfl,_,rfl,_,rfl,_,rfl,_,rfl,S,f,bd,D,kv,rws,rfl,bd3,S3,nr'.w,om,srt,D16,c3.dn om,fun v4 H4 g4 i4=>⟨sl3,fun pt npt=>?_⟩⟩;have g5:Gr S 0 H4 (upd H4 pt (.tup [.str t',.ref bd,v4])):=.new g4.gn.told2 npt;have hp5:upd H4 pt (.tup [.str t',.ref bd,v4]) pt=some (.tup [.str t',.ref bd,v4]):=Zaa;generalize upd H4 pt (.tup [.str t',.ref bd,v4])=H5 at g5 hp5;have g35:=(g4.up ct).trans g5;have B5:=B3.up g35;refine⟨b,_,_,rfl,rfl,B5.1,by rw[Xam];omega,?_⟩;have hb1:∀ a∈[b],∃ xs,H5 a=some (.lst xs):=fun a ha=>by rw[List.mem_singleton.mp ha];exact⟨_,B5.1⟩
  have t5:=g35.gn.told2;have L6:KeepL S 0 [b] H5 (upd H5 b (.lst (us++[.ref pt]))):=.chg t5 B5.1 (by simp);have ne1:aT≠b:=by rintro rfl;exact nb (by simp)
  have ne2:aL≠b:=by rintro rfl;exact nb (by simp)
  have ne3:aB≠b:=by rintro rfl;exact nb (by simp)
  have K6:=(K3.up g35).off L6 t5 hb1 (by simpa using ne1) (by simpa using ne2) (by simpa using ne3);have L06:KeepL S 2000 [aT,aL,aB,b] H (upd H5 b (.lst (us++[.ref pt]))):=by
   have s1:∀ a∈[aT,aL,aB],a∈[aT,aL,aB,b]:=fun a ha=>by simp only[Xbd,Xa0,or_false] at ha ⊢;rcases ha with h | h | h <;> simp[h]
   have s2:∀ a∈[b],a∈[aT,aL,aB,b]:=fun a ha=>by rw[List.mem_singleton.mp ha];simp
   exact(((KeepL.of (Gr.ext tld x2)).trans (L3.sub s1)).trans ((KeepL.of g35).trans (L6.sub s2))).up om
  refine q _ (es++[(t',kv,rws)]) (us++[.ref pt]) L06 K6 ⟨Zaa,?_⟩ (by rw[Xay];simp) (by rw[Znr];exact nr');refine Zdp (L2.Paired.imp2 (fun _ _ z=>z.off L6 t5 hb1) B5.2) (.cons (EnAt.off ⟨pt,bd,v4,rfl,hp5,?_,Zaz g5.gn i4⟩ L6 t5 hb1) .nil);exact g35.same bd3 (fun _ e=>nomatch e)
end
def Zul (K:W.Frag)(mg:Str->Option Value)(Pt:Addr):Sp:=fun vs H Q _=>∃ (a:Addr)(ns:List Int),vs=[.ref a]/\SqF K H a (ns.map V.int)/\ns.length<=63/\H Pt=some (.tbl #[])/\∀ H',Q (.bl true) H'
theorem Zqh {X:Cx}{C:Addr}{k:Nat}{ps:List Str}{sp:Sp}{d:V}{x:Str}{p pos:Pos}{e:Expr}{es:List Expr}{t:TA}(M:∃ fI,Mk X.K C fI)(F:MtD X.prog X.w X.K X.mg X.base C k "__init__" ps sp d)(hr:Room (k+1) X.A)(hg:Gl X x)(hm:X.mg x=some (.ref C))(ha:PA X (e :: es) t)
 (hdb:NDa x:=by decide)(he:PySem.starEach (e :: es) X.env=(false,PySem.eval e X.env) :: PySem.starEach es X.env:=by rfl)(hpl:(PySem.backTo pos (PySem.starEach es X.env)).any (·.1)=false:=by rfl):PE X (.Call (.Name x p) (e :: es) [] pos) (Zug C sp [d] E0 t):=by
 obtain⟨fI,M⟩:=M;obtain⟨f',fd,dv,hm',hb,hb2,r,G⟩:=F;have q:=M.init.symm.trans hm'.at_;cases q
 exact Zg4 M G hr hg hm hb2 (.cons r .nil) Zb6 ha hdb he hpl
theorem Zc5 {H:Hp}{x dx C p:Addr}(h:upd (upd H dx (.own x)) x (.ins C dx []) p=none):H p=none:=by
 cases z:H p with
 | none=>rfl
 | some o=>
  by_cases h1:p=x
  . subst h1;rw[Zaa] at h;cases h
  . rw[Zaf h1] at h;by_cases h2:p=dx
    . subst h2;rw[Zaa] at h;cases h
    . rw[Zaf h2,z] at h;cases h
theorem Zg2 {H H':Hp}{x dx C:Addr}(nx:H x=none)(ndx:H dx=none)(k:∀ b o,upd (upd H dx (.own x)) x (.ins C dx []) b=some o->b≠x->H' b=some o):∀ b o,H b=some o->H' b=some o:=fun b o h=>
 k b o (by rw[Zaf (Zac h nx),Zaf (Zac h ndx)];exact h) (Zac h nx)
structure Sd where
 x:Addr
 aT:Addr
 aL:Addr
 aB:Addr
 b:Addr
 es:List En
 us:List V
noncomputable abbrev Sd.ls (s:Sd):List Addr:=[s.aT,s.aL,s.aB,s.b]
section
open Tx
structure L11 (K:W.Frag)(mg:Str->Option Value)(C cT:Addr)(S:Sl)(a f aN aK aS:Addr)(ns ks:List Int)(D n:Nat)(sd:Nat->Sd)(H:Hp):Prop where
 sl:SealAt K mg Zbe S H f
 cap:Cap S H n
 sc:SqF K H a (ns.map V.int)
 nr:H aN=some (.lst (ks.map V.int))
 kl:H aK=some (.lst [.ref (sd 0).x,.ref (sd 1).x])
 bl:H aS=some (.lst [.ref (sd 0).b,.ref (sd 1).b])
 kp:∀ k,k<2->KgAt C cT S H (sd k).x f (sd k).aT (sd k).aL (sd k).aB D (sd k).es
 bk:∀ k,k<2->BkAt S H D (sd k).b (sd k).es (sd k).us
 ne:∀ k,k<2->Near ks D (Zbg (sd k).es)
 nb:∀ k,k<2->(sd k).b∉[(sd k).aT,(sd k).aL,(sd k).aB]
 ds:∀ j k,j<2->k<2->j≠k->∀ p∈(sd j).ls,p∉(sd k).ls
 fx:∀ k,k<2->aN∉(sd k).ls/\aK∉(sd k).ls/\aS∉(sd k).ls
variable {S:Sl}{a f aN aK aS:Addr}{ns ks:List Int}{D n:Nat}{sd:Nat->Sd}{H H':Hp}
theorem L11.go {m k:Nat}(h:L11 K mg C cT S a f aN aK aS ns ks D n sd H)(g:Gr S m H H')(hk:m+k<=n):L11 K mg C cT S a f aN aK aS ns ks D k sd H':=
 ⟨h.sl.up g.gn,h.cap.go g.gn hk,h.sc.up g.gn,g.lst h.nr,g.lst h.kl,g.lst h.bl,fun k hk=>(h.kp k hk).up g,fun k hk=>(h.bk k hk).up g,h.ne,h.nb,h.ds,h.fx⟩
theorem L11.ext (h:L11 K mg C cT S a f aN aK aS ns ks D n sd H)(k:∀ b o,H b=some o->H' b=some o):L11 K mg C cT S a f aN aK aS ns ks D n sd H':=h.go (Gr.ext h.sl.told k) om
theorem L11.lists (h:L11 K mg C cT S a f aN aK aS ns ks D n sd H){k:Nat}(hk:k<2):∀ p∈(sd k).ls,∃ xs,H p=some (.lst xs):=fun p hp=>by
 obtain⟨_,h2,⟨wL,h3,_⟩,⟨ws,h5,_⟩,_,_,_,_⟩:=h.kp k hk;simp only[Xbd,Xa0,or_false] at hp;rcases hp with rfl | rfl | rfl | rfl
 . exact⟨_,h2⟩
 . exact⟨_,h3⟩
 . exact⟨_,h5⟩
 . exact⟨_,(h.bk k hk).1⟩
theorem L11.rt (h:L11 K mg C cT S a f aN aK aS ns ks D n sd H){k m:Nat}(hk:k<2)(hm:m<=n):Rt K mg C cT S f (sd k).x (sd k).aT (sd k).aL (sd k).aB (sd k).b aN D (sd k).es (sd k).us ks m H:=
 ⟨h.sl,h.cap.dn hm,h.kp k hk,h.bk k hk,h.nr⟩
noncomputable def Zf9 (sd:Nat->Sd) (k:Nat) (es:List En) (us:List V):Nat->Sd:=fun j=>if j=k then { sd k with es:=es,us:=us } else sd j
theorem Zia {k:Nat}{es:List En}{us:List V}:Zf9 sd k es us k={ sd k with es:=es,us:=us }:=if_pos rfl
theorem Zgq {j k:Nat}{es:List En}{us:List V}(h:j≠k):Zf9 sd k es us j=sd j:=if_neg h
theorem Zeh (sd:Nat->Sd)(k:Nat)(es:List En)(us:List V)(j:Nat):(Zf9 sd k es us j).ls=(sd j).ls/\(Zf9 sd k es us j).x=(sd j).x/\(Zf9 sd k es us j).b=(sd j).b/\(Zf9 sd k es us j).aT=(sd j).aT/\(Zf9 sd k es us j).aL=(sd j).aL/\(Zf9 sd k es us j).aB=(sd j).aB:=by
 by_cases h:j=k
 . subst h;rw[Zia];exact⟨rfl,rfl,rfl,rfl,rfl,rfl⟩
 . rw[Zgq h];exact⟨rfl,rfl,rfl,rfl,rfl,rfl⟩
theorem L11.put {k m:Nat}{es:List En}{us:List V}(h:L11 K mg C cT S a f aN aK aS ns ks D n sd H)(hk:k<2)(L:KeepL S 2000 (sd k).ls H H')(K4:KgAt C cT S H' (sd k).x f (sd k).aT (sd k).aL (sd k).aB D es)(B4:BkAt S H' D (sd k).b es us)(N4:Near ks D (Zbg es))(hm:2000+m<=n) :
 L11 K mg C cT S a f aN aK aS ns ks D m (Zf9 sd k es us) H':=by
 have tld:=h.sl.told;have hls:=h.lists hk;obtain⟨f1,f2,f3⟩:=h.fx k hk;refine⟨h.sl.up L.gn,h.cap.go L.gn hm,h.sc.up L.gn,L.lst tld h.nr f1,?_,?_,fun j hj=>?_,fun j hj=>?_,fun j hj=>?_,fun j hj=>?_,fun i j hi hj hij p hp=>?_,fun j hj=>?_⟩
 . rw[(Zeh sd k es us 0).2.1,(Zeh sd k es us 1).2.1];exact L.lst tld h.kl f2
 . rw[(Zeh sd k es us 0).2.2.1,(Zeh sd k es us 1).2.2.1];exact L.lst tld h.bl f3
 . by_cases e:j=k
   . subst e;rw[Zia];exact K4
   . rw[Zgq e];have d:=h.ds j k hj hk e;exact(h.kp j hj).off L tld hls (d _ (by simp)) (d _ (by simp)) (d _ (by simp))
 . by_cases e:j=k
   . subst e;rw[Zia];exact B4
   . rw[Zgq e];have d:=h.ds j k hj hk e;exact(h.bk j hj).off L tld hls (d _ (by simp))
 . by_cases e:j=k
   . subst e;rw[Zia];exact N4
   . rw[Zgq e];exact h.ne j hj
 . obtain⟨_,_,e1,e2,e3,e4⟩:=Zeh sd k es us j;rw[e1,e2,e3,e4];exact h.nb j hj
 . rw[(Zeh sd k es us i).1] at hp;rw[(Zeh sd k es us j).1];exact h.ds i j hi hj hij p hp
 . rw[(Zeh sd k es us j).1];exact h.fx j hj
theorem MdAt.ext {mp l:Addr}{ac:List Str}{ws:List V}(h:MdAt H D ks mp l ac ws)(k:∀ b o,H b=some o->H' b=some o):MdAt H' D ks mp l ac ws:=⟨k _ _ h.p,k _ _ h.l,Znu h.o k,h.n,h.r⟩
theorem MdAt.gr {mp l:Addr}{ac:List Str}{ws:List V}{m:Nat}(h:MdAt H D ks mp l ac ws)(g:Gr S m H H'):MdAt H' D ks mp l ac ws:=
 ⟨g.same h.p (fun _ e=>nomatch e),g.lst h.l,L2.Paired.imp2 (fun e x z=>OpAt.up z fun p' xs y=>g.same y (fun _ e=>nomatch e)) h.o,h.n,h.r⟩
theorem MdAt.off {mp l:Addr}{ac:List Str}{ws:List V}{m:Nat}{L:List Addr}(h:MdAt H D ks mp l ac ws)(k:KeepL S m L H H')(t:Zgn S H)(hl:∀ a∈L,∃ xs,H a=some (.lst xs))(nl:l∉L):MdAt H' D ks mp l ac ws:=
 ⟨k.oth t hl h.p (fun _ e=>nomatch e) (fun _ e=>nomatch e),k.lst t h.l nl,L2.Paired.imp2 (fun e x z=>OpAt.up z fun p' xs y=>k.oth t hl y (fun _ e=>nomatch e) (fun _ e=>nomatch e)) h.o,h.n,h.r⟩
noncomputable abbrev nL:List Str:=["_law_script","_law_seal","_law_depth","_law_near","_law_keepers","_law_books","_law_at","_law_cell","_law_made","_law_k"]
theorem scL:Zak nL ["_law_script"] (Zad Zti):=Zb2
noncomputable abbrev l11 (a f:Addr) (D:Nat) (aN aK aS:Addr) (o6 o7 o8 o9:Option V):St:=[some (.ref a),some (.ref f),some (.int (D:Int)),some (.ref aN),some (.ref aK),some (.ref aS),o6,o7,o8,o9]
theorem two_at {u v:V}{g:Nat->V}(h0:u=g 0)(h1:v=g 1){k:Nat}(hk:k<2):atI [u,v] ((k:Nat):Int)=some (g k):=by
 obtain rfl | rfl:k=0\/k=1:=by omega
 . rw[h0];exact Zan (j:=0) rfl
 . rw[h1];exact Zan (j:=1) rfl
theorem Zos:Zbn "put 255 a" 8=some (some (.put 255 "a")):=by kernel_rfl
theorem Zev:Txt.split "put 255 a" "\n" = [("put 255 a" : Str)]:=by decide +kernel
theorem law_c {f0:Addr}{ad:Value}{A:Around}{outer:List Env}{s:Shared}{H0:Hp}{E:XK}{Q:VK}(hr:Room 99 (A.deeper (PyProof.Rows.envOfC "law" (Zad Zti) s.heap.objs.size f0 ad)))
 (TK:TxK K mg C)(MK:∃ fI,Mk K C fI)(Mki:MtD P w K mg base C 3 "__init__" ["self","seal","depth"] (spKI C cT) (.int 8))(Ma:Zva P w K mg base C 21 "add" ["self","text"] (Zqt K mg C cT cR))
 (Fd:FnP P w K mg base 1 "_law_draw" ["_law_cell","_law_k","_law_many"] Zez)(Ftx:FnP P w K mg base 3 "_law_text" ["_law_cell","_law_depth","_law_near"] (Zn0 K))(Fad:FnP P w K mg base 22 "_law_added" ["_law_seal","_law_keeper","_law_book","_law_made","_law_depth","_law_cell"] (spAd K mg C cT))(Frt:FnP P w K mg base 24 "_law_right" ["_law_seal","_law_keeper","_law_book","_law_depth","_law_cell","_law_near"] (spRi K mg C cT))
 (ml:mg "len" = none)(mr:mg "range" = none)(mm:mg "min" = none)(q:∀ H',Q (.bl true) H') :
 ∃ t,PSs (Zc1 CX0 P w K mg base nL "law" (Zad Zti) f0 ad A outer s H0 E).nox ((Zaq Zti).drop 5) t/\
  ∀ (S:Sl) (a f aN aK aS:Addr) (ns ks:List Int) (D:Nat) (sd:Nat->Sd) (H:Hp),L11 K mg C cT S a f aN aK aS ns ks D 9000000 sd H->ns.length<=63->ks.length=4->(∀ k∈ks,Of k D)->1<=D->D<=16->(∀ k,k<2->(sd k).es=[])->
   t { nx:=fun _ H'=>Q .non H',rt:=Q } (l11 a f D aN aK aS none none none none) H:=by
 have nd:=scL.nd;have hr24:Room 24 (A.deeper (PyProof.Rows.envOfC "law" (Zad Zti) s.heap.objs.size f0 ad)):=hr.mono om;refine⟨_,Zab (Zgs PassesOwn.never rfl (Zc2 rfl mr (pa1 (Zai (Zp4 rfl) rfl mm PyProof.Rows.boot_min (pa2 (Zai Zah rfl ml boot_len (pa1 (pv 0))) Zae)))) (Zd3 (i:=6) nd rfl (Or.inl rfl)) <|
  Zab (Zao (i:=7) nd rfl (Or.inl rfl) (Zas Zcv (Zaw Zax (pv 0) (pv 6) (fun _ _=>rfl)) (Zas Zfi Zae (pv 6)))) <|
  Zab (Zao (i:=8) nd rfl (Or.inl rfl) (Zag Ftx hr.m rfl (pa3 (pv 7) (pv 2) (pv 3)))) <|
  Zar (Zgs PassesOwn.never rfl (Zc2 rfl mr (pa1 Zae)) (Zd3 (i:=9) nd rfl (Or.inl rfl)) <|
   Zab (Zat (Zaj Zmo (Zag Fd hr.m rfl (pa3 (pv 7) (Zas Zcv Zae (pv 9)) Zae)) Zae (Zam _))
    (Zar (Zat (Zcu (Zcg (Zag Fad hr.m rfl (Zbr (pv 1) (Zbr (Zaw Zax (pv 4) (pv 9) (fun _ _=>rfl)) (pa4 (Zaw Zax (pv 5) (pv 9) (fun _ _=>rfl)) (pv 8) (pv 2) (pv 7))))))) (psr Zi7) Zal)) Zal) <|
   Zar (Zat (Zcu (Zcg (Zag Frt hr24 rfl (Zbr (pv 1) (Zbr (Zaw Zax (pv 4) (pv 9) (fun _ _=>rfl)) (pa4 (Zaw Zax (pv 5) (pv 9) (fun _ _=>rfl)) (pv 2) (Zas Zcv (pv 7) (pv 9)) (pv 3))))))) (psr Zi7) Zal))) <|
  psr (Zkr (Zag Frt hr24 rfl (Zbr (pv 1) (Zbr (Zaw Zax (pv 4) Zae (fun _ _=>rfl)) (pa4 (Zaw Zax (pv 5) Zae (fun _ _=>rfl)) (pv 2) Zae (pv 3))))) (Zk9 (Zfn Za2 (Zrq Ma (Zqh MK Mki hr.m rfl TK.mgC (pa1 (pv 1))) TK.cl hr.m Zw7 (pa1 Zav)) Zae (Zam _)))),?_⟩
 intro S a f aN aK aS ns ks D sd H h h63 k4 hks D1 D16 hes;refine⟨_,rfl,a,_,rfl,.inl h.sc.sq,_,_,rfl,?_⟩;rw[Xad,show(if (20:Int)<(ns.length:Int) then(20:Int) else(ns.length:Int))=((min 20 ns.length:Nat):Int) by split <;> omega];refine⟨_,rfl,om,om,?_⟩;rw[show(((min 20 ns.length:Nat):Int)).toNat=min 20 ns.length from rfl];refine Zec (n:=min 20 ns.length) (fun i σ H'=>∃ (sd:Nat->Sd) (o6 o7 o8 o9:Option V),L11 K mg C cT S a f aN aK aS ns ks D (9000000 - 200000 * i) sd H'/\(∀ k,k<2->(sd k).es.length<=i)/\σ=l11 a f D aN aK aS o6 o7 o8 o9)
  ⟨sd,none,none,none,none,h,fun k hk=>by rw[hes k hk];exact Xae _,rfl⟩ ?_ ?_
 . rintro i σ H1 hi ⟨sd,o6,o7,o8,o9,h,len,rfl⟩;have e0:(0:Int)+(i:Int)=(i:Int):=by omega
   have hin:i<ns.length:=by omega
   have eat:atI (ns.map V.int) ((i:Nat):Int)=some (.int ns[i]):=Zan (by rw[Xas,Xab hin];rfl);dsimp only[Zbk];refine⟨_,rfl,_,rfl,a,_,_,_,rfl,rfl,h.sc.sq,by rw[e0];exact eat,_,rfl,_,_,rfl,rfl,.inl ⟨by decide,om⟩,_,_,rfl,rfl,?_⟩;dsimp only[Zbk];generalize ns[i]+977 * (0+(i:Int))=cell;refine⟨_,rfl,_,rfl,_,rfl,cell,D,aN,ks,rfl,h.nr,om,hks,D1,D16,fun mp l H2 ac ws hp hl pr rl hall nl x2=>?_⟩;have h2:=h.ext x2;have M2:MdAt H2 D ks mp l ac ws:=⟨hp,hl,pr,rl,hall⟩
   have nls:∀ k,k<2->l∉(sd k).ls:=fun k hk z=>by
    obtain⟨xs,e⟩:=h.lists hk l z;rw[nl] at e;cases e
   dsimp only[Zbk];refine⟨2,rfl,om,om,?_⟩;refine Zec (n:=2) (fun k σ H'=>∃ (sd:Nat->Sd) (o9:Option V),L11 K mg C cT S a f aN aK aS ns ks D (9000000 - 200000 * i - 100000 * k) sd H'/\MdAt H' D ks mp l ac ws/\(∀ k,k<2->l∉(sd k).ls)/\(∀ j,j<2->(sd j).es.length<=i+1)/\(∀ j,j<2->k<=j->(sd j).es.length<=i)/\σ=l11 a f D aN aK aS (some (.int (0+(i:Int)))) (some (.int cell)) (some (.ref mp)) o9)
    ⟨sd,o9,h2,M2,nls,fun j hj=>Nat.le_succ_of_le (len j hj),fun j hj _=>len j hj,rfl⟩ ?_ ?_
   . rintro k σ H3 hk ⟨sd,o9,h,M,nls,len1,len2,rfl⟩;have e0k:(0:Int)+(k:Int)=(k:Int):=by omega
     dsimp only[Zbk];rw[e0k];have atK:∀ {sd:Nat->Sd},atI [V.ref (sd 0).x,V.ref (sd 1).x] ((k:Nat):Int)=some (V.ref (sd k).x):=fun {sd}=>two_at (g:=fun j=>.ref (sd j).x) rfl rfl hk;have atS:∀ {sd:Nat->Sd},atI [V.ref (sd 0).b,V.ref (sd 1).b] ((k:Nat):Int)=some (V.ref (sd k).b):=fun {sd}=>two_at (g:=fun j=>.ref (sd j).b) rfl rfl hk;refine Zqi (fun σ H4=>∃ (sd:Nat->Sd),L11 K mg C cT S a f aN aK aS ns ks D (9000000 - 200000 * i - 100000 * k - 2000) sd H4/\MdAt H4 D ks mp l ac ws/\(∀ k,k<2->l∉(sd k).ls)/\(∀ j,j<2->(sd j).es.length<=i+1)/\(∀ j,j<2->k+1<=j->(sd j).es.length<=i)/\σ=l11 a f D aN aK aS (some (.int (0+(i:Int)))) (some (.int cell)) (some (.ref mp)) (some (.int (k:Int)))) (fun D' hD'=>?_) ?_
     . refine⟨_,rfl,_,rfl,_,_,rfl,rfl,cell,_,3,rfl,(by show(0:Int)<=8+(k:Int);omega),om,fun v H4 _ _ x4=>⟨_,_,rfl,rfl,_,rfl,?_⟩⟩;have x4:∀ b o,H3 b=some o->H4 b=some o:=x4;have h4:=h.ext x4;have M4:=M.ext x4;refine Zcl (fun _=>?_) (fun _=>hD' _ _ ⟨sd,h4.go (.refl h4.sl.told) om,M4,nls,len1,fun j hj hkj=>len2 j hj om,rfl⟩);refine⟨_,rfl,_,rfl,_,rfl,aK,_,_,_,rfl,rfl,SqL.of h4.kl,atK,_,rfl,_,rfl,aS,_,_,_,rfl,rfl,SqL.of h4.bl,atS,_,rfl,_,rfl,_,rfl,S,f,(sd k).x,(sd k).aT,(sd k).aL,(sd k).aB,(sd k).b,aN,mp,l,D,(sd k).es,(sd k).us,ks,cell,ac,ws,rfl,h4.rt hk om,by have:=len2 k hk (Xae _);omega,k4,h4.ne k hk,D16,h4.nb k hk,M4,fun H5 es' us' L5 K5 B5 l5 N5=>⟨_,rfl,Zby ?_⟩⟩;refine hD' _ _ ⟨Zf9 sd k es' us',h4.put hk L5 K5 B5 N5 om,M4.off L5 h4.sl.told (h4.lists hk) (nls k hk),fun j hj=>by rw[(Zeh sd k es' us' j).1];exact nls j hj,fun j hj=>?_,fun j hj hkj=>?_,rfl⟩
       . by_cases e:j=k
         . subst e;rw[Zia];have:=len2 j hj (Xae _);show es'.length<=_;omega
         . rw[Zgq e];exact len1 j hj
       . rw[Zgq om];exact len2 j hj om
     rintro _ H4 ⟨sd,h,M,nls,len1,len2,rfl⟩;refine⟨_,rfl,_,rfl,_,rfl,aK,_,_,_,rfl,rfl,SqL.of h.kl,atK,_,rfl,_,rfl,aS,_,_,_,rfl,rfl,SqL.of h.bl,atS,_,rfl,_,rfl,_,rfl,_,_,rfl,rfl,_,rfl,S,f,(sd k).x,(sd k).aT,(sd k).aL,(sd k).aB,(sd k).b,aN,D,(sd k).es,(sd k).us,ks,_,rfl,h.rt hk om,by have:=len1 k hk;omega,om,D16,fun H5 g5=>⟨_,rfl,Zby ?_⟩⟩;exact⟨sd,_,h.go g5 om,M.gr g5,nls,len1,len2,rfl⟩
   . rintro σ H3 ⟨sd,o9,h,M,nls,len1,len2,rfl⟩;exact⟨sd,_,_,_,_,h.go (.refl h.sl.told) om,len1,rfl⟩
 . rintro σ H1 ⟨sd,o6,o7,o8,o9,h,len,rfl⟩;have hi20:min 20 ns.length<=20:=Nat.min_le_left _ _;refine⟨_,rfl,_,rfl,aK,_,_,_,rfl,rfl,SqL.of h.kl,two_at (g:=fun j=>.ref (sd j).x) (k:=0) rfl rfl om,_,rfl,aS,_,_,_,rfl,rfl,SqL.of h.bl,two_at (g:=fun j=>.ref (sd j).b) (k:=0) rfl rfl om,_,rfl,_,rfl,S,f,(sd 0).x,(sd 0).aT,(sd 0).aL,(sd 0).aB,(sd 0).b,aN,D,(sd 0).es,(sd 0).us,ks,5,rfl,h.rt om om,by have:=len 0 om;omega,om,D16,fun H2 g2=>⟨_,rfl,Zbz ?_⟩⟩;have h2:=h.go (k:=1000) g2 om;refine⟨_,rfl,fun y0 d0 ny0 nd0 ne0=>⟨S,y0,d0,f,8,rfl,?_,Zaa,fun p1 p2 p3 H3 K3 k3 f1 f2 f3=>⟨rfl,?_⟩⟩⟩
   . have g1:Gr S 0 H2 (upd H2 d0 (.own y0)):=.new h2.sl.told nd0;exact(g1.trans (.new g1.gn.told2 (by rw[Zaf ne0.symm];exact ny0))).gn.told2
   have h3:=h2.ext (Zg2 ny0 nd0 k3);obtain⟨dy,oy⟩:=K3.ob;have go:goR 8 0 (Txt.split "put 255 a" "\n") (Zbg []) = .inr [(.inl 255,.str "a")]:=by
    rw[Zev,Zdf,Zos];rfl
   refine⟨y0,dy,_,rfl,oy,rfl,S,y0,f,p1,p2,p3,8,[],"put 255 a",rfl,K3,h3.sl,h3.cap.dn om,om,by simp,om,by rw[Zev];decide,by rw[Zev];decide +kernel,fun kv e=>?_,?_⟩
   . rw[go] at e;cases e;exact⟨Rws.put (D:=8) (i:=255) .nil (by decide) (by decide) "a",om⟩
   . rw[go];intro rws H4 _ _ _;exact⟨rfl,q H4⟩
end
theorem Zs7 {p a b c d:Addr}(h:p∈[a,b,c,d]):p∈[a,b,c]\/p=d:=by
 simp only[Xbd,Xa0,or_false] at h;rcases h with h | h | h | h
 . exact .inl (by simp[h])
 . exact .inl (by simp[h])
 . exact .inl (by simp[h])
 . exact .inr h
section
open Tx
theorem Zxt {Pt:Addr}(F:FunAt K mg "law" Zti)(TK:TxK K mg C)(MK:∃ fI,Mk K C fI)(Mki:MtD P w K mg base C 3 "__init__" ["self","seal","depth"] (spKI C cT) (.int 8))(Ma:Zva P w K mg base C 21 "add" ["self","text"] (Zqt K mg C cT cR))
 (Fsb:FnP P w K mg base 2 "_law_seal_by" ["_law_script"] (Zkm K mg Pt))(Fc:FnP P w K mg base 1 "_law_cell_at" ["_law_script","_law_k"] (Zps K))
 (Fd:FnP P w K mg base 1 "_law_draw" ["_law_cell","_law_k","_law_many"] Zez)(Ftx:FnP P w K mg base 3 "_law_text" ["_law_cell","_law_depth","_law_near"] (Zn0 K))(Fad:FnP P w K mg base 22 "_law_added" ["_law_seal","_law_keeper","_law_book","_law_made","_law_depth","_law_cell"] (spAd K mg C cT))(Frt:FnP P w K mg base 24 "_law_right" ["_law_seal","_law_keeper","_law_book","_law_depth","_law_cell","_law_near"] (spRi K mg C cT))
 (ml:mg "len" = none)(mr:mg "range" = none)(mm:mg "min" = none):FnP P w K mg base 100 "law" ["_law_script"] (Zul K mg Pt):=by
 refine F.ok scL (fun _ _ _ _ _ _=>l1e fun _=>rfl) (fun vs H Q E h=>?_) (fun f0 ad A outer s H vs Q E hr h=>?_)
 . obtain⟨a,ns,rfl,_⟩:=h;rfl
 obtain⟨a,ns,rfl,hq,h63,hP,q⟩:=h;have nd:=scL.nd;have hu:=Zjz hr;obtain⟨tt,htt,rtt⟩:=law_c (outer:=outer) (H0:=H) (E:=E) (Q:=Q) hr TK MK Mki Ma Fd Ftx Fad Frt ml mr mm q;refine' ⟨_,Zab (Zao (i:=1) nd rfl (Or.inl rfl) (Zag Fsb hr.m rfl (pa1 (pv 0)))) <|
  Zab (Zao (i:=2) nd rfl (Or.inr rfl) (Zas Zcv Zae (Zas Zc4 (Zag Fc hr.m rfl (pa2 (pv 0) Zae)) Zae))) <|
  Zab (Zcj (iz:=3) (ys:=["_law_script","_law_depth"]) (js:=[0,2]) ?ok (Zc2 rfl mr (pa1 Zae)) (fun _ _ _=>Zd2) ?he nd rfl (Or.inl rfl) (Or.inl rfl) rfl) <|
  Zab (Zao (i:=4) nd rfl (Or.inl rfl) (Zau (pa2 (Zkd MK Mki.full hr.m rfl TK.mgC (pa2 (pv 1) (pv 2))) (Zkd MK Mki.full hr.m rfl TK.mgC (pa2 (pv 1) (pv 2)))))) <|
  Zab (Zao (i:=5) nd rfl (Or.inl rfl) (Zau (pa2 (Zau Zbl) (Zau Zbl)))) <|
  htt,?rd⟩
 case ok=>
  refine⟨rfl,rfl,rfl,by decide +kernel,by decide +kernel,rfl,by decide +kernel,Zfq (fun p hp=>?_),rfl,fun i y h=>?_,rfl⟩
  . simp only[Xbd,Xa0,or_false] at hp;rcases hp with rfl | rfl <;> rfl
  . match i,h with
    | 0,h=>simp at h;subst h;exact⟨0,rfl,rfl,rfl,rfl⟩
    | 1,h=>simp at h;subst h;exact⟨2,rfl,rfl,rfl,rfl⟩
    | i+2,h=>simp at h
 case he=>
  exact fun _ _ _=>Zag Fd hr.m rfl (pa3 (Zas Zcv (Zag Fc hr.m rfl (pa2 (pv 1) Zae)) (pv 0)) Zae (Zas Zgg Zae (pv 2)))
 case rd=>
 refine⟨_,rfl,a,ns,rfl,hq.sq,hP,fun S f H1 hS hc hk1=>?_⟩;have hq1:SqF K H1 a (ns.map V.int):=by
  rcases hq with⟨o,h⟩ | h
  . exact .inl ⟨o,hk1 _ _ h (by rintro rfl;rw[hP] at h;cases h)⟩
  . exact .inr h
 refine⟨_,rfl,a,ns,0,rfl,hq1.sq,om,fun v0=>⟨_,_,rfl,rfl,(by show(0:Int)<16;decide),_,_,rfl,rfl,?_⟩⟩;obtain⟨D,eD,D1,D16⟩:∃ D:Nat,(1:Int)+v0 % 16=(D:Int)/\1<=D/\D<=16:=⟨(1+v0 % 16).toNat,om,om,om⟩
 dsimp only[Zbk];rw[eD];have e2D:(1:Int) * 2 ^ ((D:Int)).toNat=2 ^ D:=by rw[Int.one_mul,Int.toNat_natCast]
 have p2D:(0:Int)<2 ^ D:=by
  have:((2 ^ D:Nat):Int)=(2:Int) ^ D:=by norm_cast
  have h1:=Nat.one_le_two_pow (n:=D);omega
 refine⟨4,rfl,om,om,?_⟩;refine Zgi (n:=4) (fun Da i ys H'=>(∀ b o,H1 b=some o->H' b=some o)/\H' Da=some (.lst ys)/\∃ ks:List Int,ys=ks.map V.int/\ks.length=i/\∀ k∈ks,Of k D) (fun Da hD=>⟨fun b o e=>by rw[Zaf (Zac e hD)];exact e,Zaa,[],rfl,rfl,by simp⟩) ?_ ?_
 . rintro Da i ys H' Qb hD hi ⟨kp,hDa,ks,rfl,kl,hks⟩ hQ;have hq':SqF K H' a (ns.map V.int):=by
    rcases hq1 with⟨o,h⟩ | h
    . exact .inl ⟨o,kp _ _ h⟩
    . exact .inr h
   refine⟨_,rfl,a,ns,1,rfl,hq'.sq,om,fun v1=>⟨_,rfl,_,_,rfl,rfl,_,rfl,_,_,rfl,rfl,⟨om,om,om⟩,?_⟩⟩;dsimp only;rw[e2D];refine⟨_,5,_,rfl,om,p2D,fun v2 H2 a2 b2 x2=>hQ _ _ (x2 _ _ hDa) (by rw[Xad,Xam];omega) ⟨fun b o e=>?_,Zaa,ks++[v2],by rw[Xbk];rfl,by rw[Xay,kl];rfl,fun k hk=>?_⟩⟩
   . rw[Zaf (Zac e hD)];exact x2 _ _ (kp _ _ e)
   . rcases List.mem_append.mp hk with z | z
     . exact hks k z
     . rw[List.mem_singleton.mp z];exact⟨a2,b2⟩
 rintro aN ys H2 nN ⟨k2,hN2,ks,rfl,kl,hks⟩;dsimp only[Zbk];have g2:Gr S 0 H1 H2:=.ext hS.told k2;refine⟨_,rfl,_,rfl,fun y0 d0 ny0 nd0 ne0=>⟨S,y0,d0,f,D,rfl,?_,Zaa,fun p1 p2 p3 H3 K3 k3 f1 f2 f3=>⟨rfl,?_⟩⟩⟩
 . have g1:Gr S 0 H2 (upd H2 d0 (.own y0)):=.new g2.gn.told2 nd0;exact(g1.trans (.new g1.gn.told2 (by rw[Zaf ne0.symm];exact ny0))).gn.told2
 have x3:=Zg2 ny0 nd0 k3;have g3:Gr S 0 H2 H3:=.ext g2.gn.told2 x3;have e1:=Zc5 f1;have e2:=Zc5 f2;have e3:=Zc5 f3
 refine⟨_,rfl,_,rfl,fun y1 d1 ny1 nd1 ne1=>⟨S,y1,d1,f,D,rfl,?_,Zaa,fun q1 q2 q3 H4 K4 k4 m1 m2 m3=>⟨rfl,?_⟩⟩⟩
 . have g1:Gr S 0 H3 (upd H3 d1 (.own y1)):=.new g3.gn.told2 nd1;exact(g1.trans (.new g1.gn.told2 (by rw[Zaf ne1.symm];exact ny1))).gn.told2
 have x4:=Zg2 ny1 nd1 k4;have g4:Gr S 0 H3 H4:=.ext g3.gn.told2 x4;have j1:=Zc5 m1;have j2:=Zc5 m2;have j3:=Zc5 m3
 refine⟨sl2,fun aK nK=>?_⟩;have g5:Gr S 0 H4 (upd H4 aK (.lst [.ref y0,.ref y1])):=.new g4.gn.told2 nK;have hK5:upd H4 aK (.lst [.ref y0,.ref y1]) aK=some (.lst [.ref y0,.ref y1]):=Zaa;have x5:∀ b o,H4 b=some o->upd H4 aK (.lst [.ref y0,.ref y1]) b=some o:=fun b o e=>by rw[Zaf (Zac e nK)];exact e
 generalize upd H4 aK (.lst [.ref y0,.ref y1])=H5 at g5 hK5 x5;dsimp only[Zbk];refine⟨sl0,fun b0 nb0=>⟨sl0,fun b1 nb1=>⟨sl2,fun aS nS=>?_⟩⟩⟩;have g6:Gr S 0 H5 (upd H5 b0 (.lst [])):=.new g5.gn.told2 nb0;have hb6:upd H5 b0 (.lst []) b0=some (.lst []):=Zaa;have g7:Gr S 0 (upd H5 b0 (.lst [])) (upd (upd H5 b0 (.lst [])) b1 (.lst [])):=.new g6.gn.told2 nb1;have hb7:upd (upd H5 b0 (.lst [])) b1 (.lst []) b1=some (.lst []):=Zaa;generalize upd (upd H5 b0 (.lst [])) b1 (.lst [])=H7 at g7 hb7 nS;generalize upd H5 b0 (.lst [])=H6 at g6 hb6 nb1 g7;have g8:Gr S 0 H7 (upd H7 aS (.lst [.ref b0,.ref b1])):=.new g7.gn.told2 nS;have hS8:upd H7 aS (.lst [.ref b0,.ref b1]) aS=some (.lst [.ref b0,.ref b1]):=Zaa;generalize upd H7 aS (.lst [.ref b0,.ref b1])=H8 at g8 hS8;have g48:Gr S 0 H4 H8:=g5.trans (g6.trans (g7.trans g8));have g38:Gr S 0 H3 H8:=g4.trans g48;have g18:Gr S 0 H1 H8:=g2.trans (g3.trans g38);obtain⟨wL3,kL3,_⟩:=K3.lv;obtain⟨wB3,kB3,_⟩:=K3.tb;obtain⟨wL4,kL4,_⟩:=K4.lv;obtain⟨wB4,kB4,_⟩:=K4.tb;have kT3:=K3.tx;have kT4:=K4.tx;have l3:∀ p∈[p1,p2,p3],∃ xs,H3 p=some (.lst xs):=fun p hp=>by
  simp only[Xbd,Xa0,or_false] at hp;rcases hp with rfl | rfl | rfl
  . exact⟨_,kT3⟩
  . exact⟨_,kL3⟩
  . exact⟨_,kB3⟩
 have l4:∀ p∈[q1,q2,q3],∃ xs,H4 p=some (.lst xs):=fun p hp=>by
  simp only[Xbd,Xa0,or_false] at hp;rcases hp with rfl | rfl | rfl
  . exact⟨_,kT4⟩
  . exact⟨_,kL4⟩
  . exact⟨_,kB4⟩
 have n2:∀ p∈[p1,p2,p3],H2 p=none:=fun p hp=>by
  simp only[Xbd,Xa0,or_false] at hp;rcases hp with rfl | rfl | rfl <;> assumption
 have n3:∀ p∈[q1,q2,q3],H3 p=none:=fun p hp=>by
  simp only[Xbd,Xa0,or_false] at hp;rcases hp with rfl | rfl | rfl <;> assumption
 have dif:∀ {p q:Addr}{Ha:Hp}{o:HO},Ha p=some o->Ha q=none->p≠q:=fun h1 h2=>Zac h1 h2;have lo5:∀ p∈[p1,p2,p3],∃ xs,H5 p=some (.lst xs):=fun p hp=>by obtain⟨xs,e⟩:=l3 p hp;exact⟨xs,x5 _ _ (x4 _ _ e)⟩
 have hi5:∀ p∈[q1,q2,q3],∃ xs,H5 p=some (.lst xs):=fun p hp=>by obtain⟨xs,e⟩:=l4 p hp;exact⟨xs,x5 _ _ e⟩
 have hN5:=x5 _ _ (x4 _ _ (x3 _ _ hN2));have nN0:aN≠b0:=dif hN5 nb0;have nN1:aN≠b1:=dif (g6.lst hN5) nb1;have nK0:aK≠b0:=dif hK5 nb0;have nK1:aK≠b1:=dif (g6.lst hK5) nb1;have n01:b0≠b1:=dif hb6 nb1;have nS0:b0≠aS:=dif (g7.lst hb6) nS;have nS1:b1≠aS:=dif hb7 nS;have lo0:∀ p∈[p1,p2,p3],p≠b0/\p≠b1/\p≠aS/\p≠aN/\p≠aK:=fun p hp=>by
  obtain⟨xs,e⟩:=lo5 p hp;refine⟨dif e nb0,dif (g6.lst e) nb1,dif (g7.lst (g6.lst e)) nS,fun z=>?_,fun z=>?_⟩
  . have:=n2 p hp;rw[z,hN2] at this;cases this
  . obtain⟨xs,e⟩:=l3 p hp;exact dif (x4 _ _ e) nK z
 have hi0:∀ p∈[q1,q2,q3],p≠b0/\p≠b1/\p≠aS/\p≠aN/\p≠aK:=fun p hp=>by
  obtain⟨xs,e⟩:=hi5 p hp;refine⟨dif e nb0,dif (g6.lst e) nb1,dif (g7.lst (g6.lst e)) nS,fun z=>?_,fun z=>?_⟩
  . have:=n3 p hp;rw[z,x3 _ _ hN2] at this;cases this
  . obtain⟨xs,e⟩:=l4 p hp;exact dif e nK z
 have lohi:∀ p∈[p1,p2,p3],∀ r∈[q1,q2,q3],p≠r:=fun p hp r hr'=>by
  obtain⟨xs,e⟩:=l3 p hp;exact dif e (n3 r hr')
 refine rtt S a f aN aK aS ns ks D (fun j=>if j=0 then⟨y0,p1,p2,p3,b0,[],[]⟩ else⟨y1,q1,q2,q3,b1,[],[]⟩) H8 ⟨hS.up g18.gn,hc.go g18.gn om,hq1.up g18.gn,(g3.trans g38).lst hN2,?_,hS8,?_,?_,?_,?_,?_,?_⟩ h63 kl hks D1 D16 ?_
 . exact(g6.trans (g7.trans g8)).lst hK5
 . intro k hk;obtain rfl | rfl:k=0\/k=1:=by omega
   . exact K3.up g38
   . exact K4.up g48
 . intro k hk;obtain rfl | rfl:k=0\/k=1:=by omega
   . exact⟨(g7.trans g8).lst hb6,.nil⟩
   . exact⟨g8.lst hb7,.nil⟩
 . intro k hk;obtain rfl | rfl:k=0\/k=1:=by omega
   . exact⟨.nil,by intro q hq;cases hq⟩
   . exact⟨.nil,by intro q hq;cases hq⟩
 . intro k hk;obtain rfl | rfl:k=0\/k=1:=by omega
   . exact fun z=>(lo0 _ z).1 rfl
   . exact fun z=>(hi0 _ z).2.1 rfl
 . have key:∀ p∈[p1,p2,p3,b0],∀ r∈[q1,q2,q3,b1],p≠r:=fun p hp r hr'=>by
    have hp':p∈[p1,p2,p3]\/p=b0:=Zs7 hp;have hr'':r∈[q1,q2,q3]\/r=b1:=Zs7 hr';rcases hp' with hp' | rfl
    . rcases hr'' with hr'' | rfl
      . exact lohi p hp' r hr''
      . exact(lo0 p hp').2.1
    . rcases hr'' with hr'' | rfl
      . exact(hi0 r hr'').1.symm
      . exact n01
   intro j k hj hk hjk p hp;obtain rfl | rfl:j=0\/j=1:=by omega
   . obtain rfl:k=1:=by omega
     exact fun z=>key p hp p z rfl
   . obtain rfl:k=0:=by omega
     exact fun z=>key p z p hp rfl
 . intro k hk;obtain rfl | rfl:k=0\/k=1:=by omega
   . refine⟨fun z=>?_,fun z=>?_,fun z=>?_⟩
     . rcases Zs7 z with z | z
       . exact(lo0 _ z).2.2.2.1 rfl
       . exact nN0 z
     . rcases Zs7 z with z | z
       . exact(lo0 _ z).2.2.2.2 rfl
       . exact nK0 z
     . rcases Zs7 z with z | z
       . exact(lo0 _ z).2.2.1 rfl
       . exact nS0 z.symm
   . refine⟨fun z=>?_,fun z=>?_,fun z=>?_⟩
     . rcases Zs7 z with z | z
       . exact(hi0 _ z).2.2.2.1 rfl
       . exact nN1 z
     . rcases Zs7 z with z | z
       . exact(hi0 _ z).2.2.2.2 rfl
       . exact nK1 z
     . rcases Zs7 z with z | z
       . exact(hi0 _ z).2.2.1 rfl
       . exact nS1 z.symm
 . intro k hk;obtain rfl | rfl:k=0\/k=1:=by omega <;> rfl
   all_goals rfl
end
structure Zpe (K:W.Frag)(mg:Str->Option Value)(cR cB cE:Addr):Prop where
 x:Br10 K mg cR
 st:XSet K cR "row"
 rd:Zq4 K cB
 hB:mg "BookError" = some (.ref cB)
 xi:∃ fi,Zhi K cR fi/\W.findIn K (.ref cR) "__init__" = some (some (.ref fi))
 fg:∃ t,mg "FIGURES" = some (.str "0123456789" t)
 mf:∃ t,mg "MOST_FIGURES" = some (.int 9 t)
 n:Npl K mg cE
theorem br_ok (X:Zpe K mg cR cB cE)(M:MethAt K cR "__init__" "BadRow.__init__" Zde):BrOk P w K mg base cR:=by
 obtain⟨f,fd,h1,h2,h3⟩:=Zob (P:=P) (w:=w) (mg:=mg) (base:=base) M X.x.xg.own X.st X.rd X.hB;obtain⟨fi,xi,e⟩:=X.xi;have ef:=h1.at_.symm.trans e;injection ef with ef
 injection ef with ef
 injection ef with ef
 subst ef;exact⟨X.x.hR,f,fd,xi,h2,h3⟩
theorem Zyu (X:Zpe K mg cR cB cE)(M:MethAt K cR "__init__" "BadRow.__init__" Zde):Zw1 P w K mg base cR:=by
 obtain⟨f,fd,h1,h2,h3⟩:=Zl0 (P:=P) (w:=w) (mg:=mg) (base:=base) M X.x.xg.own X.st X.rd X.hB;obtain⟨fi,xi,e⟩:=X.xi;have ef:=h1.at_.symm.trans e;injection ef with ef
 injection ef with ef
 injection ef with ef
 subst ef;exact⟨X.x.hR,f,fd,xi,h2,h3⟩
theorem Zys {c0 Pt:Addr}(kb:K.In base)(nb:base.Ns mainGlobals mg)(X0:Ext0 K mg base c0 Pt)
 (F_split:FunAt K mg "split" Zk1)(F_none:FunAt K mg "none_seal" Zro)(F_leaf:FunAt K mg "leaf_seal" Zlf)(F_pair:FunAt K mg "pair_seal" Zrg)(F_book:FunAt K mg "book_seal" Zrf)(F_top:FunAt K mg "top_of" sTop)(F_path:FunAt K mg "path_of" Zrl)(F_grow:FunAt K mg "growth_of" Zrt)(F_ind:FunAt K mg "in_depth" sInD)(F_row:FunAt K mg "row_seal" sRow)(F_fork:FunAt K mg "fork_seal" Zqo)(F_tabs:FunAt K mg "table_seal" Zsg)(F_part:FunAt K mg "part_of" Zhl)(F_topp:FunAt K mg "top_of_part" Zfb)(F_isk:FunAt K mg "is_key" Zkw)(F_rdk:FunAt K mg "read_key" Ze6)(F_rda:FunAt K mg "read_at" Zhj)(F_tks:FunAt K mg "take_step" Zko)(F_chg:FunAt K mg "changed" Zfh)(F_ckp:FunAt K mg "check_place" Zg0)(F_cell:FunAt K mg "_law_cell_at" Zrb)(F_plain:FunAt K mg "_law_plain" Zi3)(F_turned:FunAt K mg "_law_turned" Zf8)(F_numbering:FunAt K mg "_law_numbering" Zbq)(F_sealby:FunAt K mg "_law_seal_by" Zhs)(F_draw:FunAt K mg "_law_draw" Zjv)(F_word:FunAt K mg "_law_word" Zh0)(F_lsplit:FunAt K mg "_law_split" Zhc)(F_ltop:FunAt K mg "_law_top" Zqy)(F_lpath:FunAt K mg "_law_path" Zke)(F_lgrow:FunAt K mg "_law_growth" Zkh)(F_lpart:FunAt K mg "_law_part" Zkl)(F_ltab:FunAt K mg "_law_table" Zqs)(F_lway:FunAt K mg "_law_way" Zmj)(F_text:FunAt K mg "_law_text" Ziz)(F_behind:FunAt K mg "_law_behind" Zhv)(F_leaves:FunAt K mg "_law_leaves" Zg1)(F_lo:FunAt K mg "_law_left_out" Zli)(F_ask:FunAt K mg "_law_asked" Zka)(F_due:FunAt K mg "_law_due" sDue)(F_right:FunAt K mg "_law_right" Zh7)(F_spoilt:FunAt K mg "_law_spoilt" Zhx)(F_added:FunAt K mg "_law_added" Zim)(F_law:FunAt K mg "law" Zti)
 (ml:mg "len" = none)(mr:mg "range" = none)(ms:mg "str" = none)(mso:mg "sorted" = none)(mm:mg "min" = none)(mn:mg "int" = none)(ma:mg "all" = none)(me:mg "enumerate" = none)
 (TT:Txt K mg cT)(MT:∃ fI,Mk K cT fI)(T_init:Zpl K cT "__init__" "Table.__init__" Zmd [8])(T_check:MethAt K cT "check" "Table.check" Zfk)(T_put:MethAt K cT "put" "Table.put" Zv7)(T_cut:MethAt K cT "cut" "Table.cut" Zwa)(T_head:MethAt K cT "head" "Table.head" Zlv)(T_way:MethAt K cT "way" "Table.way" Zu5)(T_twin:MethAt K cT "twin" "Table.twin" Zm0)(T_rows:MethAt K cT "rows" "Table.rows" Zmt)
 (TK:TxK K mg C)(MK:∃ fI,Mk K C fI)(K_init:MethV K C "__init__" "Keeper.__init__" Zmy (.int 8))(K_add:MethAt K C "add" "Keeper.add" Zwb)(K_size:MethAt K C "size" "Keeper.size" Zmz)(K_sow:MethAt K C "size_or_whole" "Keeper.size_or_whole" Zv9)(K_tb:MethAt K C "table_behind" "Keeper.table_behind" kTb)(K_text:MethAt K C "text" "Keeper.text" Zlq)(K_th:MethAt K C "table_head" "Keeper.table_head" kTh)(K_head:MethV K C "head" "Keeper.head" Zmk .non)(K_path:MethV K C "path" "Keeper.path" Zmw .non)(K_growth:MethV K C "growth" "Keeper.growth" Zeu .non)(K_way:MethAt K C "way" "Keeper.way" Zwc)(K_paper:MethV K C "paper" "Keeper.paper" Zgt .non)
 (X:Zpe K mg cR cB cE)(Er:Er11 K mg cE cR cP)(M_br:MethAt K cR "__init__" "BadRow.__init__" Zde):FnP P w K mg base 100 "law" ["_law_script"] (Zul K mg Pt):=by
 obtain⟨tf,fg⟩:=X.fg;obtain⟨tm,mf⟩:=X.mf;have B:=br_ok (P:=P) (w:=w) (base:=base) X M_br;have BH:=Zyu (P:=P) (w:=w) (base:=base) X M_br;have Sl:=Zvl (P:=P) (w:=w) (base:=base) (Zql F_plain) (Zpo F_turned) ml;have Cl:=Ztu (P:=P) (w:=w) (base:=base) F_cell ml;have Sp:=Zqb (P:=P) (w:=w) (base:=base) F_split;have Lsp:=Zo1 (P:=P) (w:=w) (base:=base) F_lsplit;have No:=Zv4 (P:=P) (w:=w) (base:=base) F_none Sl;have Pa:=Zvr (P:=P) (w:=w) (base:=base) F_pair Sl;have Bk:=Zu7 (P:=P) (w:=w) (base:=base) F_book Sl;have Lf:=Zq3 (P:=P) (w:=w) (base:=base) F_leaf Sl;have Tp:=Zsy F_top Sp No Pa ml;have Lt:=Zoq F_ltop Lsp Sl ml;have Lg:=Zrr F_lgrow Lsp Lt ml 9 om;have Lp:=Zsk F_lpath Lsp Lt ml 9 om;have Gr:=Zu3 F_grow Sp Tp ml 9 om;have Pt':=Zvu F_path Sp Tp ml 9 om;have PaO:=Zvx (P:=P) (w:=w) (base:=base) F_part;have TpP:=Zui F_topp No (Zwx F_row Sl) (Zuy F_fork Sl) PaO ml;have TpA:FnP P w K mg base 19 "top_of_part" ["seal","rows","bits"] (Zgv K mg):=FnP.any fun b hb=>(TpP b).mono om;have LpA:FnP P w K mg base 19 "_law_part" ["_law_seal","_law_rows","_law_level"] (Zgv K mg):=FnP.any fun b hb=>(Zsh F_lpart Sl ml b om).mono om;have In:=Zyv (P:=P) (w:=w) (base:=base) F_ind;have Ck:=Zx8 T_check TT In;have Rs:=Ztv (P:=P) (w:=w) (base:=base) T_rows TT mso;have Th:=Zq2 T_head TT (Ztz F_tabs Sl) TpA Rs;have CkN:=Zu1 T_check TT X.n In;have Dr:=Zv2 (P:=P) (w:=w) (base:=base) F_draw
 have Ik:=Zrm (P:=P) (w:=w) (base:=base) F_isk fg mf ml ma;have Rk:=Zlt F_rdk Ik In B mn;have Ra:=Zot F_rda Rk B ml;have St:=Zvn F_tks TT X.n BH (Zv0 T_put TT CkN) (Zvv T_cut TT X.n CkN);obtain⟨fI,MT⟩:=MT;obtain⟨fI',fdI,hm,FI⟩:=T_init;have e:=MT.init.symm.trans hm.at_;cases e
 have GI:=Zsi (P:=P) (w:=w) (base:=base) FI TT;have bI:=FI.binds (ps:=["self","seal","depth"]) fun _ _ _ _ _ _ _ _=>l3e fun _ _ _=>⟨_,rfl,rfl⟩
 have Tw:=Zut T_twin TT MT GI bI X.x.md;have Ch:=Zmm F_chg TT Tw Ra St me;have Wy:=Zv3 T_way TT Ck Rs TpA PaO ml;have WyR:=Zqm (P:=P) (w:=w) (base:=base) T_way TT (My.MtN.toX CkN);have Ki:=Zrs K_init TK TT MT GI bI;have Ka:=Zt5 K_add TK TT Ch Lf Th ml;have Kz:=Zqu (P:=P) (w:=w) (base:=base) (cT:=cT) K_size TK ml;have Ks:=Zub (P:=P) (w:=w) (base:=base) (cT:=cT) K_sow TK X.n ml;have Cp:=Zwn (P:=P) (w:=w) (base:=base) F_ckp X.n;have Kb:=Zyr (cT:=cT) K_tb TK Cp ml;have Kx:=Zsl (cT:=cT) K_text TK Cp ml;have Kt:=Zx5 K_th TK TT Kb Th;have Kh:=Zsc K_head TK Ks Bk (Tp 9 om);have Kp:=Zrc K_path TK Ks Cp Pt';have Kg:=Zq7 K_growth TK X.n Ks Gr;have Kw:=Zuq K_way TK TT Kb Wy WyR;have Kq:=Znq K_paper TK Kp.full Kx Kt Kw;have KP:Kps P w K mg base C cT cE:=⟨TK.cl,Kh,Kp,Kg,Kx,Kt,Kw,Kq⟩
 have As:=Zyg F_ask KP Er (ok_lo F_lo KP);have Du:=Zwi F_due Sl (Zxe F_leaves Sl) (Lt 9 om) Lp Lg (Zvf F_lway LpA ml) ml mso;have Rg:=ok_ri F_right TK.cl Kz Dr As Du ml mr X.x.mi mn;have Ad:=Zri F_added TK.cl X.x Dr (Zn9 F_behind X.x.md) (Zpn F_spoilt Dr ml X.x.mi X.x.md X.x.kd X.x.ki) Ka (Zvp F_ltab Sl LpA mso) ml mn;exact Zxt F_law TK MK Ki Ka (Zm1 F_sealby Cl (Zh8 F_numbering kb nb X0) F_plain F_turned) Cl Dr (Zt1 F_text Dr (Zvm F_word Dr ml mr) ml mr ms) Ad Rg ml mr mm
theorem Zyq {K:W.Frag}{mg:Str->Option Value}{h:Heap}{C fI:Addr}(X:K.In h)(G:h.Ns mainGlobals mg)(aC:W.nsIn K mainGlobals "Table" = some (some (.ref C)))
 (pg:W.plainGet K C Str.empty=true)(hd:W.hasDictIn K C=true)(po:W.plainOver K C=true)(sa:W.findIn K (.ref C) "__setattr__" = some (some (.builtin "object.__setattr__")))(mk:W.makesIn K C=true)(kc:W.keepIn K (.ref C)=true)
 (n0:W.findIn K (.ref C) "seal" = some none)(n1:W.findIn K (.ref C) "depth" = some none)(n2:W.findIn K (.ref C) "held" = some none)
 (aI:W.findIn K (.ref C) "__init__" = some (some (.ref fI)))(iI:W.isFn K (.ref fI)=true)
 (M0:Zpl K C "__init__" "Table.__init__" Zmd [8])(M1:MethAt K C "check" "Table.check" Zfk)(M2:MethAt K C "put" "Table.put" Zv7)(M3:MethAt K C "cut" "Table.cut" Zwa)(M4:MethAt K C "head" "Table.head" Zlv)(M5:MethAt K C "way" "Table.way" Zu5)(M6:MethAt K C "twin" "Table.twin" Zm0)(M7:MethAt K C "rows" "Table.rows" Zmt) :
 ∃ C,Txt K mg C/\(∃ fI,Mk K C fI)/\Zpl K C "__init__" "Table.__init__" Zmd [8]/\MethAt K C "check" "Table.check" Zfk/\MethAt K C "put" "Table.put" Zv7/\MethAt K C "cut" "Table.cut" Zwa/\MethAt K C "head" "Table.head" Zlv/\MethAt K C "way" "Table.way" Zu5/\MethAt K C "twin" "Table.twin" Zm0/\MethAt K C "rows" "Table.rows" Zmt:=
 ⟨C,⟨⟨pg,hd,po,sa⟩,n0,n1,n2,Xbx X G aC⟩,⟨fI,mk,aI,iI,kc⟩,M0,M1,M2,M3,M4,M5,M6,M7⟩
theorem Zus {K:W.Frag}{mg:Str->Option Value}{h:Heap}{C fI:Addr}(X:K.In h)(G:h.Ns mainGlobals mg)(aC:W.nsIn K mainGlobals "Keeper" = some (some (.ref C)))
 (pg:W.plainGet K C Str.empty=true)(hd:W.hasDictIn K C=true)(po:W.plainOver K C=true)(sa:W.findIn K (.ref C) "__setattr__" = some (some (.builtin "object.__setattr__")))(mk:W.makesIn K C=true)(kc:W.keepIn K (.ref C)=true)
 (n0:W.findIn K (.ref C) "seal" = some none)(n1:W.findIn K (.ref C) "depth" = some none)(n2:W.findIn K (.ref C) "texts" = some none)(n3:W.findIn K (.ref C) "leaves" = some none)(n4:W.findIn K (.ref C) "tables" = some none)
 (aI:W.findIn K (.ref C) "__init__" = some (some (.ref fI)))(iI:W.isFn K (.ref fI)=true)
 (M0:MethV K C "__init__" "Keeper.__init__" Zmy (.int 8))(M1:MethAt K C "add" "Keeper.add" Zwb)(M2:MethAt K C "size" "Keeper.size" Zmz)(M3:MethAt K C "size_or_whole" "Keeper.size_or_whole" Zv9)(M4:MethAt K C "table_behind" "Keeper.table_behind" kTb)(M5:MethAt K C "text" "Keeper.text" Zlq)(M6:MethAt K C "table_head" "Keeper.table_head" kTh)(M7:MethV K C "head" "Keeper.head" Zmk .non)(M8:MethV K C "path" "Keeper.path" Zmw .non)(M9:MethV K C "growth" "Keeper.growth" Zeu .non)(M10:MethAt K C "way" "Keeper.way" Zwc)(M11:MethV K C "paper" "Keeper.paper" Zgt .non) :
 ∃ C,TxK K mg C/\(∃ fI,Mk K C fI)/\MethV K C "__init__" "Keeper.__init__" Zmy (.int 8)/\MethAt K C "add" "Keeper.add" Zwb/\MethAt K C "size" "Keeper.size" Zmz/\MethAt K C "size_or_whole" "Keeper.size_or_whole" Zv9/\MethAt K C "table_behind" "Keeper.table_behind" kTb/\MethAt K C "text" "Keeper.text" Zlq/\MethAt K C "table_head" "Keeper.table_head" kTh/\MethV K C "head" "Keeper.head" Zmk .non/\MethV K C "path" "Keeper.path" Zmw .non/\MethV K C "growth" "Keeper.growth" Zeu .non/\MethAt K C "way" "Keeper.way" Zwc/\MethV K C "paper" "Keeper.paper" Zgt .non:=
 ⟨C,⟨⟨pg,hd,po,sa⟩,n0,n1,n2,n3,n4,Xbx X G aC⟩,⟨fI,mk,aI,iI,kc⟩,M0,M1,M2,M3,M4,M5,M6,M7,M8,M9,M10,M11⟩
theorem Zrj {K:W.Frag}{B:Addr}{d:Option Addr}{cd:ClassData}{sl:Array (Option Value)}(l:K.lookup B=some ⟨.type "type",d,.cls cd,sl⟩)(t1:W.nsIn K cStatics "thirdparty.any" = some none)
 (t3:W.findIn K (.type "type") "__getattribute__" = some (some (.builtin "type.__getattribute__"))):W.readsIn K B (.type "type")=true:=by
 unfold W.readsIn;have e2:W.typeIn K (.ref B)=some (.type "type"):=by show Option.map (fun x=>x.cls) (List.lookup B K)=_;rw[show List.lookup B K=_ from l];rfl
 have e5:W.subIn K (.type "type") (.type "type")=some true:=by unfold W.subIn;kernel_rfl
 rw[t1,e2,t3,e5,if_neg (by decide)];simp
theorem Zvj {K:W.Frag}{B:Addr}{a1 g1 ta:Value}(f1:W.findIn K (.type "type") "__init__" = some (some a1))(s1:W.specialIn K a1 "__get__" = some (some g1))(tk1:W.takesIn K a1=some false)
 (f2:W.findIn K (.ref B) "__init__" = some (some (.builtin "ValueError.__init__")))(t:W.typeIn K (.builtin "ValueError.__init__")=some ta)(b:W.bareKinds.contains ta=true) :
 W.findCls K (.ref B) (.type "type") "__init__" = some (.val (.builtin "ValueError.__init__")):=by
 have hh:PySem.Builtin.heldUnderItsOwnName "__init__" (.builtin "ValueError.__init__")=false:=by kernel_rfl
 unfold W.findCls;rw[f1];show(W.specialIn K a1 "__get__").bind _=_;rw[s1];show(W.takesIn K a1).bind _=_;rw[tk1];show(W.findIn K (.ref B) "__init__").bind _=_;rw[f2];show(if PySem.Builtin.heldUnderItsOwnName "__init__" (.builtin "ValueError.__init__")=true then none else _)=_;rw[hh,if_neg (by simp)];rw[t];show(if W.bareKinds.contains ta=true then _ else _)=_;rw[if_pos b]
theorem Zxz {K:W.Frag}:W.kitOne K (.type "int") (.type "dict")=some false:=by unfold W.kitOne;rw[if_neg (by simp)];kernel_rfl
theorem Zxx {K:W.Frag}:W.kitOne K (.type "dict") (.type "dict")=some true:=by unfold W.kitOne;rw[if_pos (by simp)]
theorem br_mk {K:W.Frag}{mg:Str->Option Value}{h:Heap}(X:K.In h)(G:h.Ns mainGlobals mg){C cB cE N NE fi:Addr}{nm q nmE qE:Str}{bs bsE:List Value}{sn snE:List Str}{sub subE:List Value}{ab abE hdE:Bool}{col colE:Option Bool}{dd ddE dB dn1 dn2 dn3:Option Addr}{k0 k1 k2 k3 k5 j0 j1 j2 j3 j5:Option Value}{cdB:ClassData}{slB sn1 sn2 sn3:Array (Option Value)}{cn1 cn2 cn3:Value}{es1 es2 es3:Array DictEntry}{ep1 ep2 ep3:Nat}{cP:Addr}{dP:Option Addr}{cdP:ClassData}{slP:Array (Option Value)}
 {fo':Obj}{tf tm:Tok}{a1' g1:Value}
 (a1:W.nsIn K mainGlobals "BadRow" = some (some (.ref C)))(a2:W.nsIn K mainGlobals "BookError" = some (some (.ref cB)))(a4:W.nsIn K mainGlobals "NoPlace" = some (some (.ref cE)))
 (lB:K.lookup cB=some ⟨.type "type",dB,.cls cdB,slB⟩)
 (lk:K.lookup C=some (excClassObj nm q C N bs (.ref cB :: Zqa) true sn sub ab col dd k0 k1 k2 k3 k5 "ValueError.__new__"))
 (l1:K.lookup N=some ⟨cn1,dn1,.dict es1 ep1,sn1⟩)(l2:K.lookup cdB.ns=some ⟨cn2,dn2,.dict es2 ep2,sn2⟩)(e1:(es1.toList.all fun e=>match e.key with | .str _ _=>true | _=>false)=true)(e2:(es2.toList.all fun e=>match e.key with | .str _ _=>true | _=>false)=true)
 (b1:W.nsIn K N "__init__" = some (some (.ref fi)))(f1:W.findIn K (.ref C) "__init__" = some (some (.ref fi)))(lf:K.lookup fi=some fo')(cf:fo'.cls = .type "function")(kc:W.keepIn K (.ref C)=true)
 (c1:W.nsIn K cdB.ns "__init__" = some none)(c2:W.nsIn K cdB.ns "__getattribute__" = some none)(c3:W.nsIn K cdB.ns "__getattr__" = some none)(c4:W.nsIn K cdB.ns "args" = some none)
 (ga:W.findIn K (.ref C) "__getattribute__" = some (some (.builtin "BaseException.__getattribute__")))(gn:W.findIn K (.ref C) "__getattr__" = some none)
 (fo:W.findIn K (.ref C) "__class__" = some (some (.builtin "object.__class__")))(sp:W.specialIn K (.builtin "object.__class__") "__get__" = some (some (.builtin "getset_descriptor.__get__")))
 (tk:W.takesIn K (.builtin "object.__class__")=some true)(mo:W.mroIn K C (.type "object")=some true)(sa:W.findIn K (.ref C) "__setattr__" = some (some (.builtin "object.__setattr__")))(no:W.findIn K (.ref C) "row" = some none)
 (mi:W.nsIn K mainGlobals "isinstance" = some none)(md:W.nsIn K mainGlobals "dict" = some none)
 (mf:W.nsIn K mainGlobals "FIGURES" = some (some (.str "0123456789" tf)))(mm:W.nsIn K mainGlobals "MOST_FIGURES" = some (some (.int 9 tm)))
 (sg:W.specialIn K (.ref cB) "__getattribute__" = some (some (.builtin "type.__getattribute__")))(t1:W.nsIn K cStatics "thirdparty.any" = some none)(t3:W.findIn K (.type "type") "__getattribute__" = some (some (.builtin "type.__getattribute__")))
 (g2:W.findIn K (.type "type") "__init__" = some (some a1'))(g3:W.specialIn K a1' "__get__" = some (some g1))(g4:W.takesIn K a1'=some false)(g5:W.findIn K (.ref cB) "__init__" = some (some (.builtin "ValueError.__init__")))(g6:W.typeIn K (.builtin "ValueError.__init__")=some (.type "wrapper_descriptor"))
 (lE:K.lookup cE=some (excClassObj nmE qE cE NE bsE (.ref cB :: Zqa) hdE snE subE abE colE ddE j0 j1 j2 j3 j5 "ValueError.__new__"))(l3:K.lookup NE=some ⟨cn3,dn3,.dict es3 ep3,sn3⟩)(e3:(es3.toList.all fun e=>match e.key with | .str _ _=>true | _=>false)=true)
 (d1:W.nsIn K NE "__init__" = some none)(d2:W.nsIn K NE "__getattribute__" = some none)(d3:W.nsIn K NE "__getattr__" = some none)(d4:W.nsIn K NE "args" = some none)
 (gE:W.findIn K (.ref cE) "__getattribute__" = some (some (.builtin "BaseException.__getattribute__")))(hE:W.findIn K (.ref cE) "__getattr__" = some none)(oE:W.findIn K (.ref cE) "__class__" = some (some (.builtin "object.__class__")))(mE:W.mroIn K cE (.type "object")=some true)(kE:W.keepIn K (.ref cE)=true)
 (a5:W.nsIn K mainGlobals "BadPaper" = some (some (.ref cP)))(lP:K.lookup cP=some ⟨.type "type",dP,.cls cdP,slP⟩)(kR:W.mroIn K cE (.ref C)=some false)(kP:W.mroIn K cE (.ref cP)=some false)(kV:W.mroIn K cE (.type "ValueError")=some true)(mV:W.nsIn K mainGlobals "ValueError" = some none)(n2:cE≠C)(n3:cE≠cP)
 (M:MethAt K C "__init__" "BadRow.__init__" Zde):∃ C cB cE cP,Zpe K mg C cB cE/\Er11 K mg cE C cP/\MethAt K C "__init__" "BadRow.__init__" Zde:=by
 obtain⟨cd,cl,ch,cm⟩:∃ cd,W.clsIn K C=some cd/\cd.hasDict=true/\cd.mro = .ref C :: .ref cB :: Zqa:=by
  unfold W.clsIn;rw[show List.lookup C K=_ from lk];exact⟨_,rfl,rfl,rfl⟩
 have tq:tailQ K Zvq (.ref cB :: Zqa)=true:=Zpt lB ⟨Zjn l2 e2,c1,c2,c3,c4⟩;have ow:Ztb K C:=⟨_,_,_,_,_,_,_,_,_,_,_,_,_,_,_,_,lk,tq,by simp⟩
 obtain⟨dR,cdR,slR,lR⟩:∃ dR cdR slR,K.lookup C=some ⟨.type "type",dR,.cls cdR,slR⟩:=⟨_,_,_,lk⟩
 have N:Npl K mg cE:=⟨Zud lE (QuietAt.q ⟨Zjn l3 e3,d1,d2,d3,d4⟩) tq (by simp) gE hE oE sp tk mE,kE,Xbx X G a4⟩
 refine⟨C,cB,cE,cP,⟨⟨⟨ow,⟨cd,cl,ch⟩,ga,gn,fo,sp,tk,mo⟩,no,Xbx X G a1,W.mg_none_of X G mi,W.mg_none_of X G md,Zxx,Zxz⟩,
  ⟨⟨cd,cl,ch,fun x=>?_⟩,mo,sa,no⟩,⟨sg,Zrj lB t1 t3,Zvj g2 g3 g4 g5 g6 (by decide)⟩,Xbx X G a2,⟨fi,⟨⟨_,_,_,_,_,_,_,_,_,_,_,_,_,_,_,_,lk,tq,by simp,Zjn l1 e1,b1⟩,⟨_,lf,cf⟩,kc⟩,f1⟩,⟨tf,Xbx X G mf⟩,⟨tm,Xbx X G mm⟩,
  N⟩,⟨N,Xbx X G a1,Xbx X G a5,Zp7 n2 lR kR,Zp7 n3 lP kP,Zyo Zmx kV,W.mg_none_of X G mV,W.mg_none_of X G mi⟩,M⟩
 rw[cm,refuseLoop_ref,refuseLoop_ref];exact PySem.F.store_ValueError.passes _
end My
namespace PySem.W.Fast
def tw8659157823234368280:=Nat
def tw17883105020684346371:=Nat
def tw13263213235033621688:=Nat
def tw949757465541420701:=Nat
def tw16114745207550916478:=Nat
def tw13067865962423477035:=Nat
def tw16999238625931706941:=Nat
def tw5258942912883779325:=Nat
def tw17774613129140283153:=Nat
def tw12822395773015492678:=Nat
def tw17971584209880637299:=Nat
def tw12851718011933116545:=Nat
def tw1693856137491160784:=Nat
def tw10946433484221655064:=Nat
def tw11198496316774556795:=Nat
def tw8212482288877347029:=Nat
def tw16258307894503567363:=Nat
def tw3851519948987920260:=Nat
def tw17457668535723553020:=Nat
def tw15802456276404489149:=Nat
def tw9970685319651915201:=Nat
def tw16507338088243432665:=Nat
def tw4610070794673631576:=Nat
def tw12985102965805445692:=Nat
def tw4448570985801771396:=Nat
def tw9197872230155143024:=Nat
def tw11730833474539616841:=Nat
def tw17235207330318297104:=Nat
def tw9453283221758358499:=Nat
def tw8511091465920623372:=Nat
def tw6396385214480528804:=Nat
def tw2191477726977610510:=Nat
def tw10538829543297423591:=Nat
def tw15986776327084261134:=Nat
def tw12854161441079650710:=Nat
def tw10291913428900434824:=Nat
def tw2062641950469844085:=Nat
def tw10735385523929152443:=Nat
def tw11282357687224193721:=Nat
def tw14079814508558749376:=Nat
def tw13861096895636914576:=Nat
def tw8354315362074676694:=Nat
def tw10605058376347628414:=Nat
def tw462896888968214809:=Nat
def tw7559120411268982796:=Nat
def tw9468815616982630950:=Nat
def tw14530310095801829263:=Nat
def tw11119307902185944843:=Nat
def tw48046734196778170:=Nat
def tw18271774348267643468:=Nat
def tw11076198327121754825:=Nat
def tw13220140272759369800:=Nat
def tw7161362147081338072:=Nat
def tw7951801573691353117:=Nat
def tw3722868196465207837:=Nat
def tw5158379285487113571:=Nat
def tw3740809604754982768:=Nat
def tw4823711874199713342:=Nat
def tw13569168385838401830:=Nat
def tw10802060984229021335:=Nat
def tw11866521414552940287:=Nat
def tw17845440996097037954:=Nat
def tw12049052690060425215:=Nat
def tw8605099414101786275:=Nat
def tw10222026531168848356:=Nat
def tw7632921127881414253:=Nat
def tw1012538168382472678:=Nat
def tw9512739537487897902:=Nat
def tw16084486201558129568:=Nat
def tw13243308661610318354:=Nat
def tw4265943172706149539:=Nat
def tw2016566705667707059:=Nat
def tw2339679564748719042:=Nat
def tw5066714047796959497:=Nat
def tw16282304902932058561:=Nat
def tw5471042227058055710:=Nat
def tw4880019775464235702:=Nat
def tw12710939826121454623:=Nat
def tw11432486904598790191:=Nat
def tw479830760296565479:=Nat
def tw5866409537785652065:=Nat
def tw7227231893291661097:=Nat
def tw5020081499075239519:=Nat
def tw13432494596491911350:=Nat
def tw6323282249264224516:=Nat
def tw16167548922194369307:=Nat
def tw2509153607295964422:=Nat
def tw4908695385833922317:=Nat
def tw14278168274355516329:=Nat
def tw12913464651282440623:=Nat
def tw9928623918897657724:=Nat
def tw18242876502360695278:=Nat
def tw9362829964556646023:=Nat
def tw15299118754559329091:=Nat
def tw13856737646371509237:=Nat
def tw4156419642323498343:=Nat
def tw5160270861076126503:=Nat
def tw11039293452165624201:=Nat
def tw15748251507217962215:=Nat
def tw16095841078238426430:=Nat
def tw3752159044475735065:=Nat
def tw1414828308221697760:=Nat
def tw10502481955911921645:=Nat
def tw6640710194883452127:=Nat
def tw10115657927809904474:=Nat
def tw10683624887590564317:=Nat
def tw5202548032395636583:=Nat
def tw6500316592538839872:=Nat
def tw12646712494553613481:=Nat
def tw967009245483186080:=Nat
def tw7065577628530313810:=Nat
def tw4171264864085911754:=Nat
def tw7024188589542808814:=Nat
def tw6176530511812196960:=Nat
def tw17927982954764487660:=Nat
def tw8393546278962957656:=Nat
def tw5901571088860052959:=Nat
def tw10627759765521912207:=Nat
def tw7647570847088354386:=Nat
def tw2010109360726983886:=Nat
def tw17539229916385362511:=Nat
def tw11618583080407017577:=Nat
def tw15619454814164254740:=Nat
def tw6548818097721899961:=Nat
def tw8916081489005335642:=Nat
def tw8039789305919191699:=Nat
def tw11547936944232537487:=Nat
def tw11643713678218502840:=Nat
def tw7397693925288690449:=Nat
def tw8024113455403388014:=Nat
def tw9110981088137503966:=Nat
def tw16579258676837353136:=Nat
def tw12371978486133081214:=Nat
def tw329483135759956687:=Nat
def tw14843050888508042844:=Nat
def tw5400049823719777231:=Nat
def tw9800453941105981966:=Nat
def tw18353524487556256532:=Nat
def tw14426887040412719886:=Nat
def tw4128848268365721308:=Nat
def tw16782164254389794394:=Nat
def tw6176575170339581539:=Nat
def tw7648744292315019718:=Nat
def tw14451134620893924032:=Nat
def tw14544811593458491510:=Nat
def tw17711451463683740989:=Nat
def tw15143153733188635372:=Nat
def tw13429161644955321173:=Nat
def tw13916671858507200337:=Nat
def tw2644622157456614243:=Nat
def tw7676934110029513190:=Nat
def tw12759087227697017096:=Nat
def tw2285268809849802844:=Nat
def tw13558303077270599263:=Nat
def tw11523434850274475682:=Nat
def tw7504304280954365168:=Nat
def tw7539286164835045445:=Nat
def tw16072338879340900455:=Nat
def tw1771025319310644299:=Nat
def tw3492363573244459783:=Nat
def tw18127617055473844383:=Nat
def tw15369638625463717014:=Nat
def tw12295221344243631860:=Nat
def tw12697800388156641832:=Nat
def tw7525792612968846187:=Nat
def tw13082093775758186244:=Nat
def tw18428780214893427621:=Nat
def tw9482628444742796339:=Nat
def tw5757556778524316229:=Nat
def tw17357638418862845463:=Nat
def tw10425405569113565142:=Nat
def tw2401013722671084595:=Nat
def tw6966113866379217199:=Nat
def tw14042742994893925638:=Nat
def tw7881464960403780125:=Nat
def tw11029898259719373003:=Nat
def tw17202111173552647576:=Nat
def tw9745200451151747672:=Nat
def tw14382663222378732512:=Nat
def tw14850115417447021600:=Nat
def tw17987635607082402646:=Nat
def tw6027324728241073736:=Nat
def tw13980790586709541298:=Nat
def tw15946859394515941767:=Nat
def tw11472480698479584175:=Nat
def tw12310506363428934602:=Nat
def tw995796076257339879:=Nat
def tw619834129960610127:=Nat
def tw4816913809276628137:=Nat
def tw12694139417562738974:=Nat
def tw11188119649582364822:=Nat
def tw13341727680061280048:=Nat
def tw17378100468653865754:=Nat
def tw16396378627244643392:=Nat
def tw4608711243003282758:=Nat
def tw17935609254940421129:=Nat
def tw18224051689800778749:=Nat
def tw15216457139502464753:=Nat
def tw14999083841636015237:=Nat
def tw13781726056500852064:=Nat
def tw2732726323374815945:=Nat
def tw2520946422599953745:=Nat
def tw17202686306750981348:=Nat
def tw16766921034055792115:=Nat
def tw2603658227661743738:=Nat
def tw13421814608692567018:=Nat
def tw488360380883880014:=Nat
def tw2223299558741906849:=Nat
def tw14152686697887377631:=Nat
def tw12053345587698648035:=Nat
def tw15636750998524827950:=Nat
def tw13572421910987841085:=Nat
def tw17190384375915664606:=Nat
def tw996188263513061066:=Nat
def tw2253817101699795308:=Nat
def tw15230276108174823475:=Nat
def tw16732235559034425994:=Nat
def tw10212177204630241954:=Nat
def tw16872853481276788292:=Nat
def tw3754259145578269139:=Nat
def tw3863977502553616161:=Nat
def tw3770346919009238661:=Nat
def tw9910983657829453787:=Nat
def tw15404772175912995952:=Nat
def tw1434099999257317592:=Nat
def tw17441957140517763194:=Nat
def tw13133494815355054881:=Nat
def tw11300701809627187183:=Nat
def tw11423378915045539373:=Nat
def tw1967777457232583697:=Nat
def tw1919624368736586649:=Nat
def tw16786796832787726875:=Nat
def tw497891956844076066:=Nat
def tw3015935458634796530:=Nat
def tw16954367097414300663:=Nat
def tw3205420641386320954:=Nat
def tw18403493932031025739:=Nat
def tw8637316694099091087:=Nat
def tw6685989435583722259:=Nat
def tw18061554086155853457:=Nat
def tw15359080430393719315:=Nat
def tw11351086956923097057:=Nat
def tw10959389105833087451:=Nat
def tw16740496303029355947:=Nat
def tw13939941151049380954:=Nat
def tw13327251180443066055:=Nat
def tw16768926718117818549:=Nat
def tw4554448252927848648:=Nat
def tw12288846366048344783:=Nat
def tw14761092536904104681:=Nat
def tw11313612626217676683:=Nat
def tw11874366085421035982:=Nat
def tw800943314519048302:=Nat
def tw2481627937863323337:=Nat
def tw7944608691611487020:=Nat
def tw16264925816046587073:=Nat
def tw11933209719223895615:=Nat
def tw7109825901230904502:=Nat
def tw3017560630858479141:=Nat
def tw11407819022126629749:=Nat
def tw13077092755350816953:=Nat
def tw15103495871034856963:=Nat
def tw17133593426940205794:=Nat
def tw12508219502826710659:=Nat
def tw16373919331165631100:=Nat
def tw14669955907834833572:=Nat
def tw10826784176482066973:=Nat
def tw9702847730502968220:=Nat
def tw14546233560300383868:=Nat
def tw9616405626806231718:=Nat
def tw17963626161075937036:=Nat
def tw4679126375131591541:=Nat
def tw6289091784623405161:=Nat
def tw3867086043410028890:=Nat
def tw2843173322534243002:=Nat
def tw13618233709184720720:=Nat
def tw2833988278158820124:=Nat
def tw1149464396755699398:=Nat
def tw7436013377135229462:=Nat
def tw16351787599764607475:=Nat
def tw9007035153608142115:=Nat
def tw15547764016222763118:=Nat
def tw17542464689619847351:=Nat
def tw11505689164517089109:=Nat
def tw3032350273941163731:=Nat
def tw9225120884156539547:=Nat
def tw5347963596068048322:=Nat
def tw8478795262402443269:=Nat
def tw4277862665608686170:=Nat
def tw15572863118593454556:=Nat
def tw9760114603572802705:=Nat
def tw5638139876044973806:=Nat
def tw14910998238324964571:=Nat
def tw9987278431500227523:=Nat
def tw5319902938986672922:=Nat
def tw1983212507118410251:=Nat
def tw10136825619230834500:=Nat
def tw8120272113196076586:=Nat
def tw9190063230414362547:=Nat
def tw14502711782610554913:=Nat
def tw15144862981943189755:=Nat
def tw10263468915200750705:=Nat
def tw2342875556771764534:=Nat
def tw8143737577182410177:=Nat
def tw7900280858691327366:=Nat
def tw16542503662535342752:=Nat
def tw14337214616254170286:=Nat
def tw11870984609546891079:=Nat
def tw1336900381970053503:=Nat
def tw5097410743587461653:=Nat
def tw3745164380386839242:=Nat
def tw1983429116755133231:=Nat
def tw2929609831512391991:=Nat
def tw12434295987894137434:=Nat
def tw5560277978350789315:=Nat
def tw4424210440683002674:=Nat
def tw2515360173355522818:=Nat
def tw5956432201370337131:=Nat
def tw5648623195472939872:=Nat
def tw15170859952762929786:=Nat
def tw13682147507566624010:=Nat
def tw8432762676736576535:=Nat
def tw13612455354121374694:=Nat
def tw7225744663978039307:=Nat
def tw5773917804533840209:=Nat
def tw13917212922631877812:=Nat
def tw3251744847930647949:=Nat
def tw2297215775114471939:=Nat
def tw2729813975782724089:=Nat
def tw13908078848517937016:=Nat
def tw9878616957518027499:=Nat
def tw582145991436333448:=Nat
def tw4747114132284085466:=Nat
def tw13869113954914867790:=Nat
def tw11712665507548256827:=Nat
def tw5525366437002004290:=Nat
def tw18366756473081788813:=Nat
def tw6929575336133006112:=Nat
def tw5738880686356434349:=Nat
def tw17375338457216879518:=Nat
def tw17248996657864082051:=Nat
def tw14153242775643239253:=Nat
def tw10916148465391636376:=Nat
def tw8572832480744597635:=Nat
def tw3670303078494472762:=Nat
def tw2161995601298527891:=Nat
def tw15756299048022570313:=Nat
def tw15034427908186230871:=Nat
def tw11871290491524066402:=Nat
def tw7615181544383690763:=Nat
def tw728095911352149385:=Nat
def tw4440252251394604887:=Nat
def tw4662143436894010001:=Nat
def tw14934424359263360463:=Nat
def tw14818335223025154896:=Nat
def tw9612052068528613311:=Nat
def tw9320366290194040917:=Nat
def tw8076082564263186465:=Nat
def tw5575584230008134894:=Nat
def tw3097510351784898248:=Nat
def tw17401804561678626899:=Nat
def tw568184558707938300:=Nat
def tw3279067590132559101:=Nat
def tw3003504383028908293:=Nat
def tw14449129204931434714:=Nat
def tw9912405798351614333:=Nat
def tw9880347584374117428:=Nat
def tw9759021807731187784:=Nat
def tw970393976772875427:=Nat
def tw9662702910114646983:=Nat
def tw9630696792342202825:=Nat
def tw9559003615373134012:=Nat
def tw9523092209833896006:=Nat
def tw9242055550770274344:=Nat
def tw9131913458433194684:=Nat
def tw8843544964078593420:=Nat
def tw8803566337899378171:=Nat
def tw8730264514351988183:=Nat
def tw872783677401373014:=Nat
def tw8316688960776181387:=Nat
def tw7995107439155792797:=Nat
def tw7925151291365623940:=Nat
def tw7734501555776705422:=Nat
def tw7691652595565641824:=Nat
def tw748654605278701164:=Nat
def tw7437609249041449893:=Nat
def tw7360273140253416613:=Nat
def tw7322380377470355618:=Nat
def tw7252975802063753678:=Nat
def tw7163918578108712855:=Nat
def tw7106879976071395382:=Nat
def tw6368573144364369880:=Nat
def tw600634574861282772:=Nat
def tw5932148109744760473:=Nat
def tw5889360209875032356:=Nat
def tw5790002526717975784:=Nat
def tw5678639462699870989:=Nat
def tw5629764104597189990:=Nat
def tw560734063953172264:=Nat
def tw5458373005831210563:=Nat
def tw5438390619886970992:=Nat
def tw5364797388405287604:=Nat
def tw5340831839338818917:=Nat
def tw5280767166984083345:=Nat
def tw517818116767688774:=Nat
def tw5133949827820848943:=Nat
def tw5031471774227106209:=Nat
def tw4923664305114067156:=Nat
def tw4905986691538230420:=Nat
def tw4654540830525577174:=Nat
def tw4631748758973179343:=Nat
def tw452365753147631463:=Nat
def tw45090666504338661:=Nat
def tw4170319006315669189:=Nat
def tw4020020009864695520:=Nat
def tw3840845945917577261:=Nat
def tw368178502575580340:=Nat
def tw3583394749856051917:=Nat
def tw3570187858887296101:=Nat
def tw3552421364310982810:=Nat
def tw3494423140521125925:=Nat
def tw3263686150354797870:=Nat
def tw3251266822129471719:=Nat
def tw3243053583396833595:=Nat
def tw3195382398606410534:=Nat
def tw3183030270340355510:=Nat
def tw2659153725551159286:=Nat
def tw2576564480726024045:=Nat
def tw246839468653506364:=Nat
def tw2293136475009428640:=Nat
def tw2266342084740160349:=Nat
def tw2190468421447566814:=Nat
def tw2171607829661430655:=Nat
def tw2171456638841810743:=Nat
def tw2153480111653318509:=Nat
def tw2136342602190315462:=Nat
def tw2045339470192485457:=Nat
def tw2017755788017119549:=Nat
def tw1875466834156459552:=Nat
def tw18415244692763714699:=Nat
def tw18410182487053448694:=Nat
def tw18371462310819359352:=Nat
def tw18271838236728617855:=Nat
def tw18038945119732170229:=Nat
def tw17780466902414982085:=Nat
def tw17768840883490527456:=Nat
def tw1727026104062533047:=Nat
def tw1687796289982915999:=Nat
def tw16860691503186778998:=Nat
def tw16837663349178610563:=Nat
def tw16707841578812905537:=Nat
def tw16673978935372237488:=Nat
def tw16671227110158812826:=Nat
def tw16362341303674659698:=Nat
def tw1634556449458856944:=Nat
def tw16230446505060576424:=Nat
def tw1620132429383339055:=Nat
def tw16044544963062469758:=Nat
def tw16035696222719632591:=Nat
def tw15876271603429364078:=Nat
def tw15686964927474914870:=Nat
def tw1559185476789069182:=Nat
def tw15476171504552237589:=Nat
def tw15374584472084237894:=Nat
def tw1533642868217969929:=Nat
def tw15108456210723975529:=Nat
def tw15098380286964532227:=Nat
def tw14753594129146953530:=Nat
def tw14027034178115602337:=Nat
def tw14016976298885546608:=Nat
def tw13893363132443825555:=Nat
def tw13518671315710069470:=Nat
def tw13303900828385549652:=Nat
def tw13294440492962967588:=Nat
def tw13230511540132257994:=Nat
def tw13164996591592506087:=Nat
def tw13120421906079443999:=Nat
def tw13089580478260701047:=Nat
def tw13010365251784650165:=Nat
def tw12958279058660897006:=Nat
def tw12949989175865478529:=Nat
def tw12398258083860648806:=Nat
def tw11803134376407129439:=Nat
def tw11741796642604990137:=Nat
def tw11724015174605567123:=Nat
def tw11643053751763943544:=Nat
def tw11612250471707949731:=Nat
def tw11531271672908211015:=Nat
def tw11128774895072086389:=Nat
def tw10914382315718497424:=Nat
def tw10906199708969558587:=Nat
def tw10876300125752822990:=Nat
def tw1062958560563049949:=Nat
def tw10597359917843536390:=Nat
def tw10348200085794257182:=Nat
def tw10250341970890366339:=Nat
def tw10197160552319835343:=Nat
def tw1019169529213519495:=Nat
def tw10101768297704392428:=Nat
end PySem.W.Fast
open PySem PySem.W PyProof.Rows
set_option maxRecDepth 100000 in
set_option maxHeartbeats 0 in
theorem PySem.Challenge.cw_growbook_k11_keeper_holds : PySem.Challenge.rw_growbook_k11_keeper.Holds := by
 w_on;o_law;k_head;(case hw=>w_witness2)
 k_fill
 refine' L2.Zrv (l:=PySem.Challenge.rw_growbook_k11_keeper) (n:=63) (k:=100) (x:="_law_script") (xn:="_law_numbering") (sp:=My.Zul) rfl (by decide) rfl ⟨rfl,by decide,by decide⟩ (fun w h Y=>PySem.W.km_in_of Y) rfl ?ht ?hnt ?F ?S
 case ht=>
  intro w
  refine' L2.Zr7 ?a ?l ?c ?lc ?v
  (case a=>k_is);(case l=>k_is);(case c=>exact rfl);(case lc=>k_is);(case v=>exact rfl)
 case hnt=>intro w;kernel_rfl
 case F=>
  intro w mg fa h KX G hmg TB
  obtain⟨F_split,F_none,F_leaf,F_pair,F_book,F_top,F_path,F_grow,F_ind,F_row,F_fork,F_tabs,F_part,F_topp,F_isk,F_rdk,F_rda,F_tks,F_chg,F_ckp,F_cell,F_plain,F_turned,F_numbering,F_sealby,F_draw,F_word,F_lsplit,F_ltop,F_lpath,F_lgrow,F_lpart,F_ltab,F_lway,F_text,F_behind,F_leaves,F_lo,F_ask,F_due,F_right,F_spoilt,F_added,F_law⟩:L2.FunAt (L2.KOf KX) mg "split" My.Zk1/\L2.FunAt (L2.KOf KX) mg "none_seal" My.Zro/\L2.FunAt (L2.KOf KX) mg "leaf_seal" My.Zlf/\L2.FunAt (L2.KOf KX) mg "pair_seal" My.Zrg/\L2.FunAt (L2.KOf KX) mg "book_seal" My.Zrf/\L2.FunAt (L2.KOf KX) mg "top_of" My.sTop/\L2.FunAt (L2.KOf KX) mg "path_of" My.Zrl/\L2.FunAt (L2.KOf KX) mg "growth_of" My.Zrt/\L2.FunAt (L2.KOf KX) mg "in_depth" My.sInD/\L2.FunAt (L2.KOf KX) mg "row_seal" My.sRow/\L2.FunAt (L2.KOf KX) mg "fork_seal" My.Zqo/\L2.FunAt (L2.KOf KX) mg "table_seal" My.Zsg/\L2.FunAt (L2.KOf KX) mg "part_of" My.Zhl/\L2.FunAt (L2.KOf KX) mg "top_of_part" My.Zfb/\L2.FunAt (L2.KOf KX) mg "is_key" My.Zkw/\L2.FunAt (L2.KOf KX) mg "read_key" My.Ze6/\L2.FunAt (L2.KOf KX) mg "read_at" My.Zhj/\L2.FunAt (L2.KOf KX) mg "take_step" My.Zko/\L2.FunAt (L2.KOf KX) mg "changed" My.Zfh/\L2.FunAt (L2.KOf KX) mg "check_place" My.Zg0/\L2.FunAt (L2.KOf KX) mg "_law_cell_at" My.Zrb/\L2.FunAt (L2.KOf KX) mg "_law_plain" My.Zi3/\L2.FunAt (L2.KOf KX) mg "_law_turned" My.Zf8/\L2.FunAt (L2.KOf KX) mg "_law_numbering" My.Zbq/\L2.FunAt (L2.KOf KX) mg "_law_seal_by" My.Zhs/\L2.FunAt (L2.KOf KX) mg "_law_draw" My.Zjv/\L2.FunAt (L2.KOf KX) mg "_law_word" My.Zh0/\L2.FunAt (L2.KOf KX) mg "_law_split" My.Zhc/\L2.FunAt (L2.KOf KX) mg "_law_top" My.Zqy/\L2.FunAt (L2.KOf KX) mg "_law_path" My.Zke/\L2.FunAt (L2.KOf KX) mg "_law_growth" My.Zkh/\L2.FunAt (L2.KOf KX) mg "_law_part" My.Zkl/\L2.FunAt (L2.KOf KX) mg "_law_table" My.Zqs/\L2.FunAt (L2.KOf KX) mg "_law_way" My.Zmj/\L2.FunAt (L2.KOf KX) mg "_law_text" My.Ziz/\L2.FunAt (L2.KOf KX) mg "_law_behind" My.Zhv/\L2.FunAt (L2.KOf KX) mg "_law_leaves" My.Zg1/\L2.FunAt (L2.KOf KX) mg "_law_left_out" My.Zli/\L2.FunAt (L2.KOf KX) mg "_law_asked" My.Zka/\L2.FunAt (L2.KOf KX) mg "_law_due" My.sDue/\L2.FunAt (L2.KOf KX) mg "_law_right" My.Zh7/\L2.FunAt (L2.KOf KX) mg "_law_spoilt" My.Zhx/\L2.FunAt (L2.KOf KX) mg "_law_added" My.Zim/\L2.FunAt (L2.KOf KX) mg "law" My.Zti:=by
   refine' ⟨?_,?_,?_,?_,?_,?_,?_,?_,?_,?_,?_,?_,?_,?_,?_,?_,?_,?_,?_,?_,?_,?_,?_,?_,?_,?_,?_,?_,?_,?_,?_,?_,?_,?_,?_,?_,?_,?_,?_,?_,?_,?_,?_,?_⟩
   all_goals (dsimp only[L2.KOf];refine' L2.Zqd KX G ?a ?l ?c ?k;case a | l | c | k=>k_is)
  have z0:mg "len" = none:=by
   refine' PySem.W.mg_none_of KX G ?z;(case z=>k_is)
  have z1:mg "range" = none:=by
   refine' PySem.W.mg_none_of KX G ?z;(case z=>k_is)
  have z2:mg "str" = none:=by
   refine' PySem.W.mg_none_of KX G ?z;(case z=>k_is)
  have z3:mg "sorted" = none:=by
   refine' PySem.W.mg_none_of KX G ?z;(case z=>k_is)
  have z4:mg "min" = none:=by
   refine' PySem.W.mg_none_of KX G ?z;(case z=>k_is)
  have z5:mg "int" = none:=by
   refine' PySem.W.mg_none_of KX G ?z;(case z=>k_is)
  have z6:mg "all" = none:=by
   refine' PySem.W.mg_none_of KX G ?z;(case z=>k_is)
  have z7:mg "enumerate" = none:=by
   refine' PySem.W.mg_none_of KX G ?z;(case z=>k_is)
  obtain⟨cR,cB,cE,cP,BR,ER,M_br⟩:∃ C cB cE cP,My.Zpe (L2.KOf KX) mg C cB cE/\My.Er11 (L2.KOf KX) mg cE C cP/\L2.MethAt (L2.KOf KX) C "__init__" "BadRow.__init__" My.Zde:=by
   dsimp only[L2.KOf]
   refine' My.br_mk KX G ?a1 ?a2 ?a4 ?lB ?lk ?l1 ?l2 ?e1 ?e2 ?b1 ?f1 ?lf ?cf ?kc ?c1 ?c2 ?c3 ?c4 ?ga ?gn ?fo ?sp ?tk ?mo ?sa ?no ?mi ?md ?mf ?mm ?sg ?t1 ?t3 ?g2 ?g3 ?g4 ?g5 ?g6 ?lE ?l3 ?e3 ?d1 ?d2 ?d3 ?d4 ?gE ?hE ?oE ?mE ?kE ?a5 ?lP ?kR ?kP ?kV ?mV ?n2 ?n3 ?m0
   (case a1 | a2 | a4 | lB | lk | l1 | l2=>k_is);(case e1=>rfl);(case e2=>rfl);(case b1 | f1 | lf=>k_is);(case cf=>rfl);(case kc | c1 | c2 | c3 | c4 | ga | gn | fo | sp | tk | mo | sa | no | mi | md | mf | mm | sg | t1 | t3 | g2 | g3 | g4 | g5=>k_is);(case g6=>kernel_rfl);(case lE | l3=>k_is);(case e3=>rfl);(case d1 | d2 | d3 | d4 | gE | hE | oE | mE | kE | a5 | lP | kR | kP | kV | mV=>k_is);(case n2=>decide);(case n3=>decide)
   case m0=>(refine' L2.Zeb ?a ?i ?l ?c ?k;case a | i | l | c | k=>k_is)
  obtain⟨cT,TT,MT,T_init,T_check,T_put,T_cut,T_head,T_way,T_twin,T_rows⟩:∃ C,My.Txt (L2.KOf KX) mg C/\(∃ fI,L2.Mk (L2.KOf KX) C fI)/\L2.Zpl (L2.KOf KX) C "__init__" "Table.__init__" My.Zmd [8]/\L2.MethAt (L2.KOf KX) C "check" "Table.check" My.Zfk/\L2.MethAt (L2.KOf KX) C "put" "Table.put" My.Zv7/\L2.MethAt (L2.KOf KX) C "cut" "Table.cut" My.Zwa/\L2.MethAt (L2.KOf KX) C "head" "Table.head" My.Zlv/\L2.MethAt (L2.KOf KX) C "way" "Table.way" My.Zu5/\L2.MethAt (L2.KOf KX) C "twin" "Table.twin" My.Zm0/\L2.MethAt (L2.KOf KX) C "rows" "Table.rows" My.Zmt:=by
   dsimp only[L2.KOf]
   refine' My.Zyq KX G ?aC ?pg ?hd ?po ?sa ?mk ?kc ?n0 ?n1 ?n2 ?aI ?iI ?m0 ?m1 ?m2 ?m3 ?m4 ?m5 ?m6 ?m7
   (case aC | pg | hd | po | sa | mk | kc | n0 | n1 | n2 | aI | iI=>k_is)
   case m0=>
    refine' L2.Zqp ?a ?i ?l ?c ?k ?t
    case a | i | l | c | k | t=>k_is
   case m1 | m2 | m3 | m4 | m5 | m6 | m7=>(refine' L2.Zeb ?a ?i ?l ?c ?k;case a | i | l | c | k=>k_is)
  obtain⟨C,TK,MK,K_init,K_add,K_size,K_sow,K_tb,K_text,K_th,K_head,K_path,K_growth,K_way,K_paper⟩:∃ C,My.TxK (L2.KOf KX) mg C/\(∃ fI,L2.Mk (L2.KOf KX) C fI)/\L2.MethV (L2.KOf KX) C "__init__" "Keeper.__init__" My.Zmy (.int 8)/\L2.MethAt (L2.KOf KX) C "add" "Keeper.add" My.Zwb/\L2.MethAt (L2.KOf KX) C "size" "Keeper.size" My.Zmz/\L2.MethAt (L2.KOf KX) C "size_or_whole" "Keeper.size_or_whole" My.Zv9/\L2.MethAt (L2.KOf KX) C "table_behind" "Keeper.table_behind" My.kTb/\L2.MethAt (L2.KOf KX) C "text" "Keeper.text" My.Zlq/\L2.MethAt (L2.KOf KX) C "table_head" "Keeper.table_head" My.kTh/\L2.MethV (L2.KOf KX) C "head" "Keeper.head" My.Zmk .non/\L2.MethV (L2.KOf KX) C "path" "Keeper.path" My.Zmw .non/\L2.MethV (L2.KOf KX) C "growth" "Keeper.growth" My.Zeu .non/\L2.MethAt (L2.KOf KX) C "way" "Keeper.way" My.Zwc/\L2.MethV (L2.KOf KX) C "paper" "Keeper.paper" My.Zgt .non:=by
   dsimp only[L2.KOf]
   refine' My.Zus KX G ?aC ?pg ?hd ?po ?sa ?mk ?kc ?n0 ?n1 ?n2 ?n3 ?n4 ?aI ?iI ?m0 ?m1 ?m2 ?m3 ?m4 ?m5 ?m6 ?m7 ?m8 ?m9 ?m10 ?m11
   (case aC | pg | hd | po | sa | mk | kc | n0 | n1 | n2 | n3 | n4 | aI | iI=>k_is)
   case m0=>
    refine' L2.Zee ?a ?i ?l ?c ?k ?t ?r
    case a | i | l | c | k | t=>k_is
    (case r=>exact⟨_,rfl⟩)
   case m1 | m2 | m3 | m4 | m5 | m6=>(refine' L2.Zeb ?a ?i ?l ?c ?k;case a | i | l | c | k=>k_is)
   case m7=>
    refine' L2.Zee ?a ?i ?l ?c ?k ?t ?r
    case a | i | l | c | k | t=>k_is
    (case r=>exact rfl)
   case m8=>
    refine' L2.Zee ?a ?i ?l ?c ?k ?t ?r
    case a | i | l | c | k | t=>k_is
    (case r=>exact rfl)
   case m9=>
    refine' L2.Zee ?a ?i ?l ?c ?k ?t ?r
    case a | i | l | c | k | t=>k_is
    (case r=>exact rfl)
   case m10=>(refine' L2.Zeb ?a ?i ?l ?c ?k;case a | i | l | c | k=>k_is)
   case m11=>
    refine' L2.Zee ?a ?i ?l ?c ?k ?t ?r
    case a | i | l | c | k | t=>k_is
    (case r=>exact rfl)
  obtain⟨fd,hb,hF⟩:=L2.Zwm (x:="_law_script") (ps:=["_law_script"]) hmg F_law (fun base kb nb hC hB=>My.Zys (P:=PySem.Challenge.rw_growbook_k11_keeper.prog) (w:=w) (base:=base) kb nb ⟨hC,hB,TB⟩ F_split F_none F_leaf F_pair F_book F_top F_path F_grow F_ind F_row F_fork F_tabs F_part F_topp F_isk F_rdk F_rda F_tks F_chg F_ckp F_cell F_plain F_turned F_numbering F_sealby F_draw F_word F_lsplit F_ltop F_lpath F_lgrow F_lpart F_ltab F_lway F_text F_behind F_leaves F_lo F_ask F_due F_right F_spoilt F_added F_law z0 z1 z2 z3 z4 z5 z6 z7 TT MT T_init T_check T_put T_cut T_head T_way T_twin T_rows TK MK K_init K_add K_size K_sow K_tb K_text K_th K_head K_path K_growth K_way K_paper BR ER M_br)
  exact⟨fd,hb,hF⟩
 case S=>
  intro K mg Pt H a ns hl hS hScr hP
  exact⟨a,ns,rfl,My.Zyc hS hScr,hl,hP,fun _=>rfl⟩
#print axioms PySem.Challenge.cw_growbook_k11_keeper_holds
