import PyProof.Rows.All
import Wide.All
import OpenK.AllK
import Wide.FinOn
import Lean
import PyProof.EqAt
import PyProof.EqKinds
import PyProof.TupleCall
import KE.BitLaws
import KE.KMinKey
import KE.KLam
import KE.KClos
import KE.KIntText
import KE.KDictList
import PySem.Challenge.RW_lampforge_k37_rows_good_or_not
open PySem.W (instObj methodObj lookIn plainGet hasDictIn findIn plainGet_of isFn plainOver takerIn makesIn emptyDict keepIn kia_one callWith_K fnOf codeIn tabObj noTabs envX nsIn tabIn mg_of mg_none_of behindTheImports boot_heap boot_drawn boot_toks segRunT piecesOf piece_app segRun_of xlAt recOk kHook)
set_option genSizeOfSpec false
noncomputable section
set_option Elab.async false
set_option linter.all false
set_option maxRecDepth 100000
namespace L2
open PySem PySem.Spec PyProof.Rows
abbrev Key:=Sum Int Str
def keyIs:Key->Value->Bool
 | .inl k,v=>Value.isInt k v
 | .inr x,v=>Value.isStrOf x v
def keyH(w:World):Key->Int
 | .inl k=>hashInt k
 | .inr x=>hashStr w x
theorem y_f:∀ {k:Key} {v:Value},keyIs k v=true->(∃ i t,k=Sum.inl i/\v=Value.int i t)\/(∃ x t,k=Sum.inr x/\v=Value.str x t)
 | .inl i,v,h=>by
  obtain ⟨t,e⟩:=Value.isInt_shape (k:=i) (v:=v) h
  exact .inl ⟨i,t,rfl,e⟩
 | .inr x,v,h=>by
  obtain ⟨t,e⟩:=Value.isStrOf_shape (x:=x) (v:=v) h
  exact .inr ⟨x,t,rfl,e⟩
theorem l_o(i:Int)(t:Tok):keyIs (.inl i) (.int i t)=true:=by simp [keyIs,Value.isInt]
theorem l_p(x:Str)(t:Tok):keyIs (.inr x) (.str x t)=true:=by simp [keyIs,Value.isStrOf]
theorem key_ll(a b:Int):decide ((Sum.inl a:Key)=Sum.inl b)=(a == b):=by
 by_cases e:a=b
 ·subst e;simp
 ·have h:¬(Sum.inl a:Key)=Sum.inl b:=fun q=>e (Sum.inl.inj q)
  rw [decide_eq_false h]
  exact (beq_eq_false_iff_ne.mpr e).symm
theorem key_rr(a b:Str):decide ((Sum.inr a:Key)=Sum.inr b)=decide (a=b):=by
 by_cases e:a=b
 ·subst e;simp
 ·have h:¬(Sum.inr a:Key)=Sum.inr b:=fun q=>e (Sum.inr.inj q)
  rw [decide_eq_false h,decide_eq_false e]
theorem key_lr(a:Int)(b:Str):decide ((Sum.inl a:Key)=Sum.inr b)=false:=decide_eq_false (fun q=>nomatch q)
theorem key_rl(a:Str)(b:Int):decide ((Sum.inr a:Key)=Sum.inl b)=false:=decide_eq_false (fun q=>nomatch q)
def mixKind(prog:Program)(w:World):PySem.KeyKind prog w Key where
 is:=keyIs
 hash:=keyH w
 inj:=fun v a b ha hb=>by
  rcases y_f ha with ⟨i,t,rfl,rfl⟩ | ⟨x,t,rfl,rfl⟩
  ·rcases y_f hb with ⟨j,u,rfl,e⟩ | ⟨y,u,rfl,e⟩
   ·injection e with e1 _;rw [e1]
   ·exact nomatch e
  ·rcases y_f hb with ⟨j,u,rfl,e⟩ | ⟨y,u,rfl,e⟩
   ·exact nomatch e
   ·injection e with e1 _;rw [e1]
 byValue:=fun k v h=>by
  rcases y_f h with ⟨i,t,rfl,rfl⟩ | ⟨x,t,rfl,rfl⟩<;>rfl
 pyHash:=fun hv h=>by
  rcases y_f hv with ⟨i,t,rfl,rfl⟩ | ⟨x,t,rfl,rfl⟩
  ·exact wpAny_pyHash_int h
  ·exact wpAny_pyHash_str h
 eqBool:=fun hu hv h=>by
  rcases y_f hu with ⟨i,t,rfl,rfl⟩ | ⟨x,t,rfl,rfl⟩
  ·rcases y_f hv with ⟨j,u,rfl,rfl⟩ | ⟨y,u,rfl,rfl⟩
   ·rw [key_ll] at h;exact wpAny_eqBool_int h
   ·rw [key_lr] at h;exact SeqAt.EqAt.int_str i t y u _ _ _ _ h
  ·rcases y_f hv with ⟨j,u,rfl,rfl⟩ | ⟨y,u,rfl,rfl⟩
   ·rw [key_rl] at h;exact SeqAt.EqAt.str_int x t j u _ _ _ _ h
   ·rw [key_rr] at h;exact wpAny_eqBool_str h
 «strs» := fun k x t v h=>by
  rcases y_f h with ⟨i,u,rfl,e⟩ | ⟨y,u,rfl,e⟩
  ·exact nomatch e
  ·injection e with e1 _
   subst e1
   cases v<;>rfl
theorem p_g(prog:Program)(w:World)(i:Int)(t:Tok):(mixKind prog w).is (.inl i) (.int i t)=true:=l_o i t
theorem p_h(prog:Program)(w:World)(x:Str)(t:Tok):(mixKind prog w).is (.inr x) (.str x t)=true:=l_p x t
inductive V where
 | non | bl (b:Bool) | int (i:Int) | str (x:Str) | byt (b:Array UInt8) | flt (b:UInt64) | ref (a:Addr) | ty (n:String)
 deriving DecidableEq
def RelV:V->Value->Prop
 | .non,u=>u=Value.none
 | .bl b,u=>u=Value.bool b
 | .int i,u=>∃ t,u=Value.int i t
 | .str x,u=>∃ t,u=Value.str x t
 | .byt b,u=>∃ t,u=Value.bytes b t
 | .flt b,u=>∃ t,u=Value.float b t
 | .ref a,u=>u=Value.ref a
 | .ty n,u=>u=Value.type n
abbrev Vals:List V->List Value->Prop:=Paired RelV
theorem Vals.length{xs:List V}{us:List Value}(r:Vals xs us):xs.length=us.length:=Paired.length r
theorem Vals.get:∀ {xs:List V} {us:List Value} {i:Nat} {x:V},Vals xs us->xs[i]? = some x->∃ u,us[i]? = some u/\RelV x u
 | _,_,_,_,.nil,e=>by simp at e
 | _,_,0,_,.cons r _,e=>by simp at e;subst e;exact ⟨_,rfl,r⟩
 | _,_,i+1,x,.cons _ t,e=>by
  obtain ⟨u,h1,h2⟩:=Vals.get (i:=i) (x:=x) t (by simpa using e)
  exact ⟨u,by simpa using h1,h2⟩
theorem Vals.set{x:V}{u:Value}(r:RelV x u):∀ {xs:List V} {us:List Value} (i:Nat),Vals xs us->Vals (xs.set i x) (us.set i u)
 | _,_,_,.nil=>.nil
 | _,_,0,.cons _ t=>.cons r t
 | _,_,i+1,.cons q t=>.cons q (Vals.set r i t)
theorem Vals.append:∀ {xs ys:List V} {us ws:List Value},Vals xs us->Vals ys ws->Vals (xs++ys) (us++ws)
 | _,_,_,_,.nil,s=>s
 | _,_,_,_,.cons r t,s=>.cons r (Vals.append t s)
theorem Vals.take:∀ {xs:List V} {us:List Value} (n:Nat),Vals xs us->Vals (xs.take n) (us.take n)
 | _,_,0,_=>.nil
 | _,_,_+1,.nil=>.nil
 | _,_,n+1,.cons r t=>.cons r (Vals.take n t)
theorem Vals.drop:∀ {xs:List V} {us:List Value} (n:Nat),Vals xs us->Vals (xs.drop n) (us.drop n)
 | _,_,0,r=>r
 | _,_,_+1,.nil=>.nil
 | _,_,n+1,.cons _ t=>Vals.drop n t
def RelO:Option V->Option Value->Prop
 | some v,some u=>RelV v u
 | none,none=>True
 | _,_=>False
def KV{κ:Type}:List (κ×V)->List (κ×Value)->Prop:=Paired fun (p:κ×V) (q:κ×Value)=>p.1=q.1/\RelV p.2 q.2
def kV:Key->V
 | .inl i=>.int i
 | .inr x=>.str x
inductive HO where
 | lst (xs:List V)
 | tup (xs:List V)
 | dK (kvs:List (Key×V)) | dT (kvs:List (List Key×V))
 | set (S:Int->Bool) (n:Nat)
 | ins (C dx:Addr) (fs:List (Str×V))
 | own (x:Addr)
 | xd (fs:List (Str×V))
 | met (f x:Addr)
 | rng (lo hi:Int)
 | frz (o:Obj) (u:HO)
 | tbl (pos:Pos) (qual:Str)
 | ext (φ:Heap->Prop)
abbrev Hp:=Addr->Option HO
def upd(H:Hp)(a:Addr)(o:HO):Hp:=fun b=>if b=a then some o else H b
theorem z_c{H:Hp}{a:Addr}{o:HO}:upd H a o a=some o:=by unfold upd;rw [if_pos rfl]
theorem z_n{H:Hp}{a b:Addr}{o:HO}(h:b≠a):upd H a o b=H b:=by unfold upd;rw [if_neg h]
theorem ne_of{H:Hp}{a b:Addr}{o u:HO}(h:H a=some o)(h':H b=some u)(d:o≠u):a≠b:=by
 intro e;subst e;rw [h] at h';exact d (Option.some.inj h')
theorem z_g{H:Hp}{a b:Addr}{o:HO}(h:H a=some o)(h':H b=none):a≠b:=by
 intro e;subst e;rw [h] at h';cases h'
section
variable (P:Program) (w:World)
def ObjOk(H:Hp)(h:Heap)(a:Addr):HO->Prop
 | .lst xs=>xs.length<=sizeLine/\∃ (its:List Value) (n:Nat),Vals xs its/\h.get? a=some { cls:=.type "list",data:=.seq its.toArray n }
 | .tup xs=>xs.length<=sizeLine/\∃ its:List Value,Vals xs its/\IsTup h a its.toArray
 | .dK kvs=>kvs.length<=sizeLine/\(a == sysModules)=false/\∃ vs,KV kvs vs/\h.DictOf (mixKind P w) a vs
 | .dT kvs=>kvs.length<=sizeLine/\(a == sysModules)=false/\∃ xs:List (List Key×Addr×Value),
   Paired (fun (p:List Key×V) (q:List Key×Addr×Value)=>p.1=q.1/\H q.2.1=some (.tup (p.1.map kV))/\RelV p.2 q.2.2) kvs xs /\
   ∃ o es ep,h.get? a=some o/\o.ExactDict/\o.data = .dict es ep/\es.toList=xs.map (entryOfKey (tupleKind (mixKind P w)))/\(xs.map (·.1)).Nodup
 | .set S n=>h.SetOf (intKind P w) a S n
 | .ins C dx fs=>H dx=some (.own a)/\fs.length<=1000/\dx≠a/\h.get? a=some (instObj C dx) /\
   ∃ mA,h.Ns1 dx mA/\(∀ f,RelO (fs.lookup f) (mA f))/\PySem.Within mA (fs.map (·.1))
 | .own _=>∃ o,h.get? a=some o
 | .xd fs=>∃ mA,h.Ns1 a mA/\∀ f,RelO (fs.lookup f) (mA f)
 | .rng lo hi=>∃ t u v,h.get? a=some { cls:=.type "range",data:=.fields #[.int lo t,.int hi u,.int 1 v] }
 | .frz o u=>h.get? a=some o/\ObjOk H h a u
 | .tbl pos qual=>∃ ps:Array Value,h.get? a=some { cls:=.none,data:=.fields ps }/\TriplesOk ps.toList/\(codeAmong pos ps.toList=none\/∃ c oc vs tq,codeAmong pos ps.toList=some (.ref c)/\H c=some (.frz oc (.own a))/\oc.data = .fields vs/\vs[1]? = some (.str qual tq))
 | .met f x=>h.get? a=some (methodObj (.ref f) (.ref x))
 | .ext φ=>φ h/\(∃ o,h.get? a=some o)/\∀ h1 h2:Heap,φ h1->(∀ o,h1.get? a=some o->h2.get? a=some o)->φ h2
def HOk(H:Hp)(h:Heap):Prop:=∀ a o,H a=some o->ObjOk P w H h a o
end
section
variable {P:Program} {w:World} {H H':Hp} {h h':Heap} {a:Addr} {o:HO}
theorem ObjOk.lt(x:ObjOk P w H h a o):a<h.objs.size:=by
 cases o with
 | lst xs=>obtain ⟨_,_,_,_,e⟩:=x;exact Heap.lt_size e
 | tup xs=>obtain ⟨_,_,_,p⟩:=x;exact p.lt
 | dK kvs=>obtain ⟨_,_,_,_,o,_,_,e,_⟩:=x;exact Heap.lt_size e
 | dT kvs=>obtain ⟨_,_,_,_,o,_,_,e,_⟩:=x;exact Heap.lt_size e
 | set S n=>obtain ⟨o,_,_,_,e,_⟩:=x;exact Heap.lt_size e
 | ins C dx fs=>obtain ⟨_,_,_,e,_⟩:=x;exact Heap.lt_size e
 | own y=>obtain ⟨_,e⟩:=x;exact Heap.lt_size e
 | xd fs=>obtain ⟨_,⟨_,_,_,e,_⟩,_⟩:=x;exact Heap.lt_size e
 | rng lo hi=>obtain ⟨_,_,_,e⟩:=x;exact Heap.lt_size e
 | frz ob u=>obtain ⟨e,_⟩:=x;exact Heap.lt_size e
 | tbl pos qual=>obtain ⟨_,e,_⟩:=x;exact Heap.lt_size e
 | met f y=>exact Heap.lt_size (show h.get? a=some _ from x)
 | ext φ=>obtain ⟨_,⟨_,e⟩,_⟩:=x;exact Heap.lt_size e
theorem Paired.mapP{α β:Type}{F G:α->β->Prop}:∀ {l₁:List α} {l₂:List β},Paired F l₁ l₂->(∀ a b,F a b->G a b)->Paired G l₁ l₂
 | _,_,.nil,_=>.nil
 | _,_,.cons r t,f=>.cons (f _ _ r) (Paired.mapP t f)
theorem ObjOk.stay(x:ObjOk P w H h a o)(k:∀ b u,(b=a\/H b=some (.own a))->h.get? b=some u->h'.get? b=some u)
  (ho:∀ b,H b=some (.own a)->H' b=some (.own a)) (ht:∀ b xs,H b=some (.tup xs)->H' b=some (.tup xs)) (hz:∀ b o u,H b=some (.frz o u)->H' b=some (.frz o u)):ObjOk P w H' h' a o:=by
 induction o with
 | lst xs=>obtain ⟨z,its,n,r,e⟩:=x;exact ⟨z,its,n,r,k _ _ (.inl rfl) e⟩
 | tup xs=>obtain ⟨z,its,r,ob,e,c⟩:=x;exact ⟨z,its,r,ob,k _ _ (.inl rfl) e,c⟩
 | dK kvs=>obtain ⟨z,y,vs,r,ob,es,ep,e,c⟩:=x;exact ⟨z,y,vs,r,ob,es,ep,k _ _ (.inl rfl) e,c⟩
 | dT kvs =>
  obtain ⟨z,y,xs,r,ob,es,ep,e,c⟩:=x
  exact ⟨z,y,xs,Paired.mapP r fun p q z=>⟨z.1,ht _ _ z.2.1,z.2.2⟩,ob,es,ep,k _ _ (.inl rfl) e,c⟩
 | set S n=>obtain ⟨ob,es,ep,t,e,c⟩:=x;exact ⟨ob,es,ep,t,k _ _ (.inl rfl) e,c⟩
 | ins C dx fs =>
  obtain ⟨d,z,ne,e,mA,⟨od,es,ep,e2,c⟩,r⟩:=x
  exact ⟨ho _ d,z,ne,k _ _ (.inl rfl) e,mA,⟨od,es,ep,k _ _ (.inr d) e2,c⟩,r⟩
 | own y=>obtain ⟨ob,e⟩:=x;exact ⟨ob,k _ _ (.inl rfl) e⟩
 | xd fs=>obtain ⟨mA,⟨od,es,ep,e,c⟩,r⟩:=x;exact ⟨mA,⟨od,es,ep,k _ _ (.inl rfl) e,c⟩,r⟩
 | rng lo hi=>obtain ⟨t,u,v,e⟩:=x;exact ⟨t,u,v,k _ _ (.inl rfl) e⟩
 | frz ob u ih=>obtain ⟨e,q⟩:=x;exact ⟨k _ _ (.inl rfl) e,ih q⟩
 | tbl pos qual =>
  obtain ⟨ps,e,t,c⟩:=x
  refine ⟨ps,k a _ (.inl rfl) e,t,?_⟩
  rcases c with c | ⟨c,oc,vs,tq,c1,c2,c3⟩
  ·exact .inl c
  ·exact .inr ⟨c,oc,vs,tq,c1,hz _ _ _ c2,c3⟩
 | met f y =>
  have e:h.get? a=some (methodObj (.ref f) (.ref y)):=x
  show h'.get? a=some (methodObj (.ref f) (.ref y))
  exact k a _ (.inl rfl) e
 | ext φ=>obtain ⟨p,⟨o,e⟩,st⟩:=x;exact ⟨st _ _ p fun o q=>k _ _ (.inl rfl) q,⟨o,k _ _ (.inl rfl) e⟩,st⟩
theorem HOk.lt(x:HOk P w H h)(e:H a=some o):a<h.objs.size:=(x a o e).lt
theorem HOk.fresh(x:HOk P w H h)(e:h.objs.size<=a):H a=none:=by
 cases q:H a with
 | none=>rfl
 | some u=>exact absurd (Nat.lt_of_lt_of_le (x.lt q) e) (Nat.lt_irrefl _)
theorem HOk.kept(x:HOk P w H h)(k:∀ b u,h.get? b=some u->h'.get? b=some u):HOk P w H h':=fun a o e =>
 (x a o e).stay (fun b u _ q=>k b u q) (fun _ q=>q) (fun _ _ q=>q) fun _ _ _ q=>q
theorem HOk.laid(x:HOk P w H h)(k:∀ b u,h.get? b=some u->h'.get? b=some u)(hp:h.objs.size<=a)(new:ObjOk P w (upd H a o) h' a o):HOk P w (upd H a o) h':=fun b u e=>by
 have hn:=x.fresh hp
 by_cases hb:b=a
 ·subst hb;rw [z_c] at e;cases e;exact new
 ·rw [z_n hb] at e
  exact (x b u e).stay (fun c v _ q=>k c v q) (fun c q=>by rw [z_n (z_g q hn)];exact q) (fun c xs q=>by rw [z_n (z_g q hn)];exact q) fun c ob xs q=>by rw [z_n (z_g q hn)];exact q
end
def Rd(H:Hp)(a:Addr)(u:HO):Prop:=H a=some u\/∃ o,H a=some (.frz o u)
theorem Rd.ok{P:Program}{w:World}{H:Hp}{h:Heap}{a:Addr}{u:HO}(r:Rd H a u)(x:HOk P w H h):ObjOk P w H h a u:=by
 rcases r with r | ⟨o,r⟩
 ·exact x a u r
 ·obtain ⟨_,q⟩:=x a _ r
  exact q
def Mut:Option HO->Prop
 | some (.lst _)=>True
 | some (.dK _)=>True
 | some (.dT _)=>True
 | some (.set _ _)=>True
 | some (.ins _ _ _)=>True
 | some (.ext _)=>True
 | _=>False
section
variable {P:Program} {w:World} {H:Hp} {h h':Heap} {x e:Addr} {o':HO}
theorem HOk.write(ok:HOk P w H h)(mu:Mut (H x))(he:e=x\/H e=some (.own x))(k:∀ b u,b≠e->h.get? b=some u->h'.get? b=some u)(heo:∃ u,h'.get? e=some u)
  (new:ObjOk P w (upd H x o') h' x o'):HOk P w (upd H x o') h':=fun b u q=>by
 have nown:∀ c y,H c=some (.own y)->c≠x:=fun c y r z=>by subst z;rw [r] at mu;exact mu
 have ntup:∀ c xs,H c=some (.tup xs)->c≠x:=fun c xs r z=>by subst z;rw [r] at mu;exact mu
 by_cases hb:b=x
 ·subst hb;rw [z_c] at q;cases q;exact new
 ·rw [z_n hb] at q
  by_cases hbe:b=e
  ·have q':H b=some (.own x):=by
    rcases he with z | z
    ·exact absurd (hbe.trans z) hb
    ·rw [hbe];exact z
   rw [q] at q';cases q'
   obtain ⟨v,hv⟩:=heo
   exact ⟨v,by rw [hbe];exact hv⟩
  ·refine (ok b u q).stay (fun c v hc r=>k c v ?_ r) (fun c r=>by rw [z_n (nown c b r)];exact r) (fun c xs r=>by rw [z_n (ntup c xs r)];exact r) fun c ob xs r=>by rw [z_n (fun z=>by subst z;rw [r] at mu;exact mu)];exact r
   rcases hc with rfl | hc
   ·exact hbe
   ·rintro rfl
    rcases he with z | z
    ·exact nown c b hc z
    ·rw [hc] at z;cases z;exact hb rfl
end
structure Un(fs ex:List Addr)(H H':Hp)(h h':Heap):Prop where
 keep:∀ b o,h.get? b=some o->H b=none->b∉fs->b∉ex->h'.get? b=some o
 slot:∀ b o,h.get? b=some o->H b=none->b∈fs->b∉ex->∃ sl,h'.get? b=some { o with slots:=sl }
 free:∀ b o,h.get? b=some o->H b=none->b∉ex->H' b=none
 there:∀ b o,h.get? b=some o->b∉ex->∃ o',h'.get? b=some o'
 tups:∀ b xs,H b=some (.tup xs)->H' b=some (.tup xs)
 frzs:∀ b o u,H b=some (.frz o u)->H' b=some (.frz o u)
 tbls:∀ b p q,H b=some (.tbl p q)->H' b=some (.tbl p q)
section
variable {fs fs' ex ex':List Addr} {H H1 H2:Hp} {h h1 h2 h':Heap} {a x e:Addr} {o:HO}
theorem Un.any(u:Un fs ex H H1 h h1){b:Addr}{ob:Obj}(q:h.get? b=some ob)(n:H b=none)(hx:b∉ex):∃ sl,h1.get? b=some { ob with slots:=sl }:=by
 by_cases hb:b∈fs
 ·exact u.slot b ob q n hb hx
 ·exact ⟨ob.slots,u.keep b ob q n hb hx⟩
theorem Un.kept(k:∀ b u,h.get? b=some u->h'.get? b=some u):Un fs ex H H h h' :=
 ⟨fun b ob q _ _ _=>k b ob q,fun b ob q _ _ _=>⟨ob.slots,k b ob q⟩,fun _ _ _ n _=>n,fun b ob q _=>⟨ob,k b ob q⟩,fun _ _ q=>q,fun _ _ _ q=>q,fun _ _ _ q=>q⟩
theorem Un.refl:Un fs ex H H h h:=Un.kept fun _ _ q=>q
theorem Un.laid(k:∀ b u,h.get? b=some u->h'.get? b=some u)(hp:h.objs.size<=a)(hn:H a=none):Un fs ex H (upd H a o) h h' where
 keep:=fun b u q _ _ _=>k b u q
 slot:=fun b u q _ _ _=>⟨u.slots,k b u q⟩
 free:=fun b u q n _=>by rw [z_n (Nat.ne_of_lt (Nat.lt_of_lt_of_le (Heap.lt_size q) hp))];exact n
 there:=fun b u q _=>⟨u,k b u q⟩
 tups:=fun b xs q=>by rw [z_n (z_g q hn)];exact q
 frzs:=fun b u xs q=>by rw [z_n (z_g q hn)];exact q
 tbls:=fun b p q z=>by rw [z_n (z_g z hn)];exact z
theorem Un.write(mu:Mut (H x))(he:e=x\/H e=some (.own x))(k:∀ b u,b≠e->h.get? b=some u->h'.get? b=some u)(heo:∃ u,h'.get? e=some u):Un fs ex H (upd H x o) h h':=by
 have hx:∀ b,H b=none->b≠x:=fun b n z=>by subst z;rw [n] at mu;exact mu
 have hb:∀ b,H b=none->b≠e:=fun b n z=>by
  subst z
  rcases he with r | r
  ·exact hx b n r
  ·rw [n] at r;cases r
 have hm:∀ b u,H b=some u->¬Mut (some u)->b≠x:=fun b u q nm z=>by subst z;rw [q] at mu;exact nm mu
 refine ⟨fun b u q n _ _=>k b u (hb b n) q,fun b u q n _ _=>⟨u.slots,k b u (hb b n) q⟩,fun b u q n _=>by rw [z_n (hx b n)];exact n,fun b u q _=>?_,
  fun b xs q=>by rw [z_n (hm b _ q fun z=>z)];exact q,fun b u xs q=>by rw [z_n (hm b _ q fun z=>z)];exact q,fun b p q z=>by rw [z_n (hm b _ z fun y=>y)];exact z⟩
 by_cases hbe:b=e
 ·subst hbe;exact heo
 ·exact ⟨u,k b u hbe q⟩
end
def trk(h:Heap)(H:Hp):List Addr:=(List.range h.objs.size).filter fun a=>(H a).isSome
def hidT(h:Heap)(H:Hp):Heap:=PySem.W.hideAll h (trk h H)
theorem l_i(h:Heap)(H:Hp):(hidT h H).objs.size=h.objs.size:=PySem.W.hideAll_size _ _
theorem hidT_get{h:Heap}{H:Hp}{b:Addr}{o:Obj}(e:h.get? b=some o)(n:H b=none):(hidT h H).get? b=some o :=
 PySem.W.hideAll_get _ e fun hm=>by
  have q:(H b).isSome=true:=(List.mem_filter.mp hm).2
  rw [n] at q;simp at q
theorem of_hidT{h:Heap}{H:Hp}{b:Addr}{o:Obj}(e:(hidT h H).get? b=some o):h.get? b=some o/\H b=none:=by
 have e':h.get? b=some o:=PySem.W.of_hideAll (trk h H) e
 refine ⟨e',?_⟩
 cases q:H b with
 | none=>rfl
 | some x =>
  have hm:b∈trk h H:=List.mem_filter.mpr ⟨List.mem_range.mpr (Heap.lt_size e'),by simp [q]⟩
  have z:(hidT h H).get? b=none:=PySem.W.hideAll_none (trk h H) hm
  rw [z] at e;cases e
open PySem PySem.Spec PyProof.Rows
structure Mod(K:PySem.W.Frag)(mg:Str->Option Value)(base:Heap):Prop where
 kin:K.In base
 glob:base.Ns mainGlobals mg
 blt:∃ mb,base.Ns builtinsNs mb/\∀ x:Str,x ≠ "__name__" -> mb x=bootBuiltins x
 nolimit:base.NoLimit
structure Cx where
 prog:Program
 w:World
 K:PySem.W.Frag
 mg:Str->Option Value
 base:Heap
 A:Around
 N:List Str
 s₀:Shared
 H₀:Hp
 env:Env
 outer:List Env
 stack:List Env
 ex:List Addr
 fn:Str->Bool
 calm:Bool
 pn:List (Addr×Obj)
 xe:Value->Shared->Prop
def frs(l:List Env):List Addr:=l.filterMap (·.frame)
abbrev Cx.fs(X:Cx):List Addr:=frs X.outer
def Vis(sc:Scope)(x:Str):Prop:=sc.names.lookup x=some .local\/sc.names.lookup x=some .cell\/sc.names.lookup x=some .free
def Loc(sc:Scope)(x:Str):Prop:=sc.names.lookup x=some .local\/sc.names.lookup x=some .cell
def Look(env:Env)(h:Heap)(m:Str->Option Value)(x:Str)(u:Value):Prop :=
 (env.kindOf x=some .local/\m x=some u)\/((env.kindOf x=some .cell\/env.kindOf x=some .free)/\∃ c,env.cells.lookup x=some c/\h.IsCell c (some u))
structure Cx.Ok(X:Cx):Prop where
 mod:Mod X.K X.mg X.base
 kind:X.env.scope.kind = .function
 glob:X.env.globals=mainGlobals
 blt:X.env.builtins=builtinsNs
 above:X.s₀.heap.objs.size<=X.env.locals
 inj:∀ x y c,X.env.cells.lookup x=some c->X.env.cells.lookup y=some c->x=y
 has:∀ x,(X.env.kindOf x=some .cell\/X.env.kindOf x=some .free)->∃ c,X.env.cells.lookup x=some c
 cab:∀ x c,X.fn x=true->X.env.cells.lookup x=some c->X.s₀.heap.objs.size<=c
 hd:X.calm=true->X.A.handled=none
 frames:X.A.frames=some X.stack
 gd:X.A.guards=some []
 stk:X.stack=X.outer\/(X.stack=X.env::X.outer/\X.env.frame=some X.env.locals)
 exf:∀ b∈X.ex,b≠X.env.locals/\∀ x c,X.env.cells.lookup x=some c->c≠b
 bs:∀ b o,X.base.get? b=some o->X.s₀.heap.get? b=some o/\X.H₀ b=none
 bsz:X.base.objs.size<=X.s₀.heap.objs.size
 noex:∀ b o,X.base.get? b=some o->b∉X.ex
 exfs:∀ b∈X.ex,b∉X.fs
 funs:X.s₀.heap.FunFrames X.base X.outer
 frf:∀ b∈X.fs,X.H₀ b=none
structure Inv(X:Cx)(pins:List (Addr×Obj))(σ:List (Option V))(H:Hp)(s:Shared):Prop where
 ok:X.Ok
 os:s.os=X.s₀.os
 bare:AllBare s.gens
 base:Un X.fs X.ex X.H₀ H X.s₀.heap s.heap
 loc:∃ m,s.heap.Ns X.env.locals m/\∀ (i:Nat) (x:Str) (v:V),X.N[i]? = some x->σ[i]? = some (some v)->Vis X.env.scope x->∃ u,RelV v u/\Look X.env s.heap m x u
 cell:∀ x c,X.env.cells.lookup x=some c->∃ v,s.heap.IsCell c v
 free:H X.env.locals=none
 freeC:∀ x c,X.env.cells.lookup x=some c->H c=none
 pin:∀ p∈X.pn++pins,s.heap.get? p.1=some p.2/\H p.1=none/\p.1≠X.env.locals/\p.1∉X.fs/\∀ v,p.2.data ≠ .cell v
 hok:HOk X.prog X.w H s.heap
 len:σ.length=X.N.length
section
variable {X:Cx} {pins:List (Addr×Obj)} {σ:List (Option V)} {H H':Hp} {s:Shared} {h':Heap}
theorem Cx.Ok.nofr(ok:X.Ok){b:Addr}{o:Obj}(e:X.base.get? b=some o):b∉X.fs:=fun hb=>by
 have:=(ok.funs.mem hb).1
 rw [e] at this;cases this
theorem Inv.bs(I:Inv X pins σ H s):∀ b o,X.base.get? b=some o->s.heap.get? b=some o/\H b=none:=fun b o e =>
 ⟨I.base.keep b o (I.ok.bs b o e).1 (I.ok.bs b o e).2 (I.ok.nofr e) (I.ok.noex b o e),I.base.free b o (I.ok.bs b o e).1 (I.ok.bs b o e).2 (I.ok.noex b o e)⟩
theorem Inv.bk(I:Inv X pins σ H s):∀ b o,X.base.get? b=some o->s.heap.get? b=some o:=fun b o e=>(I.bs b o e).1
theorem Inv.mod(I:Inv X pins σ H s):Mod X.K X.mg X.base:=I.ok.mod
theorem Inv.kIn(I:Inv X pins σ H s):X.K.In s.heap:=I.ok.mod.kin.keeps I.bk
theorem Inv.lt(I:Inv X pins σ H s):X.env.locals<s.heap.objs.size:=let ⟨_,hn,_⟩:=I.loc;hn.lt
theorem Inv.sz(I:Inv X pins σ H s):X.s₀.heap.objs.size<=s.heap.objs.size:=Nat.le_trans I.ok.above (Nat.le_of_lt I.lt)
theorem Inv.nofs(I:Inv X pins σ H s){a:Addr}(h:s.heap.objs.size<=a):a∉X.fs:=fun hb=>by
 obtain ⟨_,o,ho,_⟩:=I.ok.funs.mem hb
 exact absurd (Nat.lt_of_lt_of_le (Heap.lt_size ho) (Nat.le_trans I.sz h)) (Nat.lt_irrefl _)
theorem Inv.cne(I:Inv X pins σ H s):∀ x c,X.env.cells.lookup x=some c->c≠X.env.locals:=fun x c e z=>by
 obtain ⟨v,o,ho,hd⟩:=I.cell x c e
 obtain ⟨m,⟨o',es,ep,ho',hd',_⟩,_⟩:=I.loc
 rw [z,ho'] at ho;cases ho;rw [hd'] at hd;cases hd
theorem Inv.funs(I:Inv X pins σ H s):s.heap.FunFrames X.base X.outer:=by
 have all:∀ (l:List Env),(∀ b∈frs l,b∈X.fs)->X.s₀.heap.FunFrames X.base l->s.heap.FunFrames X.base l:=by
  intro l
  induction l with
  | nil=>intro _ _;trivial
  | cons env r ih =>
   intro hs hl
   obtain ⟨hk,⟨L,o,hf,hn,ho,hd⟩,hr⟩:=hl
   have hL:L∈X.fs:=hs L (by unfold frs;rw [List.filterMap_cons,hf];exact List.mem_cons_self)
   obtain ⟨sl,e⟩:=I.base.slot L o ho (I.ok.frf L hL) hL fun z=>I.ok.exfs L z hL
   exact ⟨hk,⟨L,_,hf,hn,e,hd⟩,ih (fun b hb=>hs b (by unfold frs;rw [List.filterMap_cons,hf];exact List.mem_cons_of_mem _ hb)) hr⟩
 exact all X.outer (fun _ hb=>hb) I.ok.funs
theorem Inv.stack(I:Inv X pins σ H s):s.heap.FunFrames X.base X.stack:=by
 rcases I.ok.stk with e | ⟨e,hf⟩
 ·rw [e];exact I.funs
 ·rw [e]
  obtain ⟨m,hn,_⟩:=I.loc
  refine .cons (by rw [I.ok.kind];decide) hf hn ?_ I.funs
  exact Heap.get?_none_of_le (Nat.le_trans I.ok.bsz I.ok.above)
theorem Inv.stkSub(I:Inv X pins σ H s):∀ b∈frs X.stack,b∈X.env.locals::X.fs:=fun b hb=>by
 rcases I.ok.stk with e | ⟨e,hf⟩
 ·rw [e] at hb;exact List.mem_cons_of_mem _ hb
 ·rw [e] at hb
  unfold frs at hb
  rw [List.filterMap_cons,hf] at hb
  exact hb
theorem Inv.stkFree(I:Inv X pins σ H s):∀ b∈frs X.stack,H b=none:=fun b hb=>by
 rcases List.mem_cons.mp (I.stkSub b hb) with e | hb
 ·rw [e];exact I.free
 ·obtain ⟨_,o,ho,_⟩:=I.ok.funs.mem hb
  exact I.base.free b o ho (I.ok.frf b hb) fun z=>I.ok.exfs b z hb
theorem Inv.step{g':Array GenState}{t':Nat}{d':Drawn}{ch:List Addr}(I:Inv X pins σ H s)
  (hch:∀ b∈ch,(b∈X.ex\/X.s₀.heap.objs.size<=b)/\b≠X.env.locals/\(∀ x c,X.env.cells.lookup x=some c->c≠b)/\∀ p∈X.pn++pins,p.1≠b)
  (keep:∀ b o,b≠X.env.locals->b∉X.fs->b∉ch->s.heap.get? b=some o->H b=none->h'.get? b=some o)
  (slot:∀ b o,b≠X.env.locals->b∈X.fs->b∉ch->s.heap.get? b=some o->H b=none->∃ sl,h'.get? b=some { o with slots:=sl }) (free:∀ b o,b∉ch->s.heap.get? b=some o->H b=none->H' b=none)
  (there:∀ b o,b∉ch->s.heap.get? b=some o->∃ o',h'.get? b=some o')
  (tups:∀ b xs,H b=some (.tup xs)->H' b=some (.tup xs)) (frzs:∀ b o u,H b=some (.frz o u)->H' b=some (.frz o u)) (tbls:∀ b p q,H b=some (.tbl p q)->H' b=some (.tbl p q))
  (ns:∀ m,s.heap.Ns X.env.locals m->h'.Ns X.env.locals m) (hok:HOk X.prog X.w H' h') (hg:AllBare g') :
  Inv X pins σ H' { s with heap:=h',gens:=g',drawn:=d',toks:=t' }:=by
 have neL:∀ b o,X.s₀.heap.get? b=some o->b≠X.env.locals:=fun b o e=>Nat.ne_of_lt (Nat.lt_of_lt_of_le (Heap.lt_size e) I.ok.above)
 have neC:∀ b o,X.s₀.heap.get? b=some o->b∉X.ex->b∉ch:=fun b o e hx hb=>by
  rcases (hch b hb).1 with z | z
  ·exact hx z
  ·exact absurd (Nat.lt_of_lt_of_le (Heap.lt_size e) z) (Nat.lt_irrefl _)
 have cellK:∀ x c,X.env.cells.lookup x=some c->∀ v,s.heap.IsCell c v->h'.IsCell c v:=fun x c e v ⟨o,ho,hd⟩=>by
  have nch:c∉ch:=fun z=>(hch c z).2.2.1 x c e rfl
  by_cases hc:c∈X.fs
  ·obtain ⟨sl,q⟩:=slot c o (I.cne x c e) hc nch ho (I.freeC x c e)
   exact ⟨_,q,hd⟩
  ·exact ⟨o,keep c o (I.cne x c e) hc nch ho (I.freeC x c e),hd⟩
 refine ⟨I.ok,I.os,hg,⟨fun b o e n hb hx=>?_,fun b o e n hb hx=>?_,fun b o e n hx=>?_,fun b o e hx=>?_,fun b xs e=>tups b xs (I.base.tups b xs e),fun b o xs e=>frzs b o xs (I.base.frzs b o xs e),fun b p q e=>tbls b p q (I.base.tbls b p q e)⟩,?_,fun x c e=>?_,?_,fun x c e=>?_,fun p hp=>?_,hok,I.len⟩
 ·exact keep b o (neL b o e) hb (neC b o e hx) (I.base.keep b o e n hb hx) (I.base.free b o e n hx)
 ·obtain ⟨sl,e1⟩:=I.base.slot b o e n hb hx
  obtain ⟨sl',e2⟩:=slot b _ (neL b o e) hb (neC b o e hx) e1 (I.base.free b o e n hx)
  exact ⟨sl',e2⟩
 ·obtain ⟨o',e1⟩:=I.base.there b o e hx
  exact free b o' (neC b o e hx) e1 (I.base.free b o e n hx)
 ·obtain ⟨o',e1⟩:=I.base.there b o e hx
  exact there b o' (neC b o e hx) e1
 ·obtain ⟨m,hn,hl⟩:=I.loc
  refine ⟨m,ns m hn,fun i x v e1 e2 e3=>?_⟩
  obtain ⟨u,r,l⟩:=hl i x v e1 e2 e3
  refine ⟨u,r,?_⟩
  rcases l with l | ⟨k,c,e,z⟩
  ·exact .inl l
  ·exact .inr ⟨k,c,e,cellK x c e _ z⟩
 ·obtain ⟨v,z⟩:=I.cell x c e
  exact ⟨v,cellK x c e v z⟩
 ·obtain ⟨m,⟨o,_,_,ho,_⟩,_⟩:=I.loc
  exact free _ o (fun z=>(hch _ z).2.1 rfl) ho I.free
 ·obtain ⟨v,o,ho,hd⟩:=I.cell x c e
  exact free c o (fun z=>(hch c z).2.2.1 x c e rfl) ho (I.freeC x c e)
 ·obtain ⟨e,n,ne,nf,d⟩:=I.pin p hp
  have nch:p.1∉ch:=fun z=>(hch p.1 z).2.2.2 p hp rfl
  exact ⟨keep p.1 p.2 ne nf nch e n,free p.1 p.2 nch e n,ne,nf,d⟩
theorem Inv.un{t':Nat}(I:Inv X pins σ H s)(u:Un X.fs [] H H' s.heap h')(hok:HOk X.prog X.w H' h'):Inv X pins σ H' { s with heap:=h',toks:=t' }:=by
 obtain ⟨m,⟨o,es,ep,ho,r⟩,_⟩:=id I.loc
 obtain ⟨sl,hL⟩:=u.any ho I.free (by simp)
 exact I.step (g':=s.gens) (d':=s.drawn) (ch:=[]) (fun _ z=>nomatch z) (fun b o _ hb _ e n=>u.keep b o e n hb (by simp)) (fun b o _ hb _ e n=>u.slot b o e n hb (by simp)) (fun b o _ e n=>u.free b o e n (by simp)) (fun b o _ e=>u.there b o e (by simp)) u.tups u.frzs u.tbls (fun m' hm=>by
  obtain ⟨o',es',ep',ho',r'⟩:=hm
  rw [ho] at ho';cases ho'
  exact ⟨_,es',ep',hL,r'⟩) hok I.bare
theorem Inv.call{g':Array GenState}{t':Nat}{d':Drawn}{ch:List Addr}(I:Inv X pins σ H s)(u:Un (frs X.stack) ch H H' s.heap h')(hok:HOk X.prog X.w H' h')(hg:AllBare g')
  (hch:∀ b∈ch,(b∈X.ex\/X.s₀.heap.objs.size<=b)/\b≠X.env.locals/\(∀ x c,X.env.cells.lookup x=some c->c≠b)/\∀ p∈X.pn++pins,p.1≠b) :
  Inv X pins σ H' { s with heap:=h',gens:=g',drawn:=d',toks:=t' }:=by
 obtain ⟨m,⟨o,es,ep,ho,r⟩,_⟩:=id I.loc
 obtain ⟨sl,hL⟩:=u.any ho I.free fun z=>(hch _ z).2.1 rfl
 exact I.step (ch:=ch) hch (fun b o hL hb hc e n=>u.keep b o e n (fun z=>(List.mem_cons.mp (I.stkSub b z)).elim hL hb) hc) (fun b o _ _ hc e n=>u.any e n hc) (fun b o hc e n=>u.free b o e n hc) (fun b o hc e=>u.there b o e hc) u.tups u.frzs u.tbls (fun m' hm=>by
  obtain ⟨o',es',ep',ho',r'⟩:=hm
  rw [ho] at ho';cases ho'
  exact ⟨_,es',ep',hL,r'⟩) hok hg
theorem Inv.turned{t':Nat}{it:Addr}(I:Inv X pins σ H s)(k:∀ b o,b≠it->s.heap.get? b=some o->h'.get? b=some o)(hn:H it=none)(hL:it≠X.env.locals)
  (h1:it∈X.ex\/X.s₀.heap.objs.size<=it) (h2:∀ x c,X.env.cells.lookup x=some c->c≠it) (h3:∀ p∈X.pn++pins,p.1≠it):Inv X pins σ H { s with heap:=h',toks:=t' }:=by
 have nit:∀ b u,H b=some u->b≠it:=fun b u e z=>by rw [z,hn] at e;cases e
 refine I.step (g':=s.gens) (d':=s.drawn) (ch:=[it]) (fun b hb=>?_) (fun b o _ _ hc e _=>k b o (fun z=>hc (by simp [z])) e) (fun b o _ _ hc e _=>⟨o.slots,k b o (fun z=>hc (by simp [z])) e⟩) (fun _ _ _ _ n=>n)
  (fun b o hc e=>⟨o,k b o (fun z=>hc (by simp [z])) e⟩) (fun _ _ e=>e) (fun _ _ _ e=>e) (fun _ _ _ e=>e) (fun m hm=>?_) (fun b u e=>?_) I.bare
 ·have e:b=it:=by simpa using hb
  subst e
  exact ⟨h1,hL,h2,h3⟩
 ·obtain ⟨o,es,ep,ho,r⟩:=hm
  exact ⟨o,es,ep,k _ o (Ne.symm hL) ho,r⟩
 ·refine (I.hok b u e).stay (fun c v hc q=>k c v ?_ q) (fun _ q=>q) (fun _ _ q=>q) fun _ _ _ q=>q
  rcases hc with z | z
  ·rw [z];exact nit b u e
  ·exact nit c _ z
theorem Inv.tok(I:Inv X pins σ H s)(t:Nat):Inv X pins σ H { s with toks:=t }:=I.un (h':=s.heap) (t':=t) Un.refl I.hok
theorem Inv.kept{t':Nat}(I:Inv X pins σ H s)(k:∀ b u,s.heap.get? b=some u->h'.get? b=some u):Inv X pins σ H { s with heap:=h',toks:=t' }:=I.un (Un.kept k) (I.hok.kept k)
theorem Inv.laid{a:Addr}{o:HO}{t':Nat}(I:Inv X pins σ H s)(k:∀ b u,s.heap.get? b=some u->h'.get? b=some u)(hp:s.heap.objs.size<=a)(new:ObjOk X.prog X.w (upd H a o) h' a o) :
  Inv X pins σ (upd H a o) { s with heap:=h',toks:=t' }:=I.un (Un.laid k hp (I.hok.fresh hp)) (I.hok.laid k hp new)
theorem Inv.write{x e:Addr}{o:HO}{t':Nat}(I:Inv X pins σ H s)(mu:Mut (H x))(he:e=x\/H e=some (.own x))(k:∀ b u,b≠e->s.heap.get? b=some u->h'.get? b=some u)(heo:∃ u,h'.get? e=some u)
  (new:ObjOk X.prog X.w (upd H x o) h' x o):Inv X pins σ (upd H x o) { s with heap:=h',toks:=t' }:=I.un (Un.write mu he k heo) (I.hok.write mu he k heo new)
theorem Inv.pins_of{pins':List (Addr×Obj)}(I:Inv X pins σ H s)(h:∀ p∈pins',s.heap.get? p.1=some p.2/\H p.1=none/\p.1≠X.env.locals/\p.1∉X.fs/\∀ v,p.2.data ≠ .cell v):Inv X pins' σ H s :=
 ⟨I.ok,I.os,I.bare,I.base,I.loc,I.cell,I.free,I.freeC,fun p hp=>(List.mem_append.mp hp).elim (fun z=>I.pin p (List.mem_append_left _ z)) (h p),I.hok,I.len⟩
theorem o_m{N:List Str}(hN:N.Nodup){i j:Nat}{x:Str}(a:N[i]? = some x)(b:N[j]? = some x):i=j:=by
 obtain ⟨h1,e1⟩:=List.getElem?_eq_some_iff.mp a
 obtain ⟨h2,e2⟩:=List.getElem?_eq_some_iff.mp b
 exact (List.getElem_inj hN).mp (e1.trans e2.symm)
theorem j_i{M:Model}{A:Around}{E:Value->Shared->Prop}{i:Nat}{x:Str}{v:V}{u:Value}{Q:Unit->Shared->Prop}(I:Inv X pins σ H s)(hN:X.N.Nodup)(hi:X.N[i]? = some x)(hx:Loc X.env.scope x)(r:RelV v u)
  (h:∀ s',Inv X pins (σ.set i (some v)) H s'->(∃ a,Heap.SameBut a s.heap s'.heap/\(a=X.env.locals\/X.env.cells.lookup x=some a))->Q () s') (hf:X.fn x=true\/X.env.scope.names.lookup x=some .local:=by first | exact .inl rfl | exact .inr rfl | assumption):wpAny M A (storeName X.env x u) Q E s:=by
 obtain ⟨m,hn,hl⟩:=id I.loc
 have hcls:(X.env.scope.kind == .class || (X.env.scope.kind == .module&&X.env.locals != X.env.globals))=false:=by rw [I.ok.kind];rfl
 have hiσ:i<σ.length:=by rw [I.len];exact (List.getElem?_eq_some_iff.mp hi).1
 have cne:=I.cne
 have tracked:∀ {a:Addr} {h':Heap},(∃ o,s.heap.get? a=some o/\H a=none)->Heap.SameBut a s.heap h'->HOk X.prog X.w H h':=fun {a h'} ha hs b ob e=>by
  obtain ⟨_,_,hfree⟩:=ha
  refine (I.hok b ob e).stay (fun c w' hc q=>(hs.2 c ?_).trans q) (fun _ q=>q) (fun _ _ q=>q) fun _ _ _ q=>q
  rintro rfl
  rcases hc with rfl | hc
  ·rw [hfree] at e;cases e
  ·rw [hfree] at hc;cases hc
 rcases hx with hk | hk
 ·refine wpAny_storeName_local hk hn (fun h' hn' hs=>?_) hcls
  obtain ⟨oL,_,_,hoL,_⟩:=id hn
  refine h _ ⟨I.ok,I.os,I.bare,⟨fun b o e n hb hx=>?_,fun b o e n hb hx=>?_,I.base.free,fun b o e hx=>?_,I.base.tups,I.base.frzs,I.base.tbls⟩,⟨_,hn',fun j y v' e1 e2 e3=>?_⟩,fun y c e=>?_,I.free,I.freeC,fun p hp=>?_,tracked ⟨oL,hoL,I.free⟩ hs,by simpa using I.len⟩ ⟨_,hs,.inl rfl⟩
  ·exact (hs.2 b (Nat.ne_of_lt (Nat.lt_of_lt_of_le (Heap.lt_size e) I.ok.above))).trans (I.base.keep b o e n hb hx)
  ·obtain ⟨sl,e1⟩:=I.base.slot b o e n hb hx
   exact ⟨sl,(hs.2 b (Nat.ne_of_lt (Nat.lt_of_lt_of_le (Heap.lt_size e) I.ok.above))).trans e1⟩
  ·obtain ⟨o',e1⟩:=I.base.there b o e hx
   exact ⟨o',(hs.2 b (Nat.ne_of_lt (Nat.lt_of_lt_of_le (Heap.lt_size e) I.ok.above))).trans e1⟩
  ·by_cases hj:j=i
   ·subst hj
    rw [hi] at e1;cases e1
    rw [List.getElem?_set_self hiσ] at e2
    cases e2
    exact ⟨u,r,.inl ⟨hk,by simp⟩⟩
   ·rw [List.getElem?_set_ne (Ne.symm hj)] at e2
    obtain ⟨u',r',q⟩:=hl j y v' e1 e2 e3
    refine ⟨u',r',?_⟩
    rcases q with ⟨k,e⟩ | ⟨k,c,e,z⟩
    ·refine .inl ⟨k,?_⟩
     have:y≠x:=fun e=>hj (o_m hN e1 (e▸hi))
     simp [this,e]
    ·exact .inr ⟨k,c,e,z.sameBut hs (cne y c e)⟩
  ·obtain ⟨w',z⟩:=I.cell y c e
   exact ⟨w',z.sameBut hs (cne y c e)⟩
  ·obtain ⟨e,n,ne,nf,d⟩:=I.pin p hp
   exact ⟨(hs.2 p.1 ne).trans e,n,ne,nf,d⟩
 ·have hfn:X.fn x=true:=by
   rcases hf with z | z
   ·exact z
   ·rw [z] at hk;cases hk
  obtain ⟨c,hc⟩:=I.ok.has x (.inl hk)
  obtain ⟨w',z⟩:=I.cell x c hc
  refine wpAny_storeName_cell I.ok.kind hk hc z (fun h' hc' hs=>?_)
  obtain ⟨oc,hoc,hocd⟩:=id z
  refine h { s with heap:=h' } ⟨I.ok,I.os,I.bare,⟨fun b o e n hb hx=>?_,fun b o e n hb hx=>?_,I.base.free,fun b o e hx=>?_,I.base.tups,I.base.frzs,I.base.tbls⟩,⟨m,hn.sameBut hs (Ne.symm (cne x c hc)),fun j y v' e1 e2 e3=>?_⟩,fun y c' e=>?_,I.free,I.freeC,fun p hp=>?_,tracked ⟨oc,hoc,I.freeC x c hc⟩ hs,by simpa using I.len⟩ ⟨c,hs,.inr hc⟩
  ·exact (hs.2 b (Nat.ne_of_lt (Nat.lt_of_lt_of_le (Heap.lt_size e) (I.ok.cab x c hfn hc)))).trans (I.base.keep b o e n hb hx)
  ·obtain ⟨sl,e1⟩:=I.base.slot b o e n hb hx
   exact ⟨sl,(hs.2 b (Nat.ne_of_lt (Nat.lt_of_lt_of_le (Heap.lt_size e) (I.ok.cab x c hfn hc)))).trans e1⟩
  ·obtain ⟨o',e1⟩:=I.base.there b o e hx
   exact ⟨o',(hs.2 b (Nat.ne_of_lt (Nat.lt_of_lt_of_le (Heap.lt_size e) (I.ok.cab x c hfn hc)))).trans e1⟩
  ·by_cases hj:j=i
   ·subst hj
    rw [hi] at e1;cases e1
    rw [List.getElem?_set_self hiσ] at e2
    cases e2
    exact ⟨u,r,.inr ⟨.inl hk,c,hc,hc'⟩⟩
   ·rw [List.getElem?_set_ne (Ne.symm hj)] at e2
    obtain ⟨u',r',q⟩:=hl j y v' e1 e2 e3
    refine ⟨u',r',?_⟩
    rcases q with q | ⟨k,c',e,z'⟩
    ·exact .inl q
    ·refine .inr ⟨k,c',e,z'.sameBut hs ?_⟩
     rintro rfl
     exact hj (o_m hN e1 (I.ok.inj _ _ _ e hc▸hi))
  ·by_cases hcc:c'=c
   ·subst hcc;exact ⟨_,hc'⟩
   ·obtain ⟨w2,z2⟩:=I.cell y c' e
    exact ⟨w2,z2.sameBut hs hcc⟩
  ·obtain ⟨e,n,ne,nf,d⟩:=I.pin p hp
   refine ⟨(hs.2 p.1 ?_).trans e,n,ne,nf,d⟩
   intro q
   rw [q,hoc] at e
   have q':oc=p.2:=Option.some.inj e
   exact d w' (by rw [<-q'];exact hocd)
theorem n_e{M:Model}{A:Around}{E:Value->Shared->Prop}{i:Nat}{x:Str}{v:V}{u:Value}{Q:Unit->Shared->Prop}(I:Inv X pins σ H s)(hN:X.N.Nodup)(hi:X.N[i]? = some x)(hx:Loc X.env.scope x)(r:RelV v u)
  (h:∀ s',Inv X pins (σ.set i (some v)) H s'->Q () s') (hf:X.fn x=true\/X.env.scope.names.lookup x=some .local:=by first | exact .inl rfl | exact .inr rfl | assumption):wpAny M A (storeName X.env x u) Q E s :=
 j_i I hN hi hx r (fun s' I' _=>h s' I') hf
theorem Inv.call'{s':Shared}{ch:List Addr}(I:Inv X pins σ H s)(ho:s'.os=s.os)(u:Un (frs X.stack) ch H H' s.heap s'.heap)(hok:HOk X.prog X.w H' s'.heap)(hg:AllBare s'.gens)
  (hch:∀ b∈ch,(b∈X.ex\/X.s₀.heap.objs.size<=b)/\b≠X.env.locals/\(∀ x c,X.env.cells.lookup x=some c->c≠b)/\∀ p∈X.pn++pins,p.1≠b):Inv X pins σ H' s':=by
 obtain ⟨h',g',d',t',o'⟩:=s'
 have e:o'=s.os:=ho
 subst e
 exact I.call (g':=g') (t':=t') (d':=d') u hok hg hch
end
abbrev XK:=Value->Option Addr->Hp->Prop
abbrev St:=List (Option V)
abbrev VK:=V->Hp->Prop
abbrev TE:=St->Hp->VK->Prop
abbrev TT:=St->Hp->(Bool->Hp->Prop)->Prop
abbrev TA:=St->Hp->(List V->Hp->Prop)->Prop
structure Ends where
 nx:St->Hp->Prop
 rt:VK
 bk:St->Hp->Prop:=fun _ _=>False
 ct:St->Hp->Prop:=fun _ _=>False
abbrev TS:=Ends->St->Hp->Prop
def EP(X:Cx)(pins:List (Addr×Obj))(σ:St)(Q:VK)(u:Value)(s':Shared):Prop:=∃ v H',Inv X pins σ H' s'/\RelV v u/\Q v H'
def TP(X:Cx)(pins:List (Addr×Obj))(σ:St)(Q:Bool->Hp->Prop)(b:Bool)(s':Shared):Prop:=∃ H',Inv X pins σ H' s'/\Q b H'
def AP(X:Cx)(pins:List (Addr×Obj))(σ:St)(Q:List V->Hp->Prop)(us:List Value)(s':Shared):Prop:=∃ vs H',Inv X pins σ H' s'/\Vals vs us/\Q vs H'
def SP(X:Cx)(pins:List (Addr×Obj))(D:Ends)(f:Flow)(s':Shared):Prop :=
 match f with
 | .next=>∃ σ' H',Inv X pins σ' H' s'/\D.nx σ' H'
 | .brk=>∃ σ' H',Inv X pins σ' H' s'/\D.bk σ' H'
 | .cont=>∃ σ' H',Inv X pins σ' H' s'/\D.ct σ' H'
 | .ret u=>∃ v σ' H',Inv X pins σ' H' s'/\RelV v u/\D.rt v H'
def PE(X:Cx)(e:Expr)(t:TE):Prop :=
 ∀ (pins:List (Addr×Obj)) (s:Shared) (σ:St) (H:Hp) (Q:VK),Inv X pins σ H s->t σ H Q->wpAny (model X.prog X.w) X.A (eval e X.env) (EP X pins σ Q) X.xe s
def PT(X:Cx)(e:Expr)(t:TT):Prop :=
 ∀ (pins:List (Addr×Obj)) (s:Shared) (σ:St) (H:Hp) (Q:Bool->Hp->Prop),Inv X pins σ H s->t σ H Q->wpAny (model X.prog X.w) X.A (isTrue e X.env (eval e X.env)) (TP X pins σ Q) X.xe s
def PW(X:Cx)(e:Expr)(t:TT):Prop :=
 ∀ (whole:Sem Value) (pins:List (Addr×Obj)) (s:Shared) (σ:St) (H:Hp) (Q:Bool->Hp->Prop),Inv X pins σ H s->t σ H Q->wpAny (model X.prog X.w) X.A (isTrue e X.env whole) (TP X pins σ Q) X.xe s
theorem PW.pt{X:Cx}{e:Expr}{t:TT}(h:PW X e t):PT X e t:=h _
def PA(X:Cx)(es:List Expr)(t:TA):Prop :=
 ∀ (pos:Pos) (pins:List (Addr×Obj)) (s:Shared) (σ:St) (H:Hp) (Q:List V->Hp->Prop),Inv X pins σ H s->t σ H Q->wpAny (model X.prog X.w) X.A (spliced (backTo pos (starEach es X.env))) (AP X pins σ Q) X.xe s
def PS(X:Cx)(st:Stmt)(t:TS):Prop :=
 ∀ (pins:List (Addr×Obj)) (s:Shared) (σ:St) (H:Hp) (D:Ends),Inv X pins σ H s->t D σ H->wpAny (model X.prog X.w) X.A (exec st X.env) (SP X pins D) X.xe s
def PSs(X:Cx)(st:List Stmt)(t:TS):Prop :=
 ∀ (pins:List (Addr×Obj)) (s:Shared) (σ:St) (H:Hp) (D:Ends),Inv X pins σ H s->t D σ H->wpAny (model X.prog X.w) X.A (execs st X.env) (SP X pins D) X.xe s
theorem thn{α:Type}{t:Sem α}{Q Q':α->Shared->Prop}{M:Model}{A:Around}{E:Value->Shared->Prop}{s:Shared}(h:wpAny M A t Q E s)(hQ:∀ a s,Q a s->Q' a s):wpAny M A t Q' E s:=wpAny_mono h hQ fun _ _ x=>x
open PySem PySem.Spec PyProof.Rows
section
variable {X:Cx}
def tVar(i:Nat):TE:=fun σ H Q=>∃ v,σ[i]? = some (some v)/\Q v H
def tC(v:V):TE:=fun _ H Q=>Q v H
theorem pe_var{i:Nat}{x:Str}{pos:Pos}(hN:X.N[i]? = some x)(hv:Vis X.env.scope x)(hd:(x == ("__debug__" : Str))=false:=by decide)(hcd:(x == ("__classdict__" : Str))=false:=by decide):PE X (.Name x pos) (tVar i):=by
 intro pins s σ H Q I h
 obtain ⟨v,e,h⟩:=h
 obtain ⟨m,hn,hl⟩:=I.loc
 obtain ⟨u,r,l⟩:=hl i x v hN e hv
 have fin:EP X pins σ Q u s:=⟨v,H,I,r,h⟩
 rcases l with ⟨hk,hm⟩ | ⟨hk,c,hc,hcell⟩
 ·exact wpAny_Name (wpAny_loadName_local I.ok.kind hk hn hm fin) hd
 ·rcases hk with hk | hk
  ·exact wpAny_Name (wpAny_loadName_cell I.ok.kind hk hc hcell fin) hd
  ·exact wpAny_Name (wpAny_loadName_free I.ok.kind hk hc hcell fin hcd) hd
theorem z_b{i j pos}:PE X (.Constant (.int i) j pos) (tC (.int i)):=fun _ _ _ H _ I h=>wpAny_Constant_int ⟨.int i,H,I.tok _,⟨_,rfl⟩,h⟩
theorem v_x{b j pos}:PE X (.Constant (.bool b) j pos) (tC (.bl b)):=fun _ _ _ H _ I h=>Constant_bool ⟨.bl b,H,I,rfl,h⟩
theorem w_f{j pos}:PE X (.Constant .none j pos) (tC .non):=fun _ _ _ H _ I h=>Constant_none ⟨.non,H,I,rfl,h⟩
theorem pe_str{x j pos}:PE X (.Constant (.str x) j pos) (tC (.str x)):=fun _ _ _ H _ I h=>Calls.Constant_str ⟨.str x,H,I.tok _,⟨_,rfl⟩,h⟩
def Gl(X:Cx)(x:Str):Prop:=X.env.kindOf x=some .globalImplicit
theorem s_r{E:Value->Shared->Prop}{pins:List (Addr×Obj)}{s:Shared}{σ:St}{H:Hp}{x:Str}{u:Value}{pos:Pos}{Q:Value->Shared->Prop}(I:Inv X pins σ H s)(hg:Gl X x)(hm:X.mg x=some u)(h:Q u s)
  (hd:(x == ("__debug__" : Str))=false:=by decide):wpAny (model X.prog X.w) X.A (eval (.Name x pos) X.env) Q E s :=
 Calls.Name_function_global I.ok.kind hg (Calls.loadGlobal_global (by rw [I.ok.glob];exact I.mod.glob.keeps I.bk) hm h) hd
theorem r_w{E:Value->Shared->Prop}{pins:List (Addr×Obj)}{s:Shared}{σ:St}{H:Hp}{x:Str}{u:Value}{pos:Pos}{Q:Value->Shared->Prop}(I:Inv X pins σ H s)(hg:Gl X x)(hm:X.mg x=none)(hv:bootBuiltins x=some u)(h:Q u s)
  (hn:x ≠ "__name__" := by decide) (hd:(x == ("__debug__" : Str))=false:=by decide):wpAny (model X.prog X.w) X.A (eval (.Name x pos) X.env) Q E s:=by
 obtain ⟨mb,h1,h2⟩:=I.mod.blt
 exact Calls.Name_function_global I.ok.kind hg (Calls.loadGlobal_builtin (by rw [I.ok.glob];exact I.mod.glob.keeps I.bk) hm (by rw [I.ok.blt];exact h1.keeps I.bk) ((h2 x hn).trans hv) h) hd
theorem v_c{x:Str}{v:V}{u:Value}{pos:Pos}(hg:Gl X x)(hm:X.mg x=some u)(r:RelV v u)(hd:(x == ("__debug__" : Str))=false:=by decide):PE X (.Name x pos) (tC v) :=
 fun _ _ _ H _ I h=>s_r I hg hm ⟨v,H,I,r,h⟩ hd
theorem v_p{x:Str}{v:V}{u:Value}{pos:Pos}(hg:Gl X x)(hm:X.mg x=none)(hv:bootBuiltins x=some u)(r:RelV v u)(hn:x ≠ "__name__" := by decide)(hd:(x == ("__debug__" : Str))=false:=by decide):PE X (.Name x pos) (tC v) :=
 fun _ _ _ H _ I h=>r_w I hg hm hv ⟨v,H,I,r,h⟩ hn hd
variable {a b:Expr} {ta tb:TE} {pos:Pos}
def PC(X:Cx)(op:CmpOp)(a b:Expr)(t:TE):Prop :=
 ∀ (pins:List (Addr×Obj)) (s:Shared) (σ:St) (H:Hp) (Q:VK),Inv X pins σ H s->t σ H Q ->
  wpAny (model X.prog X.w) X.A (eval a X.env) (fun v s₁=>wpAny (model X.prog X.w) X.A (eval b X.env) (fun u s₂=>wpAny (model X.prog X.w) X.A (compareOp op v u) (EP X pins σ Q) X.xe s₂) X.xe s₁) X.xe s
theorem nobehind(b:Expr){op:CmpOp}(h:op ≠ .In)(h2:op ≠ .NotIn):behindInMarks op b=false:=by
 have e1:(op == CmpOp.In)=false:=by cases op<;>first | rfl | exact absurd rfl h
 have e2:(op == CmpOp.NotIn)=false:=by cases op<;>first | rfl | exact absurd rfl h2
 cases b<;>simp [behindInMarks,e1,e2]
def tB(t:TE):TT:=fun σ H Q=>t σ H fun x H1=>∃ c,x = .bl c/\Q c H1
theorem pt_cmp{op:CmpOp}{t:TE}(h:PC X op a b t)(h1:behindInMarks op b=false:=by first | exact nobehind _ (by decide) (by decide) | rfl):PT X (.Compare a [op] [b] pos) (tB t):=by
 intro pins s σ H Q I hw
 refine wpAny_isTrue_Compare1 (thn (h pins s σ H _ I hw) fun v s1 h1=>thn h1 fun u s2 h2=>thn h2 fun c s3 ⟨x,H1,I1,r1,q1⟩=>?_) h1
 obtain ⟨d,rfl,q⟩:=q1
 cases r1
 exact wpAny_truthy_bool ⟨H1,I1,q⟩
variable {tA tB':TT} {rest:List Expr}
def tAnd(t u:TT):TT:=fun σ H Q=>t σ H fun c H1=>if c=true then u σ H1 Q else Q false H1
def tOr(t u:TT):TT:=fun σ H Q=>t σ H fun c H1=>if c=true then Q true H1 else u σ H1 Q
def tNot(t:TT):TT:=fun σ H Q=>t σ H fun c H1=>Q (!c) H1
theorem s_z(ha:PT X a tA):PW X (.BoolOp .And [a] pos) tA:=by
 intro wh pins s σ H Q I h
 refine isTrue_and (thn (ha pins s σ H Q I h) fun c s1 e=>?_)
 cases c with
 | true=>exact isTrue_and_nil e
 | false=>exact e
theorem v_v(ha:PT X a tA):PW X (.BoolOp .Or [a] pos) tA:=by
 intro wh pins s σ H Q I h
 refine isTrue_or (thn (ha pins s σ H Q I h) fun c s1 e=>?_)
 cases c with
 | false=>exact isTrue_or_nil e
 | true=>exact e
theorem o_v(ha:PT X a tA)(hb:PW X (.BoolOp .And (b::rest) pos) tB'):PW X (.BoolOp .And (a::b::rest) pos) (tAnd tA tB'):=by
 intro wh pins s σ H Q I h
 refine isTrue_and (thn (ha pins s σ H _ I h) fun c s1 ⟨H1,I1,q1⟩=>?_)
 cases c with
 | true=>exact hb wh pins s1 σ H1 Q I1 q1
 | false=>exact ⟨H1,I1,q1⟩
theorem t_m(ha:PT X a tA)(hb:PW X (.BoolOp .Or (b::rest) pos) tB'):PW X (.BoolOp .Or (a::b::rest) pos) (tOr tA tB'):=by
 intro wh pins s σ H Q I h
 refine isTrue_or (thn (ha pins s σ H _ I h) fun c s1 ⟨H1,I1,q1⟩=>?_)
 cases c with
 | true=>exact ⟨H1,I1,q1⟩
 | false=>exact hb wh pins s1 σ H1 Q I1 q1
theorem t_y(ha:PT X a tA):PT X (.UnaryOp .Not a pos) (tNot tA):=by
 intro pins s σ H Q I h
 exact isTrue_not (ha pins s σ H (fun c H1=>Q (!c) H1) I h)
def tAndV(ta tb:TE):TE:=fun σ H Q=>ta σ H fun x H1=>∃ c,x = .bl c/\if c=true then tb σ H1 Q else Q (.bl false) H1
def tNotV(ta:TE):TE:=fun σ H Q=>ta σ H fun x H1=>∃ c,x = .bl c/\Q (.bl (!c)) H1
theorem q_j{op}{t:TE}(h:PE X a t):PE X (.BoolOp op [a] pos) t:=fun pins s σ H Q I hw=>BoolOp_one (h pins s σ H Q I hw)
theorem q_i(ha:PE X a ta)(hb:PE X (.BoolOp .And (b::rest) pos) tb):PE X (.BoolOp .And (a::b::rest) pos) (tAndV ta tb):=by
 intro pins s σ H Q I h
 refine BoolOp_and (thn (ha pins s σ H _ I h) fun v s1 ⟨x,H1,I1,r1,q1⟩=>?_)
 obtain ⟨c,rfl,q1⟩:=q1
 cases r1
 refine wpAny_truthy_bool ?_
 cases c with
 | true=>exact hb pins s1 σ H1 Q I1 q1
 | false=>exact ⟨.bl false,H1,I1,rfl,q1⟩
theorem pe_not(ha:PE X a ta):PE X (.UnaryOp .Not a pos) (tNotV ta):=by
 intro pins s σ H Q I h
 refine UnaryOp_ (thn (ha pins s σ H _ I h) fun v s1 ⟨x,H1,I1,r1,q1⟩=>?_)
 obtain ⟨c,rfl,q1⟩:=q1
 cases r1
 exact not_of (wpAny_truthy_bool ⟨.bl (!c),H1,I1,rfl,q1⟩)
def tIf(t:TT)(ta tb:TE):TE:=fun σ H Q=>t σ H fun c H1=>if c=true then ta σ H1 Q else tb σ H1 Q
theorem s_u{c:Expr}(hc:PT X c tA)(ha:PE X a ta)(hb:PE X b tb):PE X (.IfExp c a b pos) (tIf tA ta tb):=by
 intro pins s σ H Q I h
 refine wpAny_IfExp (thn (hc pins s σ H _ I h) fun d s1 ⟨H1,I1,q1⟩=>?_)
 cases d with
 | true=>exact ha pins s1 σ H1 Q I1 q1
 | false=>exact hb pins s1 σ H1 Q I1 q1
end
open PySem PySem.Spec PyProof.Rows
def SqL(K:PySem.W.Frag)(H:Hp)(a:Addr)(xs:List V):Prop :=
 Rd H a (.lst xs) \/
  ∃ (o:Obj) (its:Array Value) (n:Nat),K.lookup a=some o/\o.cls = .type "list" /\ o.dict=none/\o.data = .seq its n/\its.size<=sizeLine/\Vals xs its.toList
def SqT(K:PySem.W.Frag)(H:Hp)(a:Addr)(xs:List V):Prop :=
 Rd H a (.tup xs) \/
  ∃ (o:Obj) (its:Array Value) (n:Nat),K.lookup a=some o/\o.cls = .type "tuple" /\ o.data = .seq its n/\its.size<=sizeLine/\Vals xs its.toList
def absV:Value->Option V
 | .none=>some .non
 | .bool b=>some (.bl b)
 | .int i _=>some (.int i)
 | .str x _=>some (.str x)
 | .bytes b _=>some (.byt b)
 | .float b _=>some (.flt b)
 | .ref a=>some (.ref a)
 | .type n=>some (.ty n)
 | _=>none
theorem RelV.abs{x:V}{u:Value}(r:RelV x u):absV u=some x:=by
 cases x with
 | non=>cases r;rfl
 | bl _=>cases r;rfl
 | int _=>obtain ⟨t,rfl⟩:=r;rfl
 | str _=>obtain ⟨t,rfl⟩:=r;rfl
 | byt _=>obtain ⟨t,rfl⟩:=r;rfl
 | flt _=>obtain ⟨t,rfl⟩:=r;rfl
 | ref _=>cases r;rfl
 | ty _=>cases r;rfl
theorem RelV.inj{x y:V}{u:Value}(r:RelV x u)(q:RelV y u):x=y:=Option.some.inj (r.abs.symm.trans q.abs)
theorem Vals.inj:∀ {xs ys:List V} {us:List Value},Vals xs us->Vals ys us->xs=ys
 | _,_,_,.nil,.nil=>rfl
 | _,_,_,.cons r t,.cons r' t'=>by rw [r.inj r',Vals.inj t t']
section
variable {X:Cx} {pins:List (Addr×Obj)} {σ:St} {H:Hp} {s:Shared} {a:Addr} {xs ys:List V}
theorem SqL.of{K:PySem.W.Frag}(h:H a=some (.lst xs)):SqL K H a xs:=.inl (.inl h)
theorem SqT.of{K:PySem.W.Frag}(h:H a=some (.tup xs)):SqT K H a xs:=.inl (.inl h)
theorem Inv.list(I:Inv X pins σ H s)(h:SqL X.K H a xs):∃ its:List Value,Vals xs its/\PlainL s.heap a its.toArray/\xs.length<=sizeLine:=by
 rcases h with h | ⟨o,its,n,hk,hc,hd,hs,hz,r⟩
 ·obtain ⟨z,its,n,r,e⟩:=h.ok I.hok
  exact ⟨its,r,⟨_,n,e,rfl,rfl,rfl⟩,z⟩
 ·refine ⟨its.toList,r,⟨o,n,I.kIn a o hk,hc,hd,by simpa using hs⟩,?_⟩
  have e:=r.length
  simp only [Array.length_toList] at e
  lia
theorem Inv.tuple(I:Inv X pins σ H s)(h:SqT X.K H a xs):∃ its:List Value,Vals xs its/\IsTup s.heap a its.toArray/\xs.length<=sizeLine:=by
 rcases h with h | ⟨o,its,n,hk,hc,hs,hz,r⟩
 ·obtain ⟨z,its,r,p⟩:=h.ok I.hok
  exact ⟨its,r,p,z⟩
 ·refine ⟨its.toList,r,⟨o,I.kIn a o hk,hc,n,by simpa using hs⟩,?_⟩
  have e:=r.length
  simp only [Array.length_toList] at e
  lia
theorem Inv.list_inj(I:Inv X pins σ H s)(h:SqL X.K H a xs)(h':SqL X.K H a ys):xs=ys:=by
 obtain ⟨its,r,⟨o,n,e,_,_,d⟩,_⟩:=I.list h
 obtain ⟨its',r',⟨o',n',e',_,_,d'⟩,_⟩:=I.list h'
 rw [e] at e';cases e'
 rw [d] at d'
 injection d' with d1 _
 have:its=its':=by simpa using congrArg Array.toList d1
 subst this
 exact r.inj r'
theorem Inv.tuple_inj(I:Inv X pins σ H s)(h:SqT X.K H a xs)(h':SqT X.K H a ys):xs=ys:=by
 obtain ⟨its,r,⟨o,e,_,n,d⟩,_⟩:=I.tuple h
 obtain ⟨its',r',⟨o',e',_,n',d'⟩,_⟩:=I.tuple h'
 rw [e] at e';cases e'
 rw [d] at d'
 injection d' with d1 _
 have:its=its':=by simpa using congrArg Array.toList d1
 subst this
 exact r.inj r'
end
abbrev Cx.wish(X:Cx)(E:Value->Shared->Prop):Cx:={ X with xe:=E }
abbrev Cx.nox(X:Cx):Cx:=X.wish fun _ _=>False
theorem Cx.Ok.wish{X:Cx}(ok:X.Ok)(E:Value->Shared->Prop):(X.wish E).Ok :=
 ⟨ok.mod,ok.kind,ok.glob,ok.blt,ok.above,ok.inj,ok.has,ok.cab,ok.hd,ok.frames,ok.gd,ok.stk,ok.exf,ok.bs,ok.bsz,ok.noex,ok.exfs,ok.funs,ok.frf⟩
theorem Cx.Ok.unwish{X:Cx}{E:Value->Shared->Prop}(ok:(X.wish E).Ok):X.Ok :=
 ⟨ok.mod,ok.kind,ok.glob,ok.blt,ok.above,ok.inj,ok.has,ok.cab,ok.hd,ok.frames,ok.gd,ok.stk,ok.exf,ok.bs,ok.bsz,ok.noex,ok.exfs,ok.funs,ok.frf⟩
section
variable {X:Cx} {pins:List (Addr×Obj)} {σ:St} {H:Hp} {s:Shared} {E:Value->Shared->Prop}
theorem Inv.wish(I:Inv X pins σ H s)(E:Value->Shared->Prop):Inv (X.wish E) pins σ H s:=⟨I.ok.wish E,I.os,I.bare,I.base,I.loc,I.cell,I.free,I.freeC,I.pin,I.hok,I.len⟩
theorem Inv.unwish(I:Inv (X.wish E) pins σ H s):Inv X pins σ H s:=⟨I.ok.unwish,I.os,I.bare,I.base,I.loc,I.cell,I.free,I.freeC,I.pin,I.hok,I.len⟩
theorem SP.unwish{D:Ends}{f:Flow}{s':Shared}(h:SP (X.wish E) pins D f s'):SP X pins D f s':=by
 cases f with
 | next=>obtain ⟨σ',H',I,q⟩:=h;exact ⟨σ',H',I.unwish,q⟩
 | brk=>obtain ⟨σ',H',I,q⟩:=h;exact ⟨σ',H',I.unwish,q⟩
 | cont=>obtain ⟨σ',H',I,q⟩:=h;exact ⟨σ',H',I.unwish,q⟩
 | ret u=>obtain ⟨v,σ',H',I,r,q⟩:=h;exact ⟨v,σ',H',I.unwish,r,q⟩
theorem PSs.nox{st:List Stmt}{t:TS}(h:PSs X.nox st t):PSs X st t:=fun pins s σ H D I hw =>
 wpAny_mono (h pins s σ H D (I.wish _) hw) (fun _ _ q=>q.unwish) fun _ _ z=>False.elim z
end
section
variable {X:Cx} {st:Stmt} {rest:List Stmt} {t u:TS} {e:Expr} {te:TE} {pos:Pos}
def tNext:TS:=fun D σ H=>D.nx σ H
def tSeq(t u:TS):TS:=fun D σ H=>t { D with nx:=u D } σ H
theorem z_y:PSs X [] tNext:=fun _ _ σ H _ I h=>wpAny_execs_nil ⟨σ,H,I,h⟩
theorem z_d(h1:PS X st t)(h2:PSs X rest u):PSs X (st::rest) (tSeq t u):=by
 intro pins s σ H D I h
 refine wpAny_execs_cons (thn (h1 pins s σ H { D with nx:=u D } I h) fun f s1 q=>?_)
 cases f with
 | next =>
  obtain ⟨σ',H',I',q⟩:=q
  exact h2 pins s1 σ' H' D I' q
 | ret v=>exact q
 | brk=>exact q
 | cont=>exact q
theorem z_j(h1:PS X st t):PSs X [st] t:=by
 intro pins s σ H D I h
 refine wpAny_execs_cons (thn (h1 pins s σ H D I h) fun f s1 q=>?_)
 cases f with
 | next=>exact wpAny_execs_nil q
 | ret v=>exact q
 | brk=>exact q
 | cont=>exact q
def tCont:TS:=fun D σ H=>D.ct σ H
theorem p_n:PS X (.Continue pos) tCont:=fun _ _ σ H _ I h=>wpAny_Continue ⟨σ,H,I,h⟩
theorem Inv.quiet{pins:List (Addr×Obj)}{σ:St}{H:Hp}{s:Shared}(I:Inv X pins σ H s):interactive X.env=false:=by simp [interactive,I.ok.kind]
def tDrop(te:TE):TS:=fun D σ H=>te σ H fun _ H1=>D.nx σ H1
theorem w_a(he:PE X e te)(hs:swapsWith e none pos.line X.env=pure false:=by rfl):PS X (.Expr e pos) (tDrop te):=by
 intro pins s σ H D I h
 exact wpAny_Expr_any (thn (he pins s σ H _ I h) fun v s1 ⟨x,H1,I1,r1,q1⟩=>⟨σ,H1,I1,q1⟩) I.quiet hs
def tRet(te:TE):TS:=fun D σ H=>te σ H D.rt
theorem z_w(he:PE X e te):PS X (.Return (some e) pos) (tRet te):=by
 intro pins s σ H D I h
 exact wpAny_Return_some (thn (he pins s σ H _ I h) fun v s1 ⟨x,H1,I1,r1,q1⟩=>⟨x,σ,H1,I1,r1,q1⟩)
def tIfS(c:TT)(t u:TS):TS:=fun D σ H=>c σ H fun b H1=>if b=true then t D σ H1 else u D σ H1
theorem y_x{c:Expr}{a b:List Stmt}{tc:TT}(hc:PT X c tc)(ha:PSs X a t)(hb:PSs X b u):PS X (.If c a b pos) (tIfS tc t u):=by
 intro pins s σ H D I h
 refine wpAny_If (thn (hc pins s σ H _ I h) fun d s1 ⟨H1,I1,q1⟩=>?_)
 cases d with
 | true=>exact ha pins s1 σ H1 D I1 q1
 | false=>exact hb pins s1 σ H1 D I1 q1
end
abbrev TG:=V->St->Hp->(St->Hp->Prop)->Prop
abbrev TGs:=List V->St->Hp->(St->Hp->Prop)->Prop
def PG(X:Cx)(target:Expr)(t:TG):Prop :=
 ∀ (pins:List (Addr×Obj)) (s:Shared) (σ:St) (H:Hp) (v:V) (u:Value) (Q:St->Hp->Prop),Inv X pins σ H s->RelV v u->t v σ H Q ->
  wpAny (model X.prog X.w) X.A (assign target X.env u) (fun _ s'=>∃ σ' H',Inv X pins σ' H' s'/\Q σ' H') X.xe s
def PGs(X:Cx)(ts:List Expr)(t:TGs):Prop :=
 ∀ (pins:List (Addr×Obj)) (s:Shared) (σ:St) (H:Hp) (vs:List V) (us:List Value) (Q:St->Hp->Prop),Inv X pins σ H s->Vals vs us->t vs σ H Q ->
  wpAny (model X.prog X.w) X.A (assignInOrder ((assignEach ts X.env).map (·.2)) us) (fun _ s'=>∃ σ' H',Inv X pins σ' H' s'/\Q σ' H') X.xe s
abbrev TSet:=V->V->V->Hp->(Hp->Prop)->Prop
def PSet(X:Cx)(t:TSet):Prop :=
 ∀ (pins:List (Addr×Obj)) (s:Shared) (σ:St) (H:Hp) (o i v:V) (ov iv u:Value) (Q:Hp->Prop),Inv X pins σ H s->RelV o ov->RelV i iv->RelV v u->t o i v H Q ->
  wpAny (model X.prog X.w) X.A (setItem ov iv u) (fun _ s'=>∃ H',Inv X pins σ H' s'/\Q H') X.xe s
section
variable {X:Cx} {pos:Pos}
def gName(i:Nat):TG:=fun v σ H Q=>Q (σ.set i (some v)) H
theorem y_i{i:Nat}{x:Str}(hN:X.N.Nodup)(hi:X.N[i]? = some x)(hx:Loc X.env.scope x)(hf:X.fn x=true\/X.env.scope.names.lookup x=some .local:=by first | exact .inl rfl | exact .inr rfl | assumption):PG X (.Name x pos) (gName i):=by
 intro pins s σ H v u Q I r h
 exact wpAny_assign_Name (n_e I hN hi hx r (fun s' I'=>⟨_,H,I',h⟩) hf)
def gNil:TGs:=fun vs σ H Q=>vs=[]/\Q σ H
def gCons(t:TG)(u:TGs):TGs:=fun vs σ H Q=>∃ v r,vs=v::r/\t v σ H fun σ' H'=>u r σ' H' Q
theorem s_v:PGs X [] gNil:=by
 intro pins s σ H vs us Q I r h
 obtain ⟨e,h⟩:=h
 subst e
 cases r
 exact assignInOrder_nil ⟨σ,H,I,h⟩
theorem x_u{e:Expr}{es:List Expr}{t:TG}{u:TGs}(h1:PG X e t)(h2:PGs X es u)
  (hs:(assignEach (e::es) X.env).map (·.2)=assign e X.env::(assignEach es X.env).map (·.2):=by rfl):PGs X (e::es) (gCons t u):=by
 intro pins s σ H vs us Q I r h
 obtain ⟨v,vr,e1,h⟩:=h
 subst e1
 cases r with
 | cons r rr =>
  rw [hs]
  refine assignInOrder_cons (thn (h1 pins s σ H _ _ _ I r h) fun _ s1 ⟨σ1,H1,I1,q1⟩=>?_)
  exact h2 pins s1 σ1 H1 _ _ Q I1 rr q1
def gTup(K:PySem.W.Frag)(n:Nat)(t:TGs):TG:=fun v σ H Q=>∃ a xs,v = .ref a/\SqT K H a xs/\xs.length=n/\t xs σ H Q
theorem o_t{es:List Expr}{k:Nat}{t:TGs}{n:Nat}(hc:X.calm=true)(h:PGs X es t)
  (hn:(assignEach es X.env).length=n:=by rfl) (hst:(assignEach es X.env).findIdx? (·.1)=none:=by rfl):PG X (.Tuple es k pos) (gTup X.K n t):=by
 intro pins s σ H v u Q I r hw
 obtain ⟨a,xs,e1,hq,hl,hw⟩:=hw
 subst e1
 cases r
 obtain ⟨its,rv,ht,hz⟩:=I.tuple hq
 refine assign_Tuple_tuple (I.ok.hd hc) ht (by simp [hn,<-hl,rv.length]) hst fun h' hx=>?_
 have I1:Inv X pins σ H { s with heap:=h' }:=I.kept (t':=s.toks) fun b o e=>hx b o (Nat.ne_of_lt (Heap.lt_size e)) e
 exact h pins _ σ H xs _ Q I1 (by simpa using rv) hw
def gSub(to ti:TE)(t:TSet):TG:=fun v σ H Q=>to σ H fun o H1=>ti σ H1 fun i H2=>t o i v H2 fun H3=>Q σ H3
theorem k_n{o i:Expr}{to ti:TE}{t:TSet}(ho:PE X o to)(hi:PE X i ti)(hs:PSet X t)
  (ha:∀ v,assign (.Subscript o i pos) X.env v=(do
   let ov <-holding [v] (eval o X.env)
   let iv <-holding [v,ov] (eval i X.env)
   standAt pos
   holding [v,ov,iv] (setItem ov iv v)
   release [v,ov,iv] []):=by intro _;rfl):PG X (.Subscript o i pos) (gSub to ti t):=by
 intro pins s σ H v u Q I r h
 rw [ha]
 refine wpAny_bind (wpAny_holding (thn (ho pins s σ H _ I h) fun ov s1 ⟨x,H1,I1,r1,q1⟩=>?_))
 refine wpAny_bind (wpAny_holding (thn (hi pins s1 σ H1 _ I1 q1) fun iv s2 ⟨y,H2,I2,r2,q2⟩=>?_))
 refine wpAny_bind (wpAny_standAt (wpAny_bind (wpAny_holding (thn (hs pins s2 σ H2 x y v ov iv u _ I2 r1 r2 r q2) fun _ s3 ⟨H3,I3,q3⟩=>?_))))
 exact wpAny_release ⟨σ,H3,I3,q3⟩
def tAsg(te:TE)(g:TG):TS:=fun D σ H=>te σ H fun x H1=>g x σ H1 D.nx
theorem t_x{tg e:Expr}{te:TE}{g:TG}(he:PE X e te)(hg:PG X tg g)(hs:swapsWithSole [tg] e pos.line X.env=pure false:=by rfl)(hw:swappedStores [tg] e X.env=pure none:=by rfl)
  (h1:(assignEach [tg] X.env).map (·.2)=[assign tg X.env]:=by rfl):PS X (.Assign [tg] e pos) (tAsg te g):=by
 intro pins s σ H D I h
 refine wpAny_Assign_stores (thn (he pins s σ H _ I h) fun v s1 ⟨x,H1,I1,r1,q1⟩=>?_) hs hw
 rw [h1]
 exact thn (hg pins s1 σ H1 x v _ I1 r1 q1) fun _ s2 q=>q
theorem z_t{i:Nat}{x:Str}{e:Expr}{te:TE}{pos':Pos}(hN:X.N.Nodup)(hi:X.N[i]? = some x)(hx:Loc X.env.scope x)(he:PE X e te)(hs:swapsWith e (some (.Name x pos')) pos.line X.env=pure false:=by rfl)(hf:X.fn x=true\/X.env.scope.names.lookup x=some .local:=by first | exact .inl rfl | exact .inr rfl | assumption) :
  PS X (.Assign [.Name x pos'] e pos) (tAsg te (gName i)):=by
 intro pins s σ H D I h
 refine wpAny_Assign_Name (thn (he pins s σ H _ I h) fun v s1 ⟨y,H1,I1,r1,q1⟩=>?_) hs
 exact n_e I1 hN hi hx r1 (fun s2 I2=>⟨_,H1,I2,q1⟩) hf
end
section
variable {X:Cx} {pos:Pos}
def tWhile(c:TT)(tb:TS):TS:=fun D σ H=>∃ W:Nat->St->Hp->Prop,(∃ m,W m σ H)/\∀ m σ H,W m σ H ->
 c σ H fun b H1=>if b=true then ∃ N:St->Hp->Prop,(∀ σ' H',N σ' H'->∃ m',m'<m/\W m' σ' H')/\tb { D with nx:=N,ct:=N,bk:=D.nx } σ H1 else D.nx σ H1
theorem s_y{c:Expr}{body:List Stmt}{tc:TT}{tb:TS}(hp:PassesOwn (model X.prog X.w) X.A X.env X.xe)(hc:PT X c tc)(hb:PSs X body tb):PS X (.While c body [] pos) (tWhile tc tb):=by
 intro pins s σ H D I h
 obtain ⟨W,⟨m0,w0⟩,turn⟩:=h
 refine wpAny_While (codeAny_whileLoop (fun n s'=>∃ σ' H',Inv X pins σ' H' s'/\W n σ' H') ?_ m0 ⟨σ,H,I,w0⟩)
 rintro n s1 ⟨σ1,H1,I1,w1⟩
 refine wpAny_passesOwn hp (thn (hc pins s1 σ1 H1 _ I1 (turn n σ1 H1 w1)) fun b s2 ⟨H2,I2,q2⟩=>?_)
 cases b with
 | true =>
  obtain ⟨N,hN,q2⟩:=q2
  rw [if_pos rfl]
  refine wpAny_passesOwn hp (thn (hb pins s2 σ1 H2 _ I2 q2) fun f s3 q3=>?_)
  cases f with
  | next =>
   obtain ⟨σ3,H3,I3,n3⟩:=q3
   obtain ⟨m',hm,w3⟩:=hN σ3 H3 n3
   exact ⟨m',hm,σ3,H3,I3,w3⟩
  | cont =>
   obtain ⟨σ3,H3,I3,n3⟩:=q3
   obtain ⟨m',hm,w3⟩:=hN σ3 H3 n3
   exact ⟨m',hm,σ3,H3,I3,w3⟩
  | brk=>exact q3
  | ret v=>exact q3
 | false =>
  rw [if_neg Bool.false_ne_true]
  exact wpAny_execs_nil ⟨σ1,H2,I2,q2⟩
end
structure It where
 go:Nat->Hp->Prop
 yld:Nat->Hp->V->Hp->Prop
 stop:Nat->Hp->Prop
def FpOk(X:Cx)(pins:List (Addr×Obj))(H:Hp)(b:Addr):Prop :=
 H b=none/\b≠X.env.locals/\b∉X.fs/\(b∈X.ex\/X.s₀.heap.objs.size<=b)/\(∀ x c,X.env.cells.lookup x=some c->c≠b)/\∀ p∈X.pn++pins,p.1≠b
theorem Inv.fpOk{X:Cx}{pins:List (Addr×Obj)}{σ:St}{H H':Hp}{s:Shared}{b:Addr}(I:Inv X pins σ H s)(hb:s.heap.objs.size<=b)(hn:H' b=none):FpOk X pins H' b:=by
 refine ⟨hn,Nat.ne_of_gt (Nat.lt_of_lt_of_le I.lt hb),I.nofs hb,.inr (Nat.le_trans I.sz hb),fun x c e z=>?_,fun p hp z=>?_⟩
 ·obtain ⟨v,q⟩:=I.cell x c e
  exact absurd (Nat.lt_of_lt_of_le q.lt (by rw [z];exact hb)) (Nat.lt_irrefl _)
 ·exact absurd (Nat.lt_of_lt_of_le (Heap.lt_size (I.pin p hp).1) (by rw [z];exact hb)) (Nat.lt_irrefl _)
structure Turn(P:Program)(w:World)(K:PySem.W.Frag)(tg:Expr)(J:It)(fp:List Addr)(it:Addr)(tn:Nat->Heap->Prop):Prop where
 mem:it∈fp
 obj:∀ i h,tn i h->∀ b∈fp,∃ o,h.get? b=some o/\∀ v,o.data ≠ .cell v
 keep:∀ i h h',tn i h->(∀ b∈fp,∀ o,h.get? b=some o->h'.get? b=some o)->tn i h'
 item:∀ (X:Cx),X.prog=P->X.w=w->X.K=K->X.calm=true->∀ (i:Nat) (pins:List (Addr×Obj)) (s:Shared) (σ:St) (H:Hp) (E:Value->Shared->Prop),Inv X pins σ H s->(∀ b∈fp,FpOk X pins H b)->tn i s.heap->J.go i H ->
  wpAny (model P w) X.A (pyNext (.ref it)) (fun r s1=>∃ u,r=some u /\
   wpAny (model P w) X.A (letOwnedTupleGo tg (.ref it) u) (fun _ s2=>∃ x H',Inv X pins σ H' s2/\RelV x u/\J.yld i H x H'/\tn (i+1) s2.heap/\∀ b∈fp,H' b=none) E s1) E s
 done:∀ (X:Cx),X.prog=P->X.w=w->X.K=K->X.calm=true->∀ (i:Nat) (pins:List (Addr×Obj)) (s:Shared) (σ:St) (H:Hp) (E:Value->Shared->Prop),Inv X pins σ H s->(∀ b∈fp,FpOk X pins H b)->tn i s.heap->J.stop i H ->
  wpAny (model P w) X.A (pyNext (.ref it)) (fun r s1=>r=none/\Inv X pins σ H s1) E s
 self:∀ (A:Around) (i:Nat) (s:Shared) (Q:Value->Shared->Prop) (E:Value->Shared->Prop),tn i s.heap->Q (.ref it) s->wpAny (model P w) A (pyIter (.ref it)) Q E s
abbrev TI:=St->Hp->(It->Hp->Prop)->Prop
def PIE(X:Cx)(pins:List (Addr×Obj))(σ:St)(tg:Expr)(R:It->Hp->Prop)(itv:Value)(s2:Shared):Prop :=
 ∃ (it:Addr) (fp:List Addr) (tn:Nat->Heap->Prop) (J:It) (H':Hp),itv = .ref it/\Inv X pins σ H' s2/\Turn X.prog X.w X.K tg J fp it tn/\tn 0 s2.heap/\(∀ b∈fp,FpOk X pins H' b)/\R J H'
def PI(X:Cx)(tg iter:Expr)(wi:TI):Prop :=
 ∀ (pins:List (Addr×Obj)) (s:Shared) (σ:St) (H:Hp) (R:It->Hp->Prop),Inv X pins σ H s->wi σ H R ->
  wpAny (model X.prog X.w) X.A (eval iter X.env) (fun v s1=>wpAny (model X.prog X.w) X.A (pyIter v) (PIE X pins σ tg R) X.xe s1) X.xe s
theorem go_of{M : Model}{A : Around}{E : Value -> Shared -> Prop}{s : Shared}{tg : Expr}{it : Addr}{u : Value}{o : Obj}{n : String}{vs : Array Value}{Q : Unit -> Shared -> Prop}(ho : s.heap.get? it = some o)(hc : o.cls = .type n)(hd : o.data = .fields vs)
    (hn : ["enumerate", "zip", "dict_itemiterator", "dict_reverseitemiterator", "odict_iterator", "itertools.zip_longest", "itertools.pairwise"].contains n = false) (hQ : Q () s) : wpAny M A (letOwnedTupleGo tg (.ref it) u) Q E s := by
  unfold letOwnedTupleGo
  cases tg <;> first
    | exact wpAny_pure hQ
    | (cases u <;> first
        | exact wpAny_pure hQ
        | (refine wpAny_bind (wpAny_load ho ?_)
           rw [hc, hd]
           show wpAny M A (if (["enumerate", "zip", "dict_itemiterator", "dict_reverseitemiterator", "odict_iterator", "itertools.zip_longest", "itertools.pairwise"].contains n && vs[0]? == some (rawInt _)) = true then _ else _) Q E s
           rw [if_neg (by intro h; rw [hn, Bool.false_and] at h; cases h)]
           exact wpAny_pure hQ))
def Itl(K:PySem.W.Frag)(a:Addr):It :=
 ⟨fun i H=>∃ xs x,SqL K H a xs/\xs[i]? = some x,fun i H x H'=>H'=H/\∀ xs,SqL K H a xs->xs[i]? = some x,fun i H=>∃ xs,SqL K H a xs/\xs.length<=i⟩
def Itt(K:PySem.W.Frag)(a:Addr):It :=
 ⟨fun i H=>∃ xs x,SqT K H a xs/\xs[i]? = some x,fun i H x H'=>H'=H/\∀ xs,SqT K H a xs->xs[i]? = some x,fun i H=>∃ xs,SqT K H a xs/\xs.length<=i⟩
def Itr(lo:Int)(n:Nat):It:=⟨fun i _=>i<n,fun i H x H'=>H'=H/\x = .int (lo+i),fun i _=>n<=i⟩
theorem j_l{P:Program}{w:World}{K:PySem.W.Frag}{tg:Expr}(a it:Addr):Turn P w K tg (Itl K a) [it] it (fun i h=>h.IsListIter it a i) where
 mem:=by simp
 obj:=fun i h st b hb=>by
  have e:b=it:=by simpa using hb
  subst e
  obtain ⟨o,e,c,d⟩:=st
  exact ⟨o,e,fun v z=>by rw [d] at z;cases z⟩
 keep:=fun i h h' st k=>st.at fun o e=>k it (by simp) o e
 item:=by
  intro X hP hw hK hc i pins s σ H E I hf st hg
  subst hP hw hK
  obtain ⟨xs,x,hq,hx⟩:=hg
  obtain ⟨its,rv,p,hz⟩:=I.list hq
  obtain ⟨u,hu,ru⟩:=rv.get hx
  obtain ⟨f0,f1,f2,f3,f4,f5⟩:=hf it (by simp)
  refine wpAny_pyNext_list_item st p.isList (x:=u) (by simpa using hu) fun h' st' sb=>?_
  have I1:Inv X pins σ H { s with heap:=h' }:=I.turned (t':=s.toks) (fun b o hb e=>(sb.2 b hb).trans e) f0 f1 f3 f4 f5
  obtain ⟨o,e,c,d⟩:=id st'
  exact ⟨u,rfl,go_of (s:={ s with heap:=h' }) e c d (by decide) ⟨x,H,I1,ru,⟨rfl,fun ys hy=>by rw [I.list_inj hy hq];exact hx⟩,st',fun b hb=>(hf b hb).1⟩⟩
 done:=by
  intro X hP hw hK hc i pins s σ H E I hf st hg
  subst hP hw hK
  obtain ⟨xs,hq,hx⟩:=hg
  obtain ⟨its,rv,p,hz⟩:=I.list hq
  obtain ⟨f0,f1,f2,f3,f4,f5⟩:=hf it (by simp)
  have hl:=rv.length
  exact wpAny_pyNext_list_end (I.ok.hd hc) st p.isList (by simp;lia) fun h' eb=>⟨rfl,I.turned (t':=s.toks) (fun b o hb e=>eb b o hb e) f0 f1 f3 f4 f5⟩
 self:=fun _ _ _ _ _ st h=>wpAny_pyIter_listiter st h
theorem m_h{P:Program}{w:World}{K:PySem.W.Frag}{tg:Expr}(a it:Addr):Turn P w K tg (Itt K a) [it] it (fun i h=>h.IsTupleIter it a i) where
 mem:=by simp
 obj:=fun i h st b hb=>by
  have e:b=it:=by simpa using hb
  subst e
  obtain ⟨o,e,c,d⟩:=st
  exact ⟨o,e,fun v z=>by rw [d] at z;cases z⟩
 keep:=fun i h h' st k=>st.at fun o e=>k it (by simp) o e
 item:=by
  intro X hP hw hK hc i pins s σ H E I hf st hg
  subst hP hw hK
  obtain ⟨xs,x,hq,hx⟩:=hg
  obtain ⟨its,rv,p,hz⟩:=I.tuple hq
  obtain ⟨u,hu,ru⟩:=rv.get hx
  obtain ⟨f0,f1,f2,f3,f4,f5⟩:=hf it (by simp)
  refine wpAny_pyNext_tuple_item st (show s.heap.IsTuple a its.toArray from p) (x:=u) (by simpa using hu) fun h' st' sb=>?_
  have I1:Inv X pins σ H { s with heap:=h' }:=I.turned (t':=s.toks) (fun b o hb e=>(sb.2 b hb).trans e) f0 f1 f3 f4 f5
  obtain ⟨o,e,c,d⟩:=id st'
  exact ⟨u,rfl,go_of (s:={ s with heap:=h' }) e c d (by decide) ⟨x,H,I1,ru,⟨rfl,fun ys hy=>by rw [I.tuple_inj hy hq];exact hx⟩,st',fun b hb=>(hf b hb).1⟩⟩
 done:=by
  intro X hP hw hK hc i pins s σ H E I hf st hg
  subst hP hw hK
  obtain ⟨xs,hq,hx⟩:=hg
  obtain ⟨its,rv,p,hz⟩:=I.tuple hq
  obtain ⟨f0,f1,f2,f3,f4,f5⟩:=hf it (by simp)
  have hl:=rv.length
  exact wpAny_pyNext_tuple_end (I.ok.hd hc) st (show s.heap.IsTuple a its.toArray from p) (by simp;lia) fun h' eb=>⟨rfl,I.turned (t':=s.toks) (fun b o hb e=>eb b o hb e) f0 f1 f3 f4 f5⟩
 self:=fun _ _ _ _ _ st h=>wpAny_pyIter_tupleiter st h
theorem m_g{P:Program}{w:World}{K:PySem.W.Frag}{tg:Expr}(it:Addr)(lo:Int)(n:Nat):Turn P w K tg (Itr lo n) [it] it (fun i h=>IsRangeIter h it (lo+(i:Nat)*1) ((n:Int)-(i:Nat)) 1) where
 mem:=by simp
 obj:=fun i h st b hb=>by
  have e:b=it:=by simpa using hb
  subst e
  exact ⟨_,st,fun v z=>by
   have z':Data.fields _=Data.cell v:=z
   cases z'⟩
 keep:=fun i h h' st k=>k it (by simp) _ st
 item:=by
  intro X hP hw hK hc i pins s σ H E I hf st hg
  subst hP hw hK
  obtain ⟨f0,f1,f2,f3,f4,f5⟩:=hf it (by simp)
  have W:=Walks.range (prog:=X.prog) (w:=X.w) (I.ok.hd hc) it lo 1 n
  refine W.item i s _ _ hg st fun v h' tk hv st' kk=>?_
  obtain ⟨t,rfl⟩:=hv
  have I1:Inv X pins σ H { s with heap:=h',toks:=tk }:=I.turned (fun b o hb e=>kk b o (by simpa using hb) e) f0 f1 f3 f4 f5
  refine ⟨_,rfl,go_of (s:={ s with heap:=h',toks:=tk }) (n := "range_iterator") st' rfl rfl (by decide) ⟨.int (lo+i),H,I1,⟨t,?_⟩,⟨rfl,rfl⟩,st',fun b hb=>(hf b hb).1⟩⟩
  rw [Int.mul_one]
 done:=by
  intro X hP hw hK hc i pins s σ H E I hf st hg
  subst hP hw hK
  obtain ⟨f0,f1,f2,f3,f4,f5⟩:=hf it (by simp)
  exact wpAny_pyNext_range_end (I.ok.hd hc) st (by have:n<=i:=hg;lia) fun h' eb=>⟨rfl,I.turned (t':=s.toks) (fun b o hb e=>eb b o hb e) f0 f1 f3 f4 f5⟩
 self:=fun _ _ _ _ _ st h=>wpAny_pyIter_rangeiter st h
open PySem PySem.Spec PyProof.Rows
section
variable {X:Cx} {tg:Expr}
def iList(K:PySem.W.Frag)(tl:TE):TI:=fun σ H R=>tl σ H fun x H1=>∃ a,x = .ref a/\(∃ xs,SqL K H1 a xs)/\R (Itl K a) H1
def iTup(K:PySem.W.Frag)(tl:TE):TI:=fun σ H R=>tl σ H fun x H1=>∃ a,x = .ref a/\(∃ xs,SqT K H1 a xs)/\R (Itt K a) H1
theorem v_d{l:Expr}{tl:TE}(hl:PE X l tl):PI X tg l (iList X.K tl):=by
 intro pins s σ H R I h
 refine thn (hl pins s σ H _ I h) fun v s1 ⟨x,H1,I1,r1,q1⟩=>?_
 obtain ⟨a,e,⟨xs,hq⟩,q⟩:=q1
 subst e
 cases r1
 obtain ⟨its,rv,p,hz⟩:=I1.list hq
 refine wpAny_pyIter_list p.isList ?_
 refine ⟨s1.heap.objs.size,[s1.heap.objs.size],_,_,H1,rfl,I1.kept (t':=s1.toks) fun b o e=>Heap.get?_push_of_some _ e,j_l a _,⟨_,Heap.get?_push_size _ rfl,rfl,rfl⟩,fun b hb=>?_,q⟩
 have e:b=s1.heap.objs.size:=by simpa using hb
 subst e
 exact I1.fpOk (Nat.le_refl _) (I1.hok.fresh (Nat.le_refl _))
theorem t_w{l:Expr}{tl:TE}(hl:PE X l tl):PI X tg l (iTup X.K tl):=by
 intro pins s σ H R I h
 refine thn (hl pins s σ H _ I h) fun v s1 ⟨x,H1,I1,r1,q1⟩=>?_
 obtain ⟨a,e,⟨xs,hq⟩,q⟩:=q1
 subst e
 cases r1
 obtain ⟨its,rv,p,hz⟩:=I1.tuple hq
 refine wpAny_pyIter_tuple (show s1.heap.IsTuple a its.toArray from p) ?_
 refine ⟨s1.heap.objs.size,[s1.heap.objs.size],_,_,H1,rfl,I1.kept (t':=s1.toks) fun b o e=>Heap.get?_push_of_some _ e,m_h a _,⟨_,Heap.get?_push_size _ rfl,rfl,rfl⟩,fun b hb=>?_,q⟩
 have e:b=s1.heap.objs.size:=by simpa using hb
 subst e
 exact I1.fpOk (Nat.le_refl _) (I1.hok.fresh (Nat.le_refl _))
theorem o_x{pins:List (Addr×Obj)}{σ:St}{H:Hp}{s:Shared}{R:It->Hp->Prop}{E:Value->Shared->Prop}{lo hi:Int}{t u v:Tok}{tk:Nat}(I:Inv X pins σ H s)(h1 : -(2^62)<=lo)(h2:lo<2^62)(h3 : -(2^62)<=hi)(h4:hi<2^62)
  (q:R (Itr lo (hi-lo).toNat) H):wpAny (model X.prog X.w) X.A (pyIter (.ref s.heap.objs.size)) (PIE X pins σ tg R) E { s with heap:=s.heap.push { cls:=.type "range",data:=.fields #[.int lo t,.int hi u,.int 1 v] },toks:=tk }:=by
 refine wpAny_pyIter_range (IsRange.new ..) (small_one h1 h2 h3 h4) ?_
 have I1:Inv X pins σ H { s with heap:=s.heap.push { cls:=.type "range",data:=.fields #[.int lo t,.int hi u,.int 1 v] },toks:=tk }:=I.kept fun b o e=>Heap.get?_push_of_some _ e
 refine ⟨(s.heap.push { cls:=.type "range",data:=.fields #[.int lo t,.int hi u,.int 1 v] }).objs.size,[(s.heap.push { cls:=.type "range",data:=.fields #[.int lo t,.int hi u,.int 1 v] }).objs.size],_,_,H,rfl,
  I1.kept (t':=tk) fun b o e=>Heap.get?_push_of_some _ e,m_g _ lo (hi-lo).toNat,?_,fun b hb=>?_,q⟩
 ·have e1:lo+((0:Nat):Int)*1=lo:=by simp
  have e2:(((hi-lo).toNat:Nat):Int)-((0:Nat):Int)=Builtin.Range.rangeSize lo hi 1:=by rw [rangeSize_one];split<;>lia
  show IsRangeIter _ _ (lo+((0:Nat):Int)*1) ((((hi-lo).toNat:Nat):Int)-((0:Nat):Int)) 1
  rw [e1,e2]
  exact Heap.get?_push_size _ rfl
 ·have e:b=(s.heap.push { cls:=.type "range",data:=.fields #[.int lo t,.int hi u,.int 1 v] }).objs.size:=by simpa using hb
  subst e
  exact I1.fpOk (Nat.le_refl _) (I1.hok.fresh (Nat.le_refl _))
def iRng1(ta:TA):TI:=fun σ H R=>ta σ H fun vs H1=>∃ j:Int,vs=[.int j] /\ -(2^62)<=j/\j<2^62/\R (Itr 0 j.toNat) H1
def iRng2(ta:TA):TI:=fun σ H R=>ta σ H fun vs H1=>∃ i j:Int,vs=[.int i,.int j]/\(-(2^62)<=i/\i<2^62 /\ -(2^62)<=j/\j<2^62)/\R (Itr i (j-i).toNat) H1
theorem y_w{a:Expr}{ta:TA}{p pos:Pos}(hg:Gl X "range")(hm:X.mg "range" = none)(ha:PA X [a] ta)(hs:starEach [a] X.env=[(false,eval a X.env)]:=by rfl):PI X tg (.Call (.Name "range" p) [a] [] pos) (iRng1 ta):=by
 intro pins s σ H R I h
 refine Call_ (r_w I hg hm boot_range (PyProof.Rows.callWith_type1 (thn (ha pos pins s σ H _ I h) fun us s1 ⟨vs,H1,I1,r1,q1⟩=>?_) hs rfl))
 obtain ⟨j,e,q1,q2,q⟩:=q1
 subst e
 cases r1 with
 | cons r rr =>
  cases rr
  obtain ⟨t,rfl⟩:=r
  exact call_range_1 (o_x I1 (by lia) (by lia) q1 q2 (by simpa using q))
theorem k_o{a b:Expr}{ta:TA}{p pos:Pos}(hg:Gl X "range")(hm:X.mg "range" = none)(ha:PA X [a,b] ta)(hs:starEach [a,b] X.env=[(false,eval a X.env),(false,eval b X.env)]:=by rfl)(hs2:starEach [b] X.env=[(false,eval b X.env)]:=by rfl) :
  PI X tg (.Call (.Name "range" p) [a,b] [] pos) (iRng2 ta):=by
 intro pins s σ H R I h
 refine Call_ (r_w I hg hm boot_range (PyProof.Rows.callWith_type1 (thn (ha pos pins s σ H _ I h) fun us s1 ⟨vs,H1,I1,r1,q1⟩=>?_) (by rw [hs,hs2]) (by rw [hs2];rfl)))
 obtain ⟨i,j,e,⟨q1,q2,q3,q4⟩,q⟩:=q1
 subst e
 cases r1 with
 | cons r rr =>
  cases rr with
  | cons r' rr =>
   cases rr
   obtain ⟨t,rfl⟩:=r
   obtain ⟨t',rfl⟩:=r'
   exact call_range_2 (o_x I1 q1 q2 q3 q4 q)
def tFor(wi:TI)(g:TG)(tb:TS):TS:=fun D σ H=>wi σ H fun J H1=>∃ W:Nat->Nat->St->Hp->Prop,(∃ m,W 0 m σ H1)/\∀ i m σ H,W i m σ H ->
 (J.stop i H/\D.nx σ H)\/(J.go i H/\∃ N:St->Hp->Prop,(∀ σ' H',N σ' H'->∃ m',m'<m/\W (i+1) m' σ' H')/\∀ x H',J.yld i H x H'->g x σ H' fun σ2 H2=>tb { D with nx:=N,ct:=N,bk:=D.nx } σ2 H2)
def pinsAt(fp:List Addr)(h:Heap):List (Addr×Obj):=fp.filterMap fun b=>(h.get? b).map fun o=>(b,o)
theorem w_w{fp:List Addr}{h:Heap}{b:Addr}{o:Obj}(hb:b∈fp)(e:h.get? b=some o):(b,o)∈pinsAt fp h:=List.mem_filterMap.mpr ⟨b,hb,by rw [e];rfl⟩
theorem q_c{fp:List Addr}{h:Heap}{p:Addr×Obj}(hp:p∈pinsAt fp h):p.1∈fp/\h.get? p.1=some p.2:=by
 obtain ⟨b,hb,e⟩:=List.mem_filterMap.mp hp
 cases q:h.get? b with
 | none=>rw [q] at e;cases e
 | some o =>
  rw [q] at e
  have e':(b,o)=p:=Option.some.inj e
  subst e'
  exact ⟨hb,q⟩
theorem Inv.pinned{pins:List (Addr×Obj)}{σ:St}{H:Hp}{s:Shared}{fp:List Addr}(I:Inv X pins σ H s)(hf:∀ b∈fp,FpOk X pins H b)(ho:∀ b∈fp,∃ o,s.heap.get? b=some o/\∀ v,o.data ≠ .cell v):Inv X (pins++pinsAt fp s.heap) σ H s :=
 I.pins_of fun p hp=>(List.mem_append.mp hp).elim (fun z=>I.pin p (List.mem_append_right _ z)) fun z=>by
  obtain ⟨hb,e⟩:=q_c z
  obtain ⟨f0,f1,f2,_⟩:=hf p.1 hb
  obtain ⟨o,e',d⟩:=ho p.1 hb
  rw [e] at e';cases e'
  exact ⟨e,f0,f1,f2,d⟩
theorem Inv.unpinned{pins pl:List (Addr×Obj)}{σ:St}{H:Hp}{s:Shared}(I:Inv X (pins++pl) σ H s):Inv X pins σ H s:=I.pins_of fun p hp=>I.pin p (List.mem_append_right _ (List.mem_append_left _ hp))
theorem w_s{iter:Expr}{body:List Stmt}{wi:TI}{g:TG}{tb:TS}{pos:Pos}(hp:PassesOwn (model X.prog X.w) X.A X.env X.xe)(hc:X.calm=true)(hi:PI X tg iter wi)(hg:PG X tg g)(hb:PSs X body tb)
  (hs:∀ x,foldedSetIterable iter X.env x=pure x:=by intro _;rfl):PS X (.For tg iter body [] pos) (tFor wi g tb):=by
 intro pins s σ H D I h
 refine wpAny_For (thn (hi pins s σ H _ I h) fun v s1 h1=>thn h1 fun itv s2 h2=>?_) hs
 obtain ⟨it,fp,tn,J,H2,e,I2,T,st2,f2,W,⟨m0,w0⟩,turn⟩:=h2
 subst e
 have stat:∀ {H':Hp},(∀ b∈fp,H' b=none)->∀ b∈fp,FpOk X pins H' b:=fun hn b hb=>⟨hn b hb,(f2 b hb).2⟩
 refine codeAny_forLoop_any (fun n s'=>∃ i σ' H',Inv X pins σ' H' s'/\tn i s'.heap/\(∀ b∈fp,H' b=none)/\W i n σ' H') ?_ m0 ⟨0,σ,H2,I2,st2,fun b hb=>(f2 b hb).1,w0⟩
 rintro n s3 ⟨i,σ3,H3,I3,st3,fr3,w3⟩
 rcases turn i n σ3 H3 w3 with ⟨stop,qn⟩ | ⟨go,N,hN,step⟩
 ·refine wpAny_passesOwn hp (thn (T.done X rfl rfl rfl hc i pins s3 σ3 H3 X.xe I3 (stat fr3) st3 stop) fun r s4 ⟨hr,I4⟩=>?_)
  subst hr
  exact wpAny_execs_nil ⟨σ3,H3,I4,qn⟩
 ·refine wpAny_passesOwn hp (thn (T.item X rfl rfl rfl hc i pins s3 σ3 H3 X.xe I3 (stat fr3) st3 go) fun r s4 ⟨u,hr,h4⟩=>?_)
  subst hr
  refine wpAny_passesOwn hp (thn h4 fun _ s5 ⟨x,H5,I5,r5,y5,st5,fr5⟩=>?_)
  have I5':=I5.pinned (stat fr5) (T.obj _ _ st5)
  refine wpAny_passesOwn hp (thn (hg _ s5 σ3 H5 x u _ I5' r5 (step x H5 y5)) fun _ s6 ⟨σ6,H6,I6,q6⟩=>?_)
  refine wpAny_passesOwn hp (thn (hb _ s6 σ6 H6 _ I6 q6) fun f s7 q7=>?_)
  have again:∀ {σ7:St} {H7:Hp},Inv X (pins++pinsAt fp s5.heap) σ7 H7 s7->N σ7 H7->∃ m,m<n/\∃ i σ' H',Inv X pins σ' H' s7/\tn i s7.heap/\(∀ b∈fp,H' b=none)/\W i m σ' H':=fun {σ7 H7} I7 n7=>by
   obtain ⟨m',hm,w7⟩:=hN σ7 H7 n7
   refine ⟨m',hm,i+1,σ7,H7,I7.unpinned,T.keep _ _ _ st5 fun b hb o e=>(I7.pin (b,o) (List.mem_append_right _ (List.mem_append_right _ (w_w hb e)))).1,fun b hb=>?_,w7⟩
   obtain ⟨o,e,d⟩:=T.obj _ _ st5 b hb
   exact (I7.pin (b,o) (List.mem_append_right _ (List.mem_append_right _ (w_w hb e)))).2.1
  cases f with
  | next=>obtain ⟨σ7,H7,I7,n7⟩:=q7;exact again I7 n7
  | cont=>obtain ⟨σ7,H7,I7,n7⟩:=q7;exact again I7 n7
  | brk=>obtain ⟨σ7,H7,I7,q7⟩:=q7;exact ⟨σ7,H7,I7.unpinned,q7⟩
  | ret v=>obtain ⟨x7,σ7,H7,I7,r7,q7⟩:=q7;exact ⟨x7,σ7,H7,I7.unpinned,r7,q7⟩
end
theorem v_z{K:PySem.W.Frag}{a:Addr}{xs:List V}{g:TG}{tb:TS}{D:Ends}{σ:St}{H:Hp}(Pv:Nat->St->Hp->Prop)(h0:Pv 0 σ H)(hl:∀ i σ H,i<=xs.length->Pv i σ H->SqL K H a xs)
  (hs:∀ i x σ H,xs[i]? = some x->Pv i σ H->g x σ H fun σ2 H2=>tb { D with nx:=Pv (i+1),ct:=Pv (i+1),bk:=D.nx } σ2 H2) (hd:∀ σ H,Pv xs.length σ H->D.nx σ H) :
  ∃ W:Nat->Nat->St->Hp->Prop,(∃ m,W 0 m σ H)/\∀ i m σ H,W i m σ H ->
   ((Itl K a).stop i H/\D.nx σ H)\/((Itl K a).go i H/\∃ N:St->Hp->Prop,(∀ σ' H',N σ' H'->∃ m',m'<m/\W (i+1) m' σ' H')/\∀ x H',(Itl K a).yld i H x H'->g x σ H' fun σ2 H2=>tb { D with nx:=N,ct:=N,bk:=D.nx } σ2 H2):=by
 refine ⟨fun i m σ H=>m=xs.length-i/\i<=xs.length/\Pv i σ H,⟨xs.length,by simp,Nat.zero_le _,h0⟩,?_⟩
 rintro i m σ H ⟨rfl,hi,p⟩
 have q:=hl i σ H hi p
 by_cases hlt:i<xs.length
 ·refine .inr ⟨⟨xs,xs[i],q,by simp [hlt]⟩,Pv (i+1),fun σ' H' p'=>⟨xs.length-(i+1),by lia,rfl,hlt,p'⟩,fun x H' y=>?_⟩
  obtain ⟨e,y⟩:=y
  subst e
  exact hs i x σ _ (y xs q) p
 ·have e:i=xs.length:=by lia
  subst e
  exact .inl ⟨⟨xs,q,Nat.le_refl _⟩,hd σ H p⟩
theorem l_f{K:PySem.W.Frag}{a:Addr}{xs:List V}{g:TG}{tb:TS}{D:Ends}{σ:St}{H:Hp}(Pv:Nat->St->Hp->Prop)(h0:Pv 0 σ H)(hl:∀ i σ H,i<=xs.length->Pv i σ H->SqT K H a xs)
  (hs:∀ i x σ H,xs[i]? = some x->Pv i σ H->g x σ H fun σ2 H2=>tb { D with nx:=Pv (i+1),ct:=Pv (i+1),bk:=D.nx } σ2 H2) (hd:∀ σ H,Pv xs.length σ H->D.nx σ H) :
  ∃ W:Nat->Nat->St->Hp->Prop,(∃ m,W 0 m σ H)/\∀ i m σ H,W i m σ H ->
   ((Itt K a).stop i H/\D.nx σ H)\/((Itt K a).go i H/\∃ N:St->Hp->Prop,(∀ σ' H',N σ' H'->∃ m',m'<m/\W (i+1) m' σ' H')/\∀ x H',(Itt K a).yld i H x H'->g x σ H' fun σ2 H2=>tb { D with nx:=N,ct:=N,bk:=D.nx } σ2 H2):=by
 refine ⟨fun i m σ H=>m=xs.length-i/\i<=xs.length/\Pv i σ H,⟨xs.length,by simp,Nat.zero_le _,h0⟩,?_⟩
 rintro i m σ H ⟨rfl,hi,p⟩
 have q:=hl i σ H hi p
 by_cases hlt:i<xs.length
 ·refine .inr ⟨⟨xs,xs[i],q,by simp [hlt]⟩,Pv (i+1),fun σ' H' p'=>⟨xs.length-(i+1),by lia,rfl,hlt,p'⟩,fun x H' y=>?_⟩
  obtain ⟨e,y⟩:=y
  subst e
  exact hs i x σ _ (y xs q) p
 ·have e:i=xs.length:=by lia
  subst e
  exact .inl ⟨⟨xs,q,Nat.le_refl _⟩,hd σ H p⟩
theorem w_c{lo:Int}{n:Nat}{g:TG}{tb:TS}{D:Ends}{σ:St}{H:Hp}(Pv:Nat->St->Hp->Prop)(h0:Pv 0 σ H)
  (hs:∀ i σ H,i<n->Pv i σ H->g (.int (lo+i)) σ H fun σ2 H2=>tb { D with nx:=Pv (i+1),ct:=Pv (i+1),bk:=D.nx } σ2 H2) (hd:∀ σ H,Pv n σ H->D.nx σ H) :
  ∃ W:Nat->Nat->St->Hp->Prop,(∃ m,W 0 m σ H)/\∀ i m σ H,W i m σ H ->
   ((Itr lo n).stop i H/\D.nx σ H)\/((Itr lo n).go i H/\∃ N:St->Hp->Prop,(∀ σ' H',N σ' H'->∃ m',m'<m/\W (i+1) m' σ' H')/\∀ x H',(Itr lo n).yld i H x H'->g x σ H' fun σ2 H2=>tb { D with nx:=N,ct:=N,bk:=D.nx } σ2 H2):=by
 refine ⟨fun i m σ H=>m=n-i/\i<=n/\Pv i σ H,⟨n,by simp,Nat.zero_le _,h0⟩,?_⟩
 rintro i m σ H ⟨rfl,hi,p⟩
 by_cases hlt:i<n
 ·refine .inr ⟨hlt,Pv (i+1),fun σ' H' p'=>⟨n-(i+1),by lia,rfl,hlt,p'⟩,fun x H' y=>?_⟩
  obtain ⟨e,y⟩:=y
  subst e y
  exact hs i σ _ hlt p
 ·have e:i=n:=by lia
  subst e
  exact .inl ⟨Nat.le_refl _,hd σ H p⟩
open PySem PySem.Spec PyProof.Rows
abbrev R2:=V->V->Hp->VK->Prop
def OpR(X:Cx)(f:Value->Value->Sem Value)(r:R2):Prop :=
 ∀ (pins:List (Addr×Obj)) (s:Shared) (σ:St) (H:Hp) (x y:V) (v u:Value) (Q:VK),Inv X pins σ H s->RelV x v->RelV y u->r x y H Q ->
  wpAny (model X.prog X.w) X.A (f v u) (EP X pins σ Q) X.xe s
def UnR(X:Cx)(f:Value->Sem Value)(r:V->Hp->VK->Prop):Prop :=
 ∀ (pins:List (Addr×Obj)) (s:Shared) (σ:St) (H:Hp) (x:V) (v:Value) (Q:VK),Inv X pins σ H s->RelV x v->r x H Q ->
  wpAny (model X.prog X.w) X.A (f v) (EP X pins σ Q) X.xe s
def CallR(X:Cx)(f:Value)(r:List V->Hp->VK->Prop):Prop :=
 ∀ (pins:List (Addr×Obj)) (s:Shared) (σ:St) (H:Hp) (xs:List V) (us:List Value) (Q:VK),Inv X pins σ H s->Vals xs us->r xs H Q ->
  wpAny (model X.prog X.w) X.A (call f us) (EP X pins σ Q) X.xe s
def TruR(X:Cx)(r:V->Hp->(Bool->Hp->Prop)->Prop):Prop :=
 ∀ (pins:List (Addr×Obj)) (s:Shared) (σ:St) (H:Hp) (x:V) (v:Value) (Q:Bool->Hp->Prop),Inv X pins σ H s->RelV x v->r x H Q ->
  wpAny (model X.prog X.w) X.A (truthy v) (TP X pins σ Q) X.xe s
def tOp(r:R2)(ta tb:TE):TE:=fun σ H Q=>ta σ H fun x H1=>tb σ H1 fun y H2=>r x y H2 Q
def tUn(r:V->Hp->VK->Prop)(ta:TE):TE:=fun σ H Q=>ta σ H fun x H1=>r x H1 Q
def rI(C:Int->Int->Prop)(g:Int->Int->V):R2:=fun x y H Q=>∃ i j,x = .int i/\y = .int j/\C i j/\Q (g i j) H
def rI0(g:Int->Int->V):R2:=fun x y H Q=>∃ i j,x = .int i/\y = .int j/\Q (g i j) H
def rU(g:Int->V):V->Hp->VK->Prop:=fun x H Q=>∃ i,x = .int i/\Q (g i) H
section
variable {X:Cx} {a b c:Expr} {ta tb tc:TE} {pos:Pos}
theorem binT(ha:PE X a ta)(hb:PE X b tb){pins:List (Addr×Obj)}{s:Shared}{σ:St}{H:Hp}{R:V->V->Hp->Prop}(I:Inv X pins σ H s)
  (h:ta σ H fun x H1=>tb σ H1 fun y H2=>R x y H2) {Q:Value->Shared->Prop} {f:Value->Value->Sem Value}
  (hf:∀ v u s2 x y H2,Inv X pins σ H2 s2->RelV x v->RelV y u->R x y H2->wpAny (model X.prog X.w) X.A (f v u) Q X.xe s2) :
  wpAny (model X.prog X.w) X.A (eval a X.env) (fun v s₁=>wpAny (model X.prog X.w) X.A (eval b X.env) (fun u s₂=>wpAny (model X.prog X.w) X.A (f v u) Q X.xe s₂) X.xe s₁) X.xe s:=by
 refine thn (ha pins s σ H _ I h) fun v s1 ⟨x,H1,I1,r1,q1⟩=>?_
 refine thn (hb pins s1 σ H1 _ I1 q1) fun u s2 ⟨y,H2,I2,r2,q2⟩=>?_
 exact hf v u s2 x y H2 I2 r1 r2 q2
theorem z_k{op:Operator}{r:R2}(ho:OpR X (binaryOp op) r)(ha:PE X a ta)(hb:PE X b tb):PE X (.BinOp a op b pos) (tOp r ta tb):=by
 intro pins s σ H Q I h
 exact wpAny_BinOp (binT ha hb I h fun v u s2 x y H2 I2 rx ry q=>ho pins s2 σ H2 x y v u Q I2 rx ry q)
theorem k_m{op:UnaryOp}{r:V->Hp->VK->Prop}(ho:UnR X (unaryOp op) r)(ha:PE X a ta):PE X (.UnaryOp op a pos) (tUn r ta):=by
 intro pins s σ H Q I h
 exact UnaryOp_ (thn (ha pins s σ H _ I h) fun v s1 ⟨x,H1,I1,r1,q1⟩=>ho pins s1 σ H1 x v Q I1 r1 q1)
theorem opI{f:Value->Value->Sem Value}{C:Int->Int->Prop}{g:Int->Int->Int}
  (rule:∀ (i j:Int) (t u:Tok) (s:Shared) (Q:Value->Shared->Prop) (E:Value->Shared->Prop),C i j->Q (.int (g i j) s.toks) { s with toks:=s.toks+1 }->wpAny (model X.prog X.w) X.A (f (.int i t) (.int j u)) Q E s) :
  OpR X f (rI C fun i j=>.int (g i j)):=by
 intro pins s σ H x y v u Q I rx ry h
 obtain ⟨i,j,rfl,rfl,hc,q⟩:=h
 obtain ⟨t,rfl⟩:=rx
 obtain ⟨t',rfl⟩:=ry
 exact rule i j t t' s _ _ hc ⟨.int (g i j),H,I.tok _,⟨_,rfl⟩,q⟩
theorem opI0{f:Value->Value->Sem Value}{g:Int->Int->Int}
  (rule:∀ (i j:Int) (t u:Tok) (s:Shared) (Q:Value->Shared->Prop) (E:Value->Shared->Prop),Q (.int (g i j) s.toks) { s with toks:=s.toks+1 }->wpAny (model X.prog X.w) X.A (f (.int i t) (.int j u)) Q E s) :
  OpR X f (rI0 fun i j=>.int (g i j)):=by
 intro pins s σ H x y v u Q I rx ry h
 obtain ⟨i,j,rfl,rfl,q⟩:=h
 obtain ⟨t,rfl⟩:=rx
 obtain ⟨t',rfl⟩:=ry
 exact rule i j t t' s _ _ ⟨.int (g i j),H,I.tok _,⟨_,rfl⟩,q⟩
theorem opB0{f:Value->Value->Sem Value}{g:Int->Int->Bool}
  (rule:∀ (i j:Int) (t u:Tok) (s:Shared) (Q:Value->Shared->Prop) (E:Value->Shared->Prop),Q (.bool (g i j)) s->wpAny (model X.prog X.w) X.A (f (.int i t) (.int j u)) Q E s) :
  OpR X f (rI0 fun i j=>.bl (g i j)):=by
 intro pins s σ H x y v u Q I rx ry h
 obtain ⟨i,j,rfl,rfl,q⟩:=h
 obtain ⟨t,rfl⟩:=rx
 obtain ⟨t',rfl⟩:=ry
 exact rule i j t t' s _ _ ⟨.bl (g i j),H,I,rfl,q⟩
def CPow(i j:Int):Prop:=0<=j/\j<=1000000/\i.natAbs<2^64
def CMul(i j:Int):Prop:=(-(2^64)<i/\i<2^64)\/(-(2^64)<j/\j<2^64)
theorem CMul.ok{i j:Int}(h:CMul i j):IntMulOk i j:=by
 rcases h with ⟨h1,h2⟩ | ⟨h1,h2⟩
 ·exact .of_left (intBits_le_64 h1 h2)
 ·exact .of_right (intBits_le_64 h1 h2)
theorem y_g:OpR X (binaryOp .Add) (rI0 fun i j=>.int (i+j)):=opI0 fun _ _ _ _ _ _ _ q=>add_int q
theorem t_t:OpR X (binaryOp .Sub) (rI0 fun i j=>.int (i-j)):=opI0 fun _ _ _ _ _ _ _ q=>sub_int q
theorem y_p:OpR X (binaryOp .Mult) (rI CMul fun i j=>.int (i*j)):=opI fun _ _ _ _ _ _ _ hc q=>mul_int q hc.ok
theorem z_z:OpR X (binaryOp .Mod) (rI (fun _ j=>0<j) fun i j=>.int (i%j)):=opI fun i j _ _ _ _ _ hc q=>by
 have h1:(0:Int)<j:=hc
 exact mod_int' (by lia) (by rw [Int.fmod_eq_emod_of_nonneg i (by lia)];exact q)
theorem o_p:OpR X (binaryOp .Pow) (rI CPow fun i j=>.int (i^j.toNat)):=opI fun _ _ _ _ _ _ _ hc q=>pow_int_small hc.1 hc.2.1 hc.2.2 q
theorem op_and:OpR X (binaryOp .BitAnd) (rI0 fun i j=>.int (Builtin.bitAnd i j)):=opI0 fun _ _ _ _ _ _ _ q=>and_int q
theorem op_or:OpR X (binaryOp .BitOr) (rI0 fun i j=>.int (Builtin.bitOr i j)):=opI0 fun _ _ _ _ _ _ _ q=>or_int q
theorem w_o:OpR X (binaryOp .BitXor) (rI0 fun i j=>.int (Builtin.bitXor i j)):=opI0 fun _ _ _ _ _ _ _ q=>xor_int q
theorem unI{f:Value->Sem Value}{g:Int->Int}
  (rule:∀ (i:Int) (t:Tok) (s:Shared) (Q:Value->Shared->Prop) (E:Value->Shared->Prop),Q (.int (g i) s.toks) { s with toks:=s.toks+1 }->wpAny (model X.prog X.w) X.A (f (.int i t)) Q E s) :
  UnR X f (rU fun i=>.int (g i)):=by
 intro pins s σ H x v Q I rx h
 obtain ⟨i,rfl,q⟩:=h
 obtain ⟨t,rfl⟩:=rx
 exact rule i t s _ _ ⟨.int (g i),H,I.tok _,⟨_,rfl⟩,q⟩
theorem q_w:UnR X (unaryOp .USub) (rU fun i=>.int (-i)):=unI fun _ _ _ _ _ q=>neg_int q
end
def scal:V->V->Bool
 | .non,.non=>true | .non,.int _=>true | .int _,.non=>true | .non,.bl _=>true | .bl _,.non=>true | .non,.str _=>true | .str _,.non=>true
 | .int _,.int _=>true | .bl _,.bl _=>true | .str _,.str _=>true | .byt _,.byt _=>true
 | .int _,.str _=>true | .str _,.int _=>true | .bl _,.str _=>true | .str _,.bl _=>true
 | _,_=>false
def rEq:R2:=fun x y H Q=>scal x y=true/\Q (.bl (decide (x=y))) H
def rNe:R2:=fun x y H Q=>scal x y=true/\Q (.bl (!decide (x=y))) H
theorem l_a{i j:Int}:decide (V.int i=V.int j)=(i == j):=by
 rw [Bool.eq_iff_iff]
 simp
theorem dec_bl{i j:Bool}:decide (V.bl i=V.bl j)=(i == j):=by
 rw [Bool.eq_iff_iff]
 simp
theorem l_b{i j:Str}:decide (V.str i=V.str j)=(i == j):=by
 rw [Bool.eq_iff_iff]
 simp
theorem m_z{i j:Array UInt8}:decide (V.byt i=V.byt j)=(i.toList == j.toList):=by
 rw [Bool.eq_iff_iff]
 cases i
 cases j
 simp
section
variable {X:Cx} {a b c:Expr} {ta tb tc:TE} {pos:Pos}
theorem y_e{pins:List (Addr×Obj)}{σ:St}{H:Hp}{s:Shared}{Q:VK}{k k':Bool}(I:Inv X pins σ H s)(q:Q (.bl k) H)(e:k=k'):EP X pins σ Q (.bool k') s:=by
 subst e
 exact ⟨.bl k,H,I,rfl,q⟩
theorem w_e:OpR X (compareOp .Eq) rEq:=by
 intro pins s σ H x y v u Q I rx ry h
 obtain ⟨hs,q⟩:=h
 cases x with
 | non =>
  cases rx
  cases y with
  | non=>cases ry;exact PySem.EqNone.eq_none_none (y_e I q (by simp))
  | bl j=>cases ry;exact PySem.EqNone.eq_none_bool (y_e I q (by simp))
  | int j=>obtain ⟨t',rfl⟩:=ry;exact PySem.EqNone.eq_none_int (y_e I q (by simp))
  | str j=>obtain ⟨t',rfl⟩:=ry;exact PySem.EqNone.eq_none_str (y_e I q (by simp))
  | _=>exact absurd (show false=true from hs) Bool.false_ne_true
 | bl i =>
  cases rx
  cases y with
  | non=>cases ry;exact PySem.EqNone.eq_bool_none (y_e I q (by simp))
  | bl j=>cases ry;exact eq_bool (y_e I q dec_bl)
  | str j=>obtain ⟨t',rfl⟩:=ry;exact PySem.EqMixed.eq_bool_str (y_e I q (by simp))
  | _=>exact absurd (show false=true from hs) Bool.false_ne_true
 | int i =>
  obtain ⟨t,rfl⟩:=rx
  cases y with
  | non=>cases ry;exact PySem.EqNone.eq_int_none (y_e I q (by simp))
  | int j=>obtain ⟨t',rfl⟩:=ry;exact eq_int (y_e I q l_a)
  | str j=>obtain ⟨t',rfl⟩:=ry;exact PySem.EqMixed.eq_int_str (y_e I q (by simp))
  | _=>exact absurd (show false=true from hs) Bool.false_ne_true
 | str i =>
  obtain ⟨t,rfl⟩:=rx
  cases y with
  | non=>cases ry;exact PySem.EqNone.eq_str_none (y_e I q (by simp))
  | bl j=>cases ry;exact PySem.EqMixed.eq_str_bool (y_e I q (by simp))
  | int j=>obtain ⟨t',rfl⟩:=ry;exact PySem.EqMixed.eq_str_int (y_e I q (by simp))
  | str j=>obtain ⟨t',rfl⟩:=ry;exact eq_str (y_e I q l_b)
  | _=>exact absurd (show false=true from hs) Bool.false_ne_true
 | byt i =>
  obtain ⟨t,rfl⟩:=rx
  cases y with
  | byt j=>obtain ⟨t',rfl⟩:=ry;exact PySem.W.eq_bytes (y_e I q m_z)
  | _=>exact absurd (show false=true from hs) Bool.false_ne_true
 | _=>cases y<;>exact absurd (show false=true from hs) Bool.false_ne_true
theorem op_ne:OpR X (compareOp .NotEq) rNe:=by
 intro pins s σ H x y v u Q I rx ry h
 obtain ⟨hs,q⟩:=h
 cases x with
 | non =>
  cases rx
  cases y with
  | non=>cases ry;exact PySem.EqNone.ne_none_none (y_e I q (by simp))
  | bl j=>cases ry;exact PySem.EqNone.ne_none_bool (y_e I q (by simp))
  | int j=>obtain ⟨t',rfl⟩:=ry;exact PySem.EqNone.ne_none_int (y_e I q (by simp))
  | str j=>obtain ⟨t',rfl⟩:=ry;exact PySem.EqNone.ne_none_str (y_e I q (by simp))
  | _=>exact absurd (show false=true from hs) Bool.false_ne_true
 | bl i =>
  cases rx
  cases y with
  | non=>cases ry;exact PySem.EqNone.ne_bool_none (y_e I q (by simp))
  | bl j=>cases ry;exact ne_bool (y_e I q (congrArg not dec_bl))
  | str j=>obtain ⟨t',rfl⟩:=ry;exact PySem.EqMixed.ne_bool_str (y_e I q (by simp))
  | _=>exact absurd (show false=true from hs) Bool.false_ne_true
 | int i =>
  obtain ⟨t,rfl⟩:=rx
  cases y with
  | non=>cases ry;exact PySem.EqNone.ne_int_none (y_e I q (by simp))
  | int j=>obtain ⟨t',rfl⟩:=ry;exact ne_int (y_e I q (congrArg not l_a))
  | str j=>obtain ⟨t',rfl⟩:=ry;exact PySem.EqMixed.ne_int_str (y_e I q (by simp))
  | _=>exact absurd (show false=true from hs) Bool.false_ne_true
 | str i =>
  obtain ⟨t,rfl⟩:=rx
  cases y with
  | non=>cases ry;exact PySem.EqNone.ne_str_none (y_e I q (by simp))
  | bl j=>cases ry;exact PySem.EqMixed.ne_str_bool (y_e I q (by simp))
  | int j=>obtain ⟨t',rfl⟩:=ry;exact PySem.EqMixed.ne_str_int (y_e I q (by simp))
  | str j=>obtain ⟨t',rfl⟩:=ry;exact ne_str (y_e I q (congrArg not l_b))
  | _=>exact absurd (show false=true from hs) Bool.false_ne_true
 | byt i =>
  obtain ⟨t,rfl⟩:=rx
  cases y with
  | byt j=>obtain ⟨t',rfl⟩:=ry;exact PySem.W.ne_bytes (y_e I q (congrArg not m_z))
  | _=>exact absurd (show false=true from hs) Bool.false_ne_true
 | _=>cases y<;>exact absurd (show false=true from hs) Bool.false_ne_true
theorem op_lt:OpR X (compareOp .Lt) (rI0 fun i j=>.bl (decide (i<j))):=opB0 fun _ _ _ _ _ _ _ q=>lt_int q
theorem op_le:OpR X (compareOp .LtE) (rI0 fun i j=>.bl (decide (i<=j))):=opB0 fun _ _ _ _ _ _ _ q=>le_int q
theorem q_e:OpR X (compareOp .Gt) (rI0 fun i j=>.bl (decide (j<i))):=opB0 fun _ _ _ _ _ _ _ q=>gt_int q
theorem op_ge:OpR X (compareOp .GtE) (rI0 fun i j=>.bl (decide (j<=i))):=opB0 fun _ _ _ _ _ _ _ q=>ge_int q
theorem q_g:OpR X (compareOp .Is) (fun x y H Q=>y = .non/\Q (.bl (decide (x = .non))) H):=by
 intro pins s σ H x y v u Q I rx ry h
 obtain ⟨rfl,q⟩:=h
 cases ry
 refine is_none_gen (y_e I q ?_)
 cases x<;>first
  | (cases rx;rfl)
  | (obtain ⟨t,rfl⟩:=rx;rfl)
theorem k_i:OpR X (compareOp .IsNot) (fun x y H Q=>y = .non/\Q (.bl (!decide (x = .non))) H):=by
 intro pins s σ H x y v u Q I rx ry h
 obtain ⟨rfl,q⟩:=h
 cases ry
 refine isnot_none_gen (y_e I q ?_)
 cases x<;>first
  | (cases rx;rfl)
  | (obtain ⟨t,rfl⟩:=rx;rfl)
theorem nomark(b:Expr){op:CmpOp}(h:op ≠ .In:=by decide)(h2:op ≠ .NotIn:=by decide):behindInMarks op b=false:=by
 have e1:(op == CmpOp.In)=false:=by cases op<;>first | rfl | exact absurd rfl h
 have e2:(op == CmpOp.NotIn)=false:=by cases op<;>first | rfl | exact absurd rfl h2
 cases b<;>simp [behindInMarks,e1,e2]
theorem x_y{op:CmpOp}{r:R2}(ho:OpR X (compareOp op) r)(ha:PE X a ta)(hb:PE X b tb)(hm:behindInMarks op b=false):PE X (.Compare a [op] [b] pos) (tOp r ta tb):=by
 intro pins s σ H Q I h
 exact wpAny_Compare1 (binT ha hb I h fun v u s2 x y H2 I2 rx ry q=>ho pins s2 σ H2 x y v u Q I2 rx ry q) hm
def tTest(t:TE):TT:=fun σ H Q=>t σ H fun x H'=>∃ k,x = .bl k/\Q k H'
theorem z_r{op:CmpOp}{r:R2}(ho:OpR X (compareOp op) r)(ha:PE X a ta)(hb:PE X b tb)(hm:behindInMarks op b=false):PT X (.Compare a [op] [b] pos) (tTest (tOp r ta tb)):=by
 intro pins s σ H Q I h
 refine wpAny_isTrue_Compare1 (thn (ha pins s σ H _ I h) fun v s1 ⟨x,H1,I1,r1,q1⟩=>thn (hb pins s1 σ H1 _ I1 q1) fun u s2 ⟨y,H2,I2,r2,q2⟩ =>
  thn (ho pins s2 σ H2 x y v u _ I2 r1 r2 q2) fun c s3 ⟨z,H3,I3,r3,k,e,q3⟩=>?_) hm
 subst e
 cases r3
 exact wpAny_truthy_bool ⟨H3,I3,q3⟩
def tChain(r r':R2)(ta tb tc:TE):TE:=fun σ H Q=>ta σ H fun x H1=>tb σ H1 fun y H2=>r x y H2 fun z H3=>∃ k,z = .bl k /\
 (if k=true then tc σ H3 fun w' H4=>r' y w' H4 Q else Q (.bl false) H3)
theorem pe_chain{op op':CmpOp}{r r':R2}(ho:OpR X (compareOp op) r)(ho':OpR X (compareOp op') r')(ha:PE X a ta)(hb:PE X b tb)(hc:PE X c tc)
  (hm:lastMarks [op,op'] [b,c]=false:=by with_unfolding_all rfl):PE X (.Compare a [op,op'] [b,c] pos) (tChain r r' ta tb tc):=by
 intro pins s σ H Q I h
 refine Compare_chain (thn (ha pins s σ H _ I h) fun v s1 ⟨x,H1,I1,r1,q1⟩=>chain_link (thn (hb pins s1 σ H1 _ I1 q1) fun u s2 ⟨y,H2,I2,r2,q2⟩ =>
  thn (ho pins s2 σ H2 x y v u _ I2 r1 r2 q2) fun d s3 ⟨z,H3,I3,r3,k,e,q3⟩=>?_)) hm
 subst e
 cases r3
 refine wpAny_truthy_bool ?_
 cases k with
 | false=>exact ite_ff ⟨.bl false,H3,I3,rfl,q3⟩
 | true=>exact ite_tt (chain_last (thn (hc pins s3 σ H3 _ I3 q3) fun w' s4 ⟨z',H4,I4,r4,q4⟩=>ho' pins s4 σ H4 y z' u w' Q I4 r2 r4 q4))
def TruV(K:PySem.W.Frag)(x:V)(H:Hp)(k:Bool):Prop :=
 match x with
 | .non=>k=false
 | .bl b=>k=b
 | .int i=>k=(i != 0)
 | .str y=>y.length<=sizeLine/\k=((y.length:Int) != 0)
 | .byt y=>y.size<=sizeLine/\k=((y.size:Int) != 0)
 | .ref p=>(∃ xs,SqL K H p xs/\k = !xs.isEmpty)\/(∃ xs,SqT K H p xs/\k = !xs.isEmpty)\/∃ kvs,H p=some (.dK kvs)/\k = !kvs.isEmpty
 | _=>False
theorem n_u{κ:Type}{kvs:List (κ×V)}{vs:List (κ×Value)}(r:KV kvs vs):(!vs.isEmpty) = !kvs.isEmpty:=by
 cases r<;>rfl
theorem t_q{xs:List V}{its:List Value}(r:Vals xs its):(!its.toArray.isEmpty) = !xs.isEmpty:=by
 cases r<;>simp
theorem line63:(sizeLine:Nat)<2^63:=by rw [sizeLine_eq];decide
theorem tru_ok:TruR X (fun x H Q=>∃ k,TruV X.K x H k/\Q k H):=by
 intro pins s σ H x v Q I rx h
 obtain ⟨k,e,q⟩:=h
 have hl:=line63
 have hs:sizeLine=16777216:=sizeLine_eq
 cases x with
 | non =>
  cases rx
  have e':k=false:=e
  subst e'
  exact truthy_none ⟨H,I,q⟩
 | bl b =>
  cases rx
  have e':k=b:=e
  subst e'
  exact wpAny_truthy_bool ⟨H,I,q⟩
 | int i =>
  obtain ⟨t,rfl⟩:=rx
  have e':k=(i != 0):=e
  subst e'
  exact PySem.P.truthy_int ⟨H,I,q⟩
 | str y =>
  obtain ⟨t,rfl⟩:=rx
  obtain ⟨hy,e'⟩:y.length<=sizeLine/\k=((y.length:Int) != 0):=e
  subst e'
  exact PySem.P.truthy_str (by lia) ⟨H,I.tok _,q⟩
 | byt y =>
  obtain ⟨t,rfl⟩:=rx
  obtain ⟨hy,e'⟩:y.size<=sizeLine/\k=((y.size:Int) != 0):=e
  subst e'
  exact PySem.W.truthy_bytes (by lia) ⟨H,I.tok _,q⟩
 | ref p =>
  cases rx
  have e':(∃ xs,SqL X.K H p xs/\k = !xs.isEmpty)\/(∃ xs,SqT X.K H p xs/\k = !xs.isEmpty)\/∃ kvs,H p=some (.dK kvs)/\k = !kvs.isEmpty:=e
  rcases e' with ⟨xs,hx,e'⟩ | ⟨xs,hx,e'⟩ | ⟨kvs,hx,e'⟩
  ·subst e'
   obtain ⟨its,r,pl,hz⟩:=I.list hx
   have hlen:=r.length
   exact wpAny_truthy_list pl.isList (by simp only [List.size_toArray];lia) ⟨H,I.tok _,by rw [t_q r];exact q⟩
  ·subst e'
   obtain ⟨its,r,pl,hz⟩:=I.tuple hx
   have hlen:=r.length
   exact truthy_tuple pl (by simp only [List.size_toArray];lia) ⟨H,I.tok _,by rw [t_q r];exact q⟩
  ·subst e'
   obtain ⟨hz,hS,vs,r,m⟩:kvs.length<=sizeLine/\(p == sysModules)=false/\∃ vs,KV kvs vs/\s.heap.DictOf (mixKind X.prog X.w) p vs:=I.hok p _ hx
   have hlen:kvs.length=vs.length:=Paired.length r
   exact wpAny_truthy_dict hS m (by lia) ⟨H,I.tok _,by rw [n_u r];exact q⟩
 | _=>exact (show False from e).elim
theorem x_m(ha:PE X a ta)(he:∀ whole,isTrue a X.env whole=(do let v <-whole;standAt a.pos;holding [v] (truthy v))) :
  PT X a (fun σ H Q=>ta σ H fun x H'=>∃ k,TruV X.K x H' k/\Q k H'):=by
 intro pins s σ H Q I h
 exact isTrue_plain (thn (ha pins s σ H _ I h) fun v s1 ⟨x,H1,I1,r1,q1⟩=>tru_ok pins s1 σ H1 x v Q I1 r1 q1) (he _)
theorem vals1{x:V}{us:List Value}(r:Vals [x] us):∃ u,us=[u]/\RelV x u:=by
 cases r with
 | cons r1 r2=>cases r2;exact ⟨_,rfl,r1⟩
theorem vals2{x y:V}{us:List Value}(r:Vals [x,y] us):∃ u w',us=[u,w']/\RelV x u/\RelV y w':=by
 cases r with
 | cons r1 r2 =>
  cases r2 with
  | cons r3 r4=>cases r4;exact ⟨_,_,rfl,r1,r3⟩
theorem p_z:CallR X (.builtin "abs") (fun xs H Q=>∃ i,xs=[.int i]/\Q (.int (if i<0 then -i else i)) H):=by
 intro pins s σ H xs us Q I r h
 obtain ⟨i,rfl,q⟩:=h
 obtain ⟨u,rfl,t,rfl⟩:=vals1 r
 exact call_abs_int fun u tk=>⟨.int (if i<0 then -i else i),H,I.tok _,⟨_,rfl⟩,q⟩
theorem r_m(hc:X.calm=true):CallR X (.builtin "max") (fun xs H Q=>∃ i j,xs=[.int i,.int j]/\Q (.int (if j > i then j else i)) H):=by
 intro pins s σ H xs us Q I r h
 obtain ⟨i,j,rfl,q⟩:=h
 obtain ⟨u,w',rfl,⟨t,rfl⟩,⟨t',rfl⟩⟩:=vals2 r
 refine max_two_ints (I.ok.hd hc) fun h' tk k=>⟨_,H,I.kept k,?_,q⟩
 by_cases hj:j > i
 ·rw [if_pos hj,if_pos hj];exact ⟨_,rfl⟩
 ·rw [if_neg hj,if_neg hj];exact ⟨_,rfl⟩
theorem r_n(hc:X.calm=true):CallR X (.builtin "min") (fun xs H Q=>∃ i j,xs=[.int i,.int j]/\Q (.int (if j<i then j else i)) H):=by
 intro pins s σ H xs us Q I r h
 obtain ⟨i,j,rfl,q⟩:=h
 obtain ⟨u,w',rfl,⟨t,rfl⟩,⟨t',rfl⟩⟩:=vals2 r
 refine min_two_ints (I.ok.hd hc) fun h' tk k=>⟨_,H,I.kept k,?_,q⟩
 by_cases hj:j<i
 ·rw [if_pos hj,if_pos hj];exact ⟨_,rfl⟩
 ·rw [if_neg hj,if_neg hj];exact ⟨_,rfl⟩
theorem r_l:CallR X (.type "int") (fun xs H Q=>(∃ i,xs=[.int i]/\Q (.int i) H)\/∃ k,xs=[.bl k]/\Q (.int (if k then 1 else 0)) H):=by
 intro pins s σ H xs us Q I r h
 rcases h with ⟨i,rfl,q⟩ | ⟨k,rfl,q⟩
 ·obtain ⟨u,rfl,t,rfl⟩:=vals1 r
  exact call_int_int ⟨.int i,H,I,⟨_,rfl⟩,q⟩
 ·obtain ⟨u,rfl,r1⟩:=vals1 r
  cases r1
  exact call_int_bool ⟨.int (if k then 1 else 0),H,I.tok _,⟨_,rfl⟩,q⟩
def LenV(K:PySem.W.Frag)(x:V)(H:Hp)(n:Nat):Prop :=
 match x with
 | .str y=>y.length<=sizeLine/\n=y.length
 | .byt y=>y.size<=sizeLine/\n=y.size
 | .ref p=>(∃ xs,SqL K H p xs/\n=xs.length)\/∃ xs,SqT K H p xs/\n=xs.length
 | _=>False
theorem y_d:CallR X (.builtin "len") (fun xs H Q=>∃ x n,xs=[x]/\LenV X.K x H n/\Q (.int n) H):=by
 intro pins s σ H xs us Q I r h
 obtain ⟨x,n,rfl,e,q⟩:=h
 obtain ⟨u,rfl,rx⟩:=vals1 r
 have hl:=line63
 have hs:sizeLine=16777216:=sizeLine_eq
 cases x with
 | str y =>
  obtain ⟨t,rfl⟩:=rx
  obtain ⟨hy,e'⟩:y.length<=sizeLine/\n=y.length:=e
  subst e'
  exact len_str (by lia) ⟨.int _,H,I.tok _,⟨_,rfl⟩,q⟩
 | byt y =>
  obtain ⟨t,rfl⟩:=rx
  obtain ⟨hy,e'⟩:y.size<=sizeLine/\n=y.size:=e
  subst e'
  exact PySem.W.len_bytes (by lia) ⟨.int _,H,I.tok _,⟨_,rfl⟩,q⟩
 | ref p =>
  cases rx
  have e':(∃ xs,SqL X.K H p xs/\n=xs.length)\/∃ xs,SqT X.K H p xs/\n=xs.length:=e
  rcases e' with ⟨xs,hx,e'⟩ | ⟨xs,hx,e'⟩
  ·subst e'
   obtain ⟨its,r',pl,hz⟩:=I.list hx
   have hlen:=r'.length
   exact Calls.call_len_list pl.isList (by simp only [List.size_toArray];lia) ⟨.int xs.length,H,I.tok _,⟨_,by simp only [List.size_toArray];rw [hlen]⟩,q⟩
  ·subst e'
   obtain ⟨its,r',pl,hz⟩:=I.tuple hx
   have hlen:=r'.length
   exact len_tuple pl (by simp only [List.size_toArray];lia) ⟨.int xs.length,H,I.tok _,⟨_,by simp only [List.size_toArray];rw [hlen]⟩,q⟩
 | _=>exact (show False from e).elim
end
open PySem PySem.Spec PyProof.Rows
structure ObjM(h:Heap)(x dx C:Addr)(mA:Str->Option Value):Prop where
 obj:h.get? x=some (instObj C dx)
 ns:h.Ns1 dx mA
 ne:dx≠x
theorem l_t{h:Heap}{dx:Addr}{mA:Str->Option Value}(n:h.Ns1 dx mA):∃ od,h.get? dx=some od/\∀ name,lookIn name od=some (mA name):=by
 obtain ⟨o,es,ep,ho,hd,hk,_,hm⟩:=n
 refine ⟨o,ho,fun name=>?_⟩
 have e:=hm name
 unfold nsFind findBy at e
 rw [<-Array.find?_toList] at e
 unfold lookIn
 rw [hd]
 dsimp only
 split
 ·rename_i y q
  rw [q] at e
  exact congrArg some e
 ·rename_i q
  rw [q] at e
  have a:es.toList.any (·.refKey)=false:=by
   rw [List.any_eq_false]
   intro y hy
   obtain ⟨z,t,hkey⟩:=hk y (Array.mem_toList_iff.mp hy)
   simp [DictEntry.refKey,hkey]
  have a':¬es.toList.any (·.refKey)=true:=by rw [a];exact Bool.false_ne_true
  rw [if_neg a']
  exact congrArg some e
theorem ObjM.look{h:Heap}{x dx C:Addr}{mA:Str->Option Value}(I:ObjM h x dx C mA):∃ od,PySem.W.InstAt h x (instObj C dx) C (some od)/\∀ name,lookIn name od=some (mA name) :=
 let ⟨od,ho,hl⟩:=l_t I.ns
 ⟨od,⟨I.obj,rfl,rfl,ho⟩,hl⟩
section
variable {prog:Program} {w:World} {A:Around} {E:Value->Shared->Prop} {s:Shared} {K:PySem.W.Frag} {x dx C f:Addr} {mA:Str->Option Value} {name:Str} {v:Value}
theorem get_map{expr:Bool}{Q:Value->Shared->Prop}(X:K.In s.heap)(I:ObjM s.heap x dx C mA)(hg:plainGet K C name=true)(hh:hasDictIn K C=true)
  (ha:findIn K (.ref C) name=some none) (hv:mA name=some v) (hv':PySem.W.handedIn v=true) (h:Q v { s with toks:=s.toks+1 }) :
  wpAny (model prog w) A (getAttr (.ref x) name expr) Q E s:=by
 obtain ⟨od,J,hl⟩:=I.look
 exact PySem.W.get_value X J (plainGet_of hg).1 (PySem.W.findObj_own hh ha rfl (by rw [hl,hv])) hv' h
theorem get_meth{pl:Sem Bool}{Q:Value×List Value->Shared->Prop}(X:K.In s.heap)(I:ObjM s.heap x dx C mA)(hg:plainGet K C name=true)
  (hf:findIn K (.ref C) name=some (some (.ref f))) (ht:isFn K (.ref f)=true) (hv:mA name=none) (h:Q (.ref f,[.ref x]) s) :
  wpAny (model prog w) A (getMethod (.ref x) name pl) Q E s:=by
 obtain ⟨od,J,hl⟩:=I.look
 exact PySem.W.method_fn X J (plainGet_of hg).1 (plainGet_of hg).2 hf (beq_iff_eq.mp ht) (by show (lookIn name od).map (·.isSome)=some false;rw [hl,hv];rfl) h
theorem set_map{ns:List Str}{Q:Unit->Shared->Prop}(X:K.In s.heap)(I:ObjM s.heap x dx C mA)
  (hs:findIn K (.ref C) "__setattr__" = some (some (.builtin "object.__setattr__"))) (hp:plainOver K C=true) (ht:takerIn K C name=some none) (hh:hasDictIn K C=true)
  (hw:PySem.Within mA ns) (hsz:ns.length<=sizeLine)
  (h:∀ h',ObjM h' x dx C (fun y=>if y=name then some v else mA y)->Heap.SameBut dx s.heap h'->Q () { s with heap:=h',toks:=s.toks+2 }) :
  wpAny (model prog w) A (setAttr (.ref x) name v) Q E s:=by
 obtain ⟨od,J,hl⟩:=I.look
 refine PySem.W.set_plain X J hs (PySem.W.osa_open (s:={ s with toks:=s.toks+1 }) (r:=none) X J hp ht fun b=>?_)
 obtain ⟨cd,hc,hd'⟩:=PySem.W.any_some hh
 have hx:s.heap.get? x=some ⟨.ref C,some dx,.plain,#[]⟩:=I.obj
 refine wpAny_bind (wpAny_pure (wpAny_bind (wpAny_bind (wpAny_loadPart hx (wpAny_bind (PySem.W.Looks.here (s:={ s with toks:=s.toks+1 }) (PySem.W.looks_clsIn X hc) ?_))))))
 rw [hd']
 refine wpAny_pure (a:=some dx) (wpAny_bind (wpAny_pure (wpAny_bind ?_)))
 refine wpAny_nsSet1 (s:={ s with toks:=s.toks+1 }) I.ns fun h' hn2 hs2=>?_
 obtain ⟨oD,esD,epD,hoD,hdD,hcD⟩:=hn2.count (PySem.Within.cons name v hw)
 refine wpAny_bind (wpAny_lookBehind hoD (by rw [hdD];exact pastItsLine_dict (Nat.le_trans hcD (by rw [List.length_cons];lia))) ?_)
 exact wpAny_pure (h _ ⟨(hs2.2 _ (Ne.symm I.ne)).trans I.obj,hn2,I.ne⟩ hs2)
theorem make_map{R:Result->Shared->Prop}{vs:List Value}{kw:List (Str×Value)}(X:K.In s.heap)(hm:makesIn K C=true)
  (hi:findIn K (.ref C) "__init__" = some (some (.ref f))) (hf:PySem.W.typeIn K (.ref f)=some (.type "function"))
  (h:codeAny (model prog w) (A.under (.builtin "type.__call__" ⟨.ref C::vs,kw⟩)) (.call (.ref f) ⟨.ref (s.heap.objs.size+1)::vs,kw⟩) (PySem.W.InitBack (s.heap.objs.size+1) R)
   { s with heap:=(s.heap.push emptyDict).push (instObj C s.heap.objs.size) }) :
  codeAny (model prog w) A (.call (.ref C) ⟨vs,kw⟩) R s:=by
 obtain ⟨hh,g,d,t,os⟩:=s
 exact PySem.W.make_core (PySem.W.makes_of X hm) (PySem.W.looks_findIn X hi) (fun self=>PySem.W.bind_fn X self hf) (.inl rfl) h
end
def putF(f:Str)(v:V):List (Str×V)->List (Str×V)
 | []=>[(f,v)]
 | (g,x)::r=>if g=f then (g,v)::r else (g,x)::putF f v r
theorem u_t(f g:Str)(v:V):∀ fs:List (Str×V),(putF f v fs).lookup g=if g=f then some v else fs.lookup g
 | []=>by
  show List.lookup g [(f,v)]=_
  by_cases h:g=f
  ·have hb:(g == f)=true:=beq_iff_eq.mpr h
   simp only [List.lookup,hb,if_pos h]
  ·have hb:(g == f)=false:=beq_eq_false_iff_ne.mpr h
   simp only [List.lookup,hb,if_neg h]
 | (k,x)::r=>by
  have ih:=u_t f g v r
  rw [show putF f v ((k,x)::r)=(if k=f then (k,v)::r else (k,x)::putF f v r) from rfl]
  by_cases hk:k=f
  ·rw [if_pos hk]
   by_cases h:g=k
   ·have hb:(g == k)=true:=beq_iff_eq.mpr h
    simp only [List.lookup,hb,if_pos (h.trans hk)]
   ·have hb:(g == k)=false:=beq_eq_false_iff_ne.mpr h
    simp only [List.lookup,hb,if_neg (fun e:g=f=>h (e.trans hk.symm))]
  ·rw [if_neg hk]
   by_cases h:g=k
   ·have hb:(g == k)=true:=beq_iff_eq.mpr h
    simp only [List.lookup,hb,if_neg (fun e:g=f=>hk (h.symm.trans e))]
   ·have hb:(g == k)=false:=beq_eq_false_iff_ne.mpr h
    simp only [List.lookup,hb]
    exact ih
theorem u_r(f:Str)(v:V):∀ fs:List (Str×V),f∈(putF f v fs).map (·.1)/\∀ g,g∈fs.map (·.1)->g∈(putF f v fs).map (·.1)
 | []=>⟨by simp [putF],fun g h=>by simp at h⟩
 | (k,x)::r=>by
  obtain ⟨i1,i2⟩:=u_r f v r
  rw [show putF f v ((k,x)::r)=(if k=f then (k,v)::r else (k,x)::putF f v r) from rfl]
  by_cases hk:k=f
  ·rw [if_pos hk]
   subst hk
   exact ⟨by simp,fun g h=>by simpa using h⟩
  ·rw [if_neg hk]
   refine ⟨?_,fun g h=>?_⟩
   ·rw [List.map_cons]
    exact List.mem_cons_of_mem _ i1
   ·rw [List.map_cons] at h ⊢
    rcases List.mem_cons.mp h with e | e
    ·exact List.mem_cons.mpr (.inl e)
    ·exact List.mem_cons_of_mem _ (i2 g e)
theorem u_s(f:Str)(v:V):∀ fs:List (Str×V),(putF f v fs).length<=fs.length+1
 | []=>by simp [putF]
 | (k,x)::r=>by
  have ih:=u_s f v r
  rw [show putF f v ((k,x)::r)=(if k=f then (k,v)::r else (k,x)::putF f v r) from rfl]
  by_cases hk:k=f
  ·rw [if_pos hk,List.length_cons,List.length_cons];lia
  ·rw [if_neg hk,List.length_cons,List.length_cons];lia
theorem RelO.some_of{v:V}{o:Option Value}(r:RelO (some v) o):∃ u,o=some u/\RelV v u:=by
 cases o with
 | none=>exact (show False from r).elim
 | some u=>exact ⟨u,rfl,r⟩
theorem RelO.none_of{o:Option Value}(r:RelO none o):o=none:=by
 cases o with
 | none=>rfl
 | some u=>exact (show False from r).elim
theorem l_h{v:V}{u:Value}(r:RelV v u):PySem.W.handedIn u=true:=by
 cases v with
 | non=>cases (show u=Value.none from r);rfl
 | bl b=>cases (show u=Value.bool b from r);rfl
 | int i=>obtain ⟨t,e⟩:=(show ∃ t,u=Value.int i t from r);cases e;rfl
 | str x=>obtain ⟨t,e⟩:=(show ∃ t,u=Value.str x t from r);cases e;rfl
 | byt b=>obtain ⟨t,e⟩:=(show ∃ t,u=Value.bytes b t from r);cases e;rfl
 | flt b=>obtain ⟨t,e⟩:=(show ∃ t,u=Value.float b t from r);cases e;rfl
 | ref a=>cases (show u=Value.ref a from r);rfl
 | ty n=>cases (show u=Value.type n from r);rfl
section
variable {P:Program} {w:World} {H H':Hp} {h h':Heap} {a C dx:Addr} {fs fs':List (Str×V)}
theorem s_p(hok:HOk P w H h)(e:H a=some (.ins C dx fs)):∃ mA,ObjM h a dx C mA/\(∀ f,RelO (fs.lookup f) (mA f))/\PySem.Within mA (fs.map (·.1))/\fs.length<=1000/\H dx=some (.own a):=by
 obtain ⟨d,z,ne,ob,mA,n,r,q⟩:=(show ObjOk P w H h a (.ins C dx fs) from hok a _ e)
 exact ⟨mA,⟨ob,n,ne⟩,r,q,z,d⟩
end
structure Cls(K:PySem.W.Frag)(C:Addr):Prop where
 pg:plainGet K C Str.empty=true
 hd:hasDictIn K C=true
 po:plainOver K C=true
 sa:findIn K (.ref C) "__setattr__" = some (some (.builtin "object.__setattr__"))
theorem Cls.get{K:PySem.W.Frag}{C:Addr}(c:Cls K C)(f:Str):plainGet K C f=true:=c.pg
def NoAttr(K:PySem.W.Frag)(C:Addr)(f:Str):Prop:=findIn K (.ref C) f=some none
theorem NoAttr.taker{K:PySem.W.Frag}{C:Addr}{f:Str}(n:NoAttr K C f):takerIn K C f=some none:=by
 unfold takerIn
 rw [show findIn K (.ref C) f=some none from n]
 rfl
structure Meth(K:PySem.W.Frag)(C:Addr)(m:Str)(f:Addr):Prop where
 at_:findIn K (.ref C) m=some (some (.ref f))
 fn:isFn K (.ref f)=true
 kp:keepIn K (.ref f)=true
section
variable {X:Cx} {pins:List (Addr×Obj)} {σ:St} {H:Hp} {s:Shared} {a C dx:Addr} {fs:List (Str×V)} {f:Str} {v:V} {A:Around} {E:Value->Shared->Prop}
theorem n_r{b:Bool}{Q:Value->Shared->Prop}(I:Inv X pins σ H s)(e:H a=some (.ins C dx fs))(c:Cls X.K C)(n:NoAttr X.K C f)(l:fs.lookup f=some v)
  (h:∀ u s',Inv X pins σ H s'->RelV v u->Q u s'):wpAny (model X.prog X.w) A (getAttr (.ref a) f b) Q E s:=by
 obtain ⟨mA,O,r,_,_,_⟩:=s_p I.hok e
 obtain ⟨u,hu,ru⟩:=RelO.some_of (v:=v) (o:=mA f) (by rw [<-l];exact r f)
 exact get_map I.kIn O (c.get f) c.hd n hu (l_h ru) (h u _ (I.tok _) ru)
theorem n_s{m:Str}{g:Addr}{pl:Sem Bool}{Q:Value×List Value->Shared->Prop}(I:Inv X pins σ H s)(e:H a=some (.ins C dx fs))(c:Cls X.K C)(k:Meth X.K C m g)(l:fs.lookup m=none)
  (h:Q (.ref g,[.ref a]) s):wpAny (model X.prog X.w) A (getMethod (.ref a) m pl) Q E s:=by
 obtain ⟨mA,O,r,_,_,_⟩:=s_p I.hok e
 have hn:mA m=none:=RelO.none_of (by rw [<-l];exact r m)
 exact get_meth I.kIn O (c.get m) k.at_ k.fn hn h
theorem m_e{y:V}{u:Value}{Q:Unit->Shared->Prop}(I:Inv X pins σ H s)(e:H a=some (.ins C dx fs))(c:Cls X.K C)(n:NoAttr X.K C f)(hl:fs.length<1000)(ry:RelV y u)
  (h:∀ s',Inv X pins σ (upd H a (.ins C dx (putF f y fs))) s'->Q () s'):wpAny (model X.prog X.w) A (setAttr (.ref a) f u) Q E s:=by
 obtain ⟨mA,O,r,wi,_,ho⟩:=s_p I.hok e
 have hz:(fs.map (·.1)).length<=sizeLine:=by rw [List.length_map,sizeLine_eq];lia
 refine set_map I.kIn O c.sa c.po n.taker c.hd wi hz fun h' O' sb=>h _ ?_
 have hd:∃ o,h'.get? dx=some o:=let ⟨o,_,_,e',_⟩:=O'.ns;⟨o,e'⟩
 refine I.write (x:=a) (e:=dx) (by rw [e];exact True.intro) (.inr ho) (fun b q hb z=>(sb.2 b hb).trans z) hd ?_
 refine ⟨by rw [z_n O.ne];exact ho,?_,O.ne,O'.obj,_,O'.ns,fun g=>?_,fun g hg=>?_⟩
 ·have:=u_s f y fs;lia
 ·show RelO ((putF f y fs).lookup g) (if g=f then some u else mA g)
  rw [u_t]
  by_cases q:g=f
  ·rw [if_pos q,if_pos q];exact ry
  ·rw [if_neg q,if_neg q];exact r g
 ·by_cases q:g=f
  ·rw [q];exact (u_r f y fs).1
  ·refine (u_r f y fs).2 g (wi g fun z=>hg ?_)
   show (if g=f then some u else mA g)=none
   rw [if_neg q];exact z
theorem Inv.made(I:Inv X pins σ H s):Inv X pins σ (upd (upd H s.heap.objs.size (.own (s.heap.objs.size+1))) (s.heap.objs.size+1) (.ins C s.heap.objs.size []))
  { s with heap:=(s.heap.push emptyDict).push (instObj C s.heap.objs.size) }:=by
 have e1:(s.heap.push emptyDict).get? s.heap.objs.size=some emptyDict:=Heap.get?_push_size s.heap rfl
 have e2:((s.heap.push emptyDict).push (instObj C s.heap.objs.size)).get? (s.heap.objs.size+1)=some (instObj C s.heap.objs.size):=by
  have:=Heap.get?_push_size (s.heap.push emptyDict) (o:=instObj C s.heap.objs.size) rfl
  rwa [Heap.size_push] at this
 have e3:(s.heap.push emptyDict).Ns s.heap.objs.size (fun _=>none):=⟨emptyDict,#[],_,e1,rfl,(fun e he=>absurd he (by simp)),fun _=>rfl⟩
 have I1:=I.laid (a:=s.heap.objs.size) (o:=.own (s.heap.objs.size+1)) (h':=s.heap.push emptyDict) (t':=s.toks) (fun b u q=>Heap.get?_push_of_some _ q) (Nat.le_refl _) ⟨_,e1⟩
 refine I1.laid (a:=s.heap.objs.size+1) (o:=.ins C s.heap.objs.size []) (t':=s.toks) (fun b u q=>Heap.get?_push_of_some _ q) (Nat.le_of_eq (Heap.size_push _ _)) ?_
 have ne:s.heap.objs.size≠s.heap.objs.size+1:=Nat.ne_of_lt (Nat.lt_succ_self _)
 refine ⟨by rw [z_n ne,z_c],Nat.zero_le _,ne,e2,fun _=>none,(Heap.Ns1.of_empty e3).at fun o q=>Heap.get?_push_of_some _ q,fun _=>True.intro,fun y hy=>absurd rfl hy⟩
theorem attr_of{prog:Program}{w:World}{env:Env}{e:Expr}{f:Str}{pos:Pos}{s:Shared}{Q:Value->Shared->Prop}(hb:attributeBase e f env (eval e env)=eval e env)
  (h:wpAny (model prog w) A (eval e env) (fun o s₁=>wpAny (model prog w) A (getAttr o f true) Q E s₁) E s):wpAny (model prog w) A (eval (.Attribute e f pos) env) Q E s :=
 Attribute_any_ h (by rw [arm_eval_Attribute,hb])
end
def tFld(K:PySem.W.Frag)(ta:TE)(f:Str):TE:=fun σ H Q=>ta σ H fun x H1=>∃ a C dx fs v,x = .ref a/\H1 a=some (.ins C dx fs)/\Cls K C/\NoAttr K C f/\fs.lookup f=some v/\Q v H1
def sFld(K:PySem.W.Frag)(ta tv:TE)(f:Str):TS:=fun D σ H=>tv σ H fun y H1=>ta σ H1 fun x H2=>∃ a C dx fs,x = .ref a/\H2 a=some (.ins C dx fs)/\Cls K C/\NoAttr K C f/\fs.length<1000 /\
 D.nx σ (upd H2 a (.ins C dx (putF f y fs)))
section
variable {X:Cx} {o e value:Expr} {f:Str} {pos pos' tpos:Pos} {ta tv:TE}
theorem pe_fld(he:PE X e ta)(hb:attributeBase e f X.env (eval e X.env)=eval e X.env):PE X (.Attribute e f pos) (tFld X.K ta f):=by
 intro pins s σ H Q I h
 refine attr_of hb (thn (he pins s σ H _ I h) fun u s1 ⟨x,H1,I1,rx,a,C,dx,fs,v,ex,ea,c,n,l,q⟩=>?_)
 subst ex
 obtain rfl:u=Value.ref a:=rx
 exact n_r I1 ea c n l fun u' s2 I2 ru=>⟨v,H1,I2,ru,q⟩
theorem ps_fld(ha:PE X o ta)(hv:PE X value tv)(hs:swapsWith value (some (.Attribute o f pos')) pos.line X.env=pure false):PS X (.Assign [.Attribute o f pos'] value pos) (sFld X.K ta tv f):=by
 intro pins s σ H D I h
 refine plainObj_wpAny_Assign_Attribute (thn (hv pins s σ H _ I h) fun u s1 ⟨y,H1,I1,ry,q⟩=>thn (ha pins s1 σ H1 _ I1 q) fun ov s2 ⟨x,H2,I2,rx,a,C,dx,fs,ex,ea,c,n,l,q2⟩=>?_) hs
 subst ex
 obtain rfl:ov=Value.ref a:=rx
 exact m_e I2 ea c n l ry fun s3 I3=>⟨σ,_,I3,q2⟩
end
section
variable {X:Cx} {pins:List (Addr×Obj)} {σ:St} {H:Hp} {s:Shared} {A:Around} {E:Value->Shared->Prop} {Q:Value->Shared->Prop} {c:Value} {b:Bool}
inductive TyOf (K:PySem.W.Frag) (H:Hp):V->Value->Prop where
 | non:TyOf K H .non (.type "NoneType")
 | bl (x:Bool):TyOf K H (.bl x) (.type "bool")
 | int (i:Int):TyOf K H (.int i) (.type "int")
 | str (x:Str):TyOf K H (.str x) (.type "str")
 | flt (x:UInt64):TyOf K H (.flt x) (.type "float")
 | lst {a:Addr} {xs:List V} (e:H a=some (.lst xs)):TyOf K H (.ref a) (.type "list")
 | frz {a:Addr} {o:Obj} {xs:List V} (e:H a=some (.frz o (.lst xs))):TyOf K H (.ref a) (.type "list")
 | tup {a:Addr} {xs:List V} (e:H a=some (.tup xs)):TyOf K H (.ref a) (.type "tuple")
 | dK {a:Addr} {kvs:List (Key×V)} (e:H a=some (.dK kvs)):TyOf K H (.ref a) (.type "dict")
 | dT {a:Addr} {kvs:List (List Key×V)} (e:H a=some (.dT kvs)):TyOf K H (.ref a) (.type "dict")
 | ins {a C dx:Addr} {fs:List (Str×V)} (e:H a=some (.ins C dx fs)) (cl:Cls K C) (ha:findIn K (.ref C) "__class__" = some (some (.builtin "object.__class__")))
   (hn:PySem.W.specialIn K (.builtin "object.__class__") "__get__" = some (some (.builtin "getset_descriptor.__get__"))) (htk:PySem.W.takesIn K (.builtin "object.__class__")=some true)
   (hm:PySem.W.mroIn K C (.type "object")=some true):TyOf K H (.ref a) (.ref C)
theorem l_l{x:V}{u t:Value}(I:Inv X pins σ H s)(rx:RelV x u)(ty:TyOf X.K H x t)(e:PySem.W.kitOne X.K t c=some b)(h:∀ tk,Q (.bool b) { s with toks:=tk }) :
  wpAny (model X.prog X.w) A (call (.builtin "isinstance") [u,c]) Q E s:=by
 cases ty with
 | non=>cases (show u=Value.none from rx);exact kia_one PySem.W.kitx_none I.kIn True.intro e (fun z=>nomatch z) h
 | bl y=>cases (show u=Value.bool y from rx);exact kia_one PySem.W.kitx_bool I.kIn True.intro e (fun z=>nomatch z) h
 | int i=>obtain ⟨t,q⟩:=(show ∃ t,u=Value.int i t from rx);cases q;exact kia_one PySem.W.kitx_int I.kIn True.intro e (fun z=>nomatch z) h
 | str y=>obtain ⟨t,q⟩:=(show ∃ t,u=Value.str y t from rx);cases q;exact kia_one PySem.W.kitx_str I.kIn True.intro e (fun z=>nomatch z) h
 | flt y=>obtain ⟨t,q⟩:=(show ∃ t,u=Value.float y t from rx);cases q;exact kia_one PySem.W.kitx_float I.kIn True.intro e (fun z=>nomatch z) h
 | @lst a xs ea =>
  cases (show u=Value.ref a from rx)
  obtain ⟨_,_,n,_,h1⟩:=(show ObjOk X.prog X.w H s.heap a (.lst xs) from I.hok a _ ea)
  exact kia_one PySem.W.kitx_list I.kIn ⟨_,h1,rfl⟩ e (fun z=>nomatch z) h
 | @frz a ob xs ea =>
  cases (show u=Value.ref a from rx)
  obtain ⟨_,_,_,n,_,h1⟩:=(show ObjOk X.prog X.w H s.heap a (.frz ob (.lst xs)) from I.hok a _ ea)
  exact kia_one PySem.W.kitx_list I.kIn ⟨_,h1,rfl⟩ e (fun z=>nomatch z) h
 | @tup a xs ea =>
  cases (show u=Value.ref a from rx)
  obtain ⟨_,_,_,p⟩:=(show ObjOk X.prog X.w H s.heap a (.tup xs) from I.hok a _ ea)
  obtain ⟨o,h1,h2,_⟩:=p
  exact kia_one PySem.W.kitx_tuple I.kIn ⟨o,h1,h2⟩ e (fun z=>nomatch z) h
 | @dK a kvs ea =>
  cases (show u=Value.ref a from rx)
  obtain ⟨_,_,vs,_,p⟩:=(show ObjOk X.prog X.w H s.heap a (.dK kvs) from I.hok a _ ea)
  obtain ⟨o,es,ep,h1,h2,_⟩:=p
  exact kia_one PySem.W.kitx_dict I.kIn ⟨o,h1,h2.1⟩ e (fun z=>nomatch z) h
 | @dT a kvs ea =>
  cases (show u=Value.ref a from rx)
  obtain ⟨_,_,xs,_,o,es,ep,h1,h2,_⟩:=(show ObjOk X.prog X.w H s.heap a (.dT kvs) from I.hok a _ ea)
  exact kia_one PySem.W.kitx_dict I.kIn ⟨o,h1,h2.1⟩ e (fun z=>nomatch z) h
 | @ins a C dx fs ea cl ha hn htk hm =>
  cases (show u=Value.ref a from rx)
  obtain ⟨mA,O,_⟩:=s_p I.hok ea
  obtain ⟨od,J,_⟩:=O.look
  exact kia_one (PySem.W.kitx_own (cl.get _) cl.hd ha hn htk hm) I.kIn J e (fun z=>nomatch z) h
end
open PySem PySem.Spec PyProof.Rows
structure Room(k:Nat)(A:Around):Prop where
 hd:A.handled=none
 dp:A.depth+3*k+5<recursionLimit
 un:A.units+16*k+200<cLine
theorem Room.mono{j k:Nat}{A:Around}(r:Room k A)(h:j<=k):Room j A:=⟨r.hd,by have:=r.dp;lia,by have:=r.un;lia⟩
theorem Room.deeper{k:Nat}{A:Around}(r:Room (k+1) A)(env:Env):Room k (A.deeper env) :=
 ⟨r.hd,by have:=r.dp;show A.depth+1+3*k+5<_;lia,by have:=r.un;show A.units+3+16*k+200<_;lia⟩
theorem n_x{A:Around}{C:Addr}{us:List Value}{kw:List (Str×Value)}:(A.under (.builtin "type.__call__" ⟨.ref C::us,kw⟩)).depth=A.depth+1:=by
 first | rfl | simp [Around.under,Code.weight,Code.isCreation,Code.isGuard,Code.isCaller,Code.frames,Code.isFrame,guardIds]
theorem n_y{A:Around}{C:Addr}{us:List Value}{kw:List (Str×Value)}:(A.under (.builtin "type.__call__" ⟨.ref C::us,kw⟩)).units=A.units+1:=by
 first | rfl | simp [Around.under,Code.cUnits,Code.frames,Code.isFrame]
theorem Room.make{k:Nat}{A:Around}(r:Room (k+1) A)(C:Addr)(us:List Value)(kw:List (Str×Value)):Room k (A.under (.builtin "type.__call__" ⟨.ref C::us,kw⟩)) :=
 ⟨r.hd,by have:=r.dp;rw [n_x];lia,by have:=r.un;rw [n_y];lia⟩
theorem Room.depth{k:Nat}{A:Around}(r:Room k A):A.depth<recursionLimit:=by have:=r.dp;lia
theorem Room.units{k:Nat}{A:Around}(r:Room k A):A.units+64<cLine:=by have:=r.un;lia
def tNil:TA:=fun _ H Q=>Q [] H
def tCons(ta:TE)(tr:TA):TA:=fun σ H Q=>ta σ H fun x H1=>tr σ H1 fun xs H2=>Q (x::xs) H2
section
variable {X:Cx} {e:Expr} {es:List Expr} {te:TE} {t:TA} {pos:Pos}
theorem z_e:PA X [] tNil:=fun _ _ _ _ H Q I h=>Calls.spliced_nil ⟨[],H,I,.nil,h⟩
theorem z_a(ha:PE X e te)(hr:PA X es t)(hs:starEach (e::es) X.env=(false,eval e X.env)::starEach es X.env:=by rfl):PA X (e::es) (tCons te t):=by
 intro pos pins s σ H Q I h
 rw [hs]
 show wpAny _ _ (spliced ((false,eval e X.env)::backTo pos (starEach es X.env))) _ _ s
 refine Calls.spliced_cons (thn (ha pins s σ H _ I h) fun u s1 ⟨x,H1,I1,r1,q1⟩=>?_)
 exact thn (hr pos pins s1 σ H1 _ I1 q1) fun us s2 ⟨xs,H2,I2,r2,q2⟩=>⟨x::xs,H2,I2,.cons r1 r2,q2⟩
def tTup(t:TA):TE:=fun σ H Q=>t σ H fun xs H1=>xs.length<=sizeLine/\∀ p,H1 p=none->Q (.ref p) (upd H1 p (.tup xs))
def tLst(t:TA):TE:=fun σ H Q=>t σ H fun xs H1=>xs.length<=sizeLine/\∀ p,H1 p=none->Q (.ref p) (upd H1 p (.lst xs))
theorem w_g{x1}(h:PA X es t):PE X (.Tuple es x1 pos) (tTup t):=by
 intro pins s σ H Q I hq
 refine wpAny_Tuple_spliced (thn (h pos pins s σ H _ I hq) fun us s1 ⟨xs,H1,I1,r,z,q⟩=>⟨by rw [<-r.length];exact z,?_⟩)
 have hf:H1 s1.heap.objs.size=none:=I1.hok.fresh (Nat.le_refl _)
 refine ⟨.ref s1.heap.objs.size,upd H1 s1.heap.objs.size (.tup xs),I1.laid (t':=s1.toks) (fun b u e=>Heap.get?_push_of_some _ e) (Nat.le_refl _) ?_,rfl,q _ hf⟩
 exact ⟨z,us,r,⟨_,Heap.get?_push_size _ rfl,rfl,_,rfl⟩⟩
theorem x_l(h:PA X es t):PE X (.List es pos) (tLst t):=by
 intro pins s σ H Q I hq
 refine wpAny_List_spliced (thn (h pos pins s σ H _ I hq) fun us s1 ⟨xs,H1,I1,r,z,q⟩=>⟨by rw [<-r.length];exact z,?_⟩)
 have hf:H1 s1.heap.objs.size=none:=I1.hok.fresh (Nat.le_refl _)
 refine ⟨.ref s1.heap.objs.size,upd H1 s1.heap.objs.size (.lst xs),I1.laid (t':=s1.toks) (fun b u e=>Heap.get?_push_of_some _ e) (Nat.le_refl _) ?_,rfl,q _ hf⟩
 exact ⟨z,us,0,r,Heap.get?_push_size _ rfl⟩
end
abbrev Sp:=List V->Hp->VK->XK->Prop
abbrev CXT:=List Env->Hp->Shared->XK->Value->Shared->Prop
structure Env0(P:Program)(w:World)(K:PySem.W.Frag)(mg:Str->Option Value)(base:Heap)(A:Around)(outer:List Env)(s:Shared)(H:Hp):Prop where
 frames:A.frames=some outer
 gd:A.guards=some []
 mod:Mod K mg base
 bs:∀ b o,base.get? b=some o->s.heap.get? b=some o/\H b=none
 bsz:base.objs.size<=s.heap.objs.size
 funs:s.heap.FunFrames base outer
 frf:∀ b∈frs outer,H b=none
 hok:HOk P w H s.heap
 bare:AllBare s.gens
def CE(outer:List Env)(P:Program)(w:World)(H:Hp)(s:Shared)(Q:VK)(u:Value)(s':Shared):Prop :=
 ∃ v H',s'.os=s.os/\AllBare s'.gens/\Un (frs outer) [] H H' s.heap s'.heap/\HOk P w H' s'.heap/\RelV v u/\Q v H'
def CR(CX:CXT)(outer:List Env)(P:Program)(w:World)(H:Hp)(s:Shared)(Q:VK)(E:XK)(r:Result)(s':Shared):Prop :=
 match r with
 | .ok (.ret u)=>CE outer P w H s Q u s'
 | .ok _=>False
 | .error e=>CX outer H s E e s'
structure FnOk(P:Program)(w:World)(K:PySem.W.Frag)(mg:Str->Option Value)(base:Heap)(CX:CXT)(k:Nat)(f:Addr)(fd:FuncData)(ps:List Str)(sp:Sp):Prop where
 len:∀ vs H Q E,sp vs H Q E->vs.length=ps.length
 run:∀ (A:Around) (outer:List Env) (s:Shared) (H:Hp) (args:Args) (us:List Value) (vs:List V) (Q:VK) (E:XK),Room k A->Env0 P w K mg base A outer s H->BindsTo s fd args (ps.zip us)->Vals vs us->sp vs H Q E ->
  codeAny (model P w) A (.call (.ref f) args) (CR CX outer P w H s Q E) s
theorem FnOk.imp{P:Program}{w:World}{K:PySem.W.Frag}{mg:Str->Option Value}{base:Heap}{CX:CXT}{k:Nat}{f:Addr}{fd:FuncData}{ps:List Str}{sp sp':Sp}(F:FnOk P w K mg base CX k f fd ps sp)
  (h:∀ vs H Q E,sp' vs H Q E->sp vs H Q E):FnOk P w K mg base CX k f fd ps sp' :=
 ⟨fun vs H Q E q=>F.len vs H Q E (h _ _ _ _ q),fun A outer s H args us vs Q E hr he hb hv hs=>F.run A outer s H args us vs Q E hr he hb hv (h _ _ _ _ hs)⟩
theorem Env0.make{P:Program}{w:World}{K:PySem.W.Frag}{mg:Str->Option Value}{base:Heap}{A:Around}{outer:List Env}{s:Shared}{H:Hp}(e:Env0 P w K mg base A outer s H)(C:Addr)(us:List Value)(kw:List (Str×Value)) :
  Env0 P w K mg base (A.under (.builtin "type.__call__" ⟨.ref C::us,kw⟩)) outer s H:=⟨by first | exact e.frames | (simpa [Around.under,Code.envs,Code.isFrame,pushEnvs] using e.frames),by first | exact e.gd | (simpa [Around.under,Code.isGuard,guardIds] using e.gd),e.mod,e.bs,e.bsz,e.funs,e.frf,e.hok,e.bare⟩
section
variable {X:Cx} {pins:List (Addr×Obj)} {σ:St} {H:Hp} {s s':Shared}
theorem Inv.env0(I:Inv X pins σ H s):Env0 X.prog X.w X.K X.mg X.base X.A X.stack s H :=
 ⟨I.ok.frames,I.ok.gd,I.ok.mod,I.bs,Nat.le_trans I.ok.bsz I.sz,I.stack,I.stkFree,I.hok,I.bare⟩
theorem Inv.after{Q:VK}{u:Value}(I:Inv X pins σ H s)(h:CE X.stack X.prog X.w H s Q u s'):EP X pins σ Q u s':=by
 obtain ⟨v,H',os,bare,un,hok,r,q⟩:=h
 obtain ⟨hh,g,d,t,os'⟩:=s'
 obtain rfl:os'=s.os:=os
 exact ⟨v,H',I.call (h':=hh) (g':=g) (d':=d) (t':=t) (ch:=[]) un hok bare (fun b z=>absurd z (by simp)),r,q⟩
end
def tCall(sp:Sp)(dvs:List V)(E:XK)(t:TA):TE:=fun σ H Q=>t σ H fun vs H1=>sp (vs++dvs) H1 Q E
def tMeth(C:Addr)(m:Str)(sp:Sp)(dvs:List V)(E:XK)(ta:TE)(t:TA):TE:=fun σ H Q=>ta σ H fun x H1=>∃ a dx fs,x = .ref a/\H1 a=some (.ins C dx fs)/\fs.lookup m=none /\
 t σ H1 fun vs H2=>sp (x::(vs++dvs)) H2 Q E
def tMake(C:Addr)(sp:Sp)(dvs:List V)(E:XK)(t:TA):TE:=fun σ H Q=>t σ H fun vs H1=>∀ x dx,H1 x=none->H1 dx=none->dx≠x ->
 sp (.ref x::(vs++dvs)) (upd (upd H1 dx (.own x)) x (.ins C dx [])) (fun v H2=>v = .non/\Q (.ref x) H2) E
def Binds(K:PySem.W.Frag)(fd:FuncData)(ps:List Str)(ds:List Value):Prop :=
 ∀ (s:Shared) (us:List Value),K.In s.heap->(us++ds).length=ps.length->BindsTo s fd ⟨us,[]⟩ (ps.zip (us++ds))
theorem Binds.all{K:PySem.W.Frag}{fd:FuncData}{ps:List Str}(h:∀ us:List Value,us.length=ps.length->bindArgs fd ⟨us,[]⟩=pure (ps.zip us)):Binds K fd ps []:=fun s us _ hl=>by
 rw [List.append_nil] at hl ⊢
 exact .of_eq (h us hl)
def Passes(CX:CXT)(X:Cx)(E:XK):Prop:=∀ (pins:List (Addr×Obj)) (σ:St) (H:Hp) (s:Shared) (e:Value) (s':Shared),Inv X pins σ H s->CX X.stack H s E e s'->X.xe e s'
section
variable {X:Cx} {CX:CXT} {k:Nat} {f C:Addr} {fd:FuncData} {ps:List Str} {sp:Sp} {dvs:List V} {ds:List Value} {E:XK} {x m:Str} {p pos apos:Pos} {e o:Expr} {es:List Expr} {ta:TE} {t:TA}
theorem k_v{pins:List (Addr×Obj)}{σ:St}{H:Hp}{s:Shared}{Q:VK}{us:List Value}{vs:List V}(F:FnOk X.prog X.w X.K X.mg X.base CX k f fd ps sp)(hr:Room k X.A)(hb:Binds X.K fd ps ds)(hd:Vals dvs ds)(hx:Passes CX X E)
  (I:Inv X pins σ H s) (r:Vals vs us) (h:sp (vs++dvs) H Q E):wpAny (model X.prog X.w) X.A (call (.ref f) us) (EP X pins σ Q) X.xe s:=by
 have r2:Vals (vs++dvs) (us++ds):=r.append hd
 have hl:(us++ds).length=ps.length:=by rw [<-r2.length];exact F.len _ _ _ _ h
 refine wpAny_call (codeAny_mono (F.run X.A X.stack s H ⟨us,[]⟩ (us++ds) (vs++dvs) Q E hr I.env0 (hb s us I.kIn hl) r2 h) fun r s' hq=>?_)
 cases r with
 | error e=>exact hx pins σ H s e s' I hq
 | ok fl =>
  cases fl with
  | ret u=>exact I.after hq
  | next=>exact False.elim hq
  | brk=>exact False.elim hq
  | cont=>exact False.elim hq
theorem y_c(F:FnOk X.prog X.w X.K X.mg X.base CX k f fd ps sp)(hr:Room k X.A)(hg:Gl X x)(hm:X.mg x=some (.ref f))(hk:keepIn X.K (.ref f)=true)(hb:Binds X.K fd ps ds)(hd:Vals dvs ds)(hx:Passes CX X E)
  (ha:PA X (e::es) t) (hdb:(x == ("__debug__" : Str))=false:=by decide) (he:starEach (e::es) X.env=(false,eval e X.env)::starEach es X.env:=by rfl) (hpl:(backTo pos (starEach es X.env)).any (·.1)=false:=by rfl) :
  PE X (.Call (.Name x p) (e::es) [] pos) (tCall sp dvs E t):=by
 intro pins s σ H Q I h
 refine wpAny_Call_Name_kw (s_r I hg hm ?_ hdb)
 refine callWith_K (h₀:=X.base) I.ok.mod.kin hk (thn (ha pos pins s σ H _ I h) fun us s1 ⟨vs,H1,I1,r,q⟩=>⟨I1.kIn,?_⟩) he hpl
 exact k_v F hr hb hd hx I1 r q
theorem x_z{pl:Sem Bool}(he:PE X o ta)(c:Cls X.K C)(hm:Meth X.K C m f)(F:FnOk X.prog X.w X.K X.mg X.base CX k f fd ps sp)(hr:Room k X.A)(hb:Binds X.K fd ps ds)(hd:Vals dvs ds)(hx:Passes CX X E)(ha:PA X (e::es) t)
  (hst:starEach (e::es) X.env=(false,eval e X.env)::starEach es X.env:=by rfl) (hpl:(backTo pos (starEach es X.env)).any (·.1)=false:=by rfl)
  (ht:eval (.Call (.Attribute o m apos) (e::es) [] pos) X.env=(do
   let ov <-eval o X.env
   standAt apos.atName
   let (f,first) <-holding [ov] (getMethod ov m pl)
   callWith pos f first (backTo pos (starEach (e::es) X.env)) (backToKw pos (keywordEach [] X.env))):=by rfl) :
  PE X (.Call (.Attribute o m apos) (e::es) [] pos) (tMeth C m sp dvs E ta t):=by
 intro pins s σ H Q I h
 refine PySem.W.methodCall_KW (pl:=pl) (thn (he pins s σ H _ I h) fun u s1 ⟨x,H1,I1,rx,a,dx,fs,ex,ea,l,q⟩=>?_) ht
 subst ex
 obtain rfl:u=Value.ref a:=rx
 refine n_s I1 ea c hm l ?_
 refine callWith_K (first:=[.ref a]) (h₀:=X.base) I.ok.mod.kin hm.kp (thn (ha pos pins s1 σ H1 _ I1 q) fun us s2 ⟨vs,H2,I2,r,q2⟩=>⟨I2.kIn,?_⟩) hst hpl
 exact k_v (us:=.ref a::us) (vs:=.ref a::vs) F hr hb hd hx I2 (.cons rfl r) q2
structure Mk(K:PySem.W.Frag)(C f:Addr):Prop where
 makes:makesIn K C=true
 init:findIn K (.ref C) "__init__" = some (some (.ref f))
 fn:isFn K (.ref f)=true
 kp:keepIn K (.ref C)=true
theorem run_make{pins:List (Addr×Obj)}{σ:St}{H:Hp}{s:Shared}{Q:VK}{us:List Value}{vs:List V}(M:Mk X.K C f)(F:FnOk X.prog X.w X.K X.mg X.base CX k f fd ps sp)(hr:Room (k+1) X.A)(hb:Binds X.K fd ps ds)(hd:Vals dvs ds)
  (hx:Passes CX X E) (I:Inv X pins σ H s) (r:Vals vs us)
  (h:∀ x dx,H x=none->H dx=none->dx≠x->sp (.ref x::(vs++dvs)) (upd (upd H dx (.own x)) x (.ins C dx [])) (fun v H2=>v = .non/\Q (.ref x) H2) E) :
  wpAny (model X.prog X.w) X.A (call (.ref C) us) (EP X pins σ Q) X.xe s:=by
 have hq:=h (s.heap.objs.size+1) s.heap.objs.size (I.hok.fresh (Nat.le_succ _)) (I.hok.fresh (Nat.le_refl _)) (Nat.ne_of_lt (Nat.lt_succ_self _))
 have I2:=Inv.made (C:=C) I
 have r2:Vals (V.ref (s.heap.objs.size+1)::(vs++dvs)) (Value.ref (s.heap.objs.size+1)::(us++ds)):=.cons rfl (r.append hd)
 have hl:(Value.ref (s.heap.objs.size+1)::us++ds).length=ps.length:=by
  have e:=r2.length
  rw [F.len _ _ _ _ hq] at e
  exact e.symm
 refine wpAny_call (make_map (f:=f) I.kIn M.makes M.init (beq_iff_eq.mp M.fn) (codeAny_mono (F.run _ X.stack _ _ ⟨Value.ref (s.heap.objs.size+1)::us,[]⟩ (Value.ref (s.heap.objs.size+1)::(us++ds)) _ _ E (hr.make C us [])
  (I2.env0.make C us []) (hb _ (Value.ref (s.heap.objs.size+1)::us) I2.kIn hl) r2 hq) fun r s' hq'=>?_))
 cases r with
 | error e=>exact hx pins σ _ _ e s' I2 hq'
 | ok fl =>
  cases fl with
  | ret u =>
   obtain ⟨v,H',I3,rv,ev,q3⟩:=I2.after hq'
   subst ev
   exact ⟨rv,⟨V.ref (s.heap.objs.size+1),H',I3,rfl,q3⟩⟩
  | next=>exact False.elim hq'
  | brk=>exact False.elim hq'
  | cont=>exact False.elim hq'
theorem pe_make(M:Mk X.K C f)(F:FnOk X.prog X.w X.K X.mg X.base CX k f fd ps sp)(hr:Room (k+1) X.A)(hg:Gl X x)(hm:X.mg x=some (.ref C))(hb:Binds X.K fd ps ds)(hd:Vals dvs ds)(hx:Passes CX X E)
  (ha:PA X (e::es) t) (hdb:(x == ("__debug__" : Str))=false:=by decide) (he:starEach (e::es) X.env=(false,eval e X.env)::starEach es X.env:=by rfl) (hpl:(backTo pos (starEach es X.env)).any (·.1)=false:=by rfl) :
  PE X (.Call (.Name x p) (e::es) [] pos) (tMake C sp dvs E t):=by
 intro pins s σ H Q I h
 refine wpAny_Call_Name_kw (s_r I hg hm ?_ hdb)
 refine callWith_K (h₀:=X.base) I.ok.mod.kin M.kp (thn (ha pos pins s σ H _ I h) fun us s1 ⟨vs,H1,I1,r,q⟩=>⟨I1.kIn,?_⟩) he hpl
 exact run_make M F hr hb hd hx I1 r q
end
structure FnScope(N P:List Str)(sc:Scope):Prop where
 kind:sc.kind = .function
 co:sc.isCoroutine=false
 gen:sc.isGenerator=false
 nd:N.Nodup
 pre:N.take P.length=P
 par:∀ x∈P,sc.names.lookup x=some .local\/sc.names.lookup x=some .cell
 nofree:∀ y∈sc.names,y.2 ≠ .free
theorem r_k{kindOf:Str->Option NameKind}{x:Str}:∀ {binds:List (Str×Value)} {m:Str->Option Value},(∀ v,(x,v)∉binds)->bindL kindOf binds m x=m x
 | [],_,_=>rfl
 | (n,v)::r,m,h=>by
  unfold bindL
  rw [r_k fun w hw=>h w (List.mem_cons_of_mem _ hw)]
  split
  ·have:x≠n:=by rintro rfl;exact h v List.mem_cons_self
   simp [this]
  ·rfl
theorem r_i{kindOf:Str->Option NameKind}{x:Str}:∀ {binds:List (Str×Value)} {m:Str->Option Value},(∀ v,(x,v)∉binds)->bindC kindOf binds m x=m x
 | [],_,_=>rfl
 | (n,v)::r,m,h=>by
  unfold bindC
  rw [r_i fun w hw=>h w (List.mem_cons_of_mem _ hw)]
  split
  ·rfl
  ·have:x≠n:=by rintro rfl;exact h v List.mem_cons_self
   simp [this]
theorem r_j{kindOf:Str->Option NameKind}{x:Str}{v:Value}:∀ {P:List Str} {vs:List Value} {i:Nat} {m:Str->Option Value},P.Nodup->P[i]? = some x->vs[i]? = some v->kindOf x=some .local ->
  bindL kindOf (P.zip vs) m x=some v
 | [],_,_,_,_,h,_,_=>by simp at h
 | _::_,[],_,_,_,_,h,_=>by simp at h
 | p::P,w::vs,0,m,nd,h1,h2,hk=>by
  simp at h1 h2;subst h1;subst h2
  show bindL kindOf ((p,w)::P.zip vs) m p=_
  unfold bindL
  rw [r_k fun v hv=>(List.nodup_cons.mp nd).1 (List.of_mem_zip hv).1,if_pos hk]
  simp
 | p::P,w::vs,i+1,m,nd,h1,h2,hk=>by
  show bindL kindOf ((p,w)::P.zip vs) m x=_
  unfold bindL
  exact r_j (i:=i) (List.nodup_cons.mp nd).2 (by simpa using h1) (by simpa using h2) hk
theorem r_h{kindOf:Str->Option NameKind}{x:Str}{v:Value}:∀ {P:List Str} {vs:List Value} {i:Nat} {m:Str->Option Value},P.Nodup->P[i]? = some x->vs[i]? = some v->kindOf x≠some .local ->
  bindC kindOf (P.zip vs) m x=some v
 | [],_,_,_,_,h,_,_=>by simp at h
 | _::_,[],_,_,_,_,h,_=>by simp at h
 | p::P,w::vs,0,m,nd,h1,h2,hk=>by
  simp at h1 h2;subst h1;subst h2
  show bindC kindOf ((p,w)::P.zip vs) m p=_
  unfold bindC
  rw [r_i fun v hv=>(List.nodup_cons.mp nd).1 (List.of_mem_zip hv).1,if_neg hk]
  simp
 | p::P,w::vs,i+1,m,nd,h1,h2,hk=>by
  show bindC kindOf ((p,w)::P.zip vs) m x=_
  unfold bindC
  exact r_h (i:=i) (List.nodup_cons.mp nd).2 (by simpa using h1) (by simpa using h2) hk
def start(N:List Str)(vs:List V):St:=vs.map some++List.replicate (N.length-vs.length) none
def cxOf(CX:CXT)(P:Program)(w:World)(K:PySem.W.Frag)(mg:Str->Option Value)(base:Heap)(N:List Str)(qual:Str)(scope:Scope)(f:Addr)(cd:Value)(A:Around)(outer:List Env)(s:Shared)(H:Hp)(E:XK):Cx where
 prog:=P
 w:=w
 K:=K
 mg:=mg
 base:=base
 A:=A.deeper (envOfC qual scope s.heap.objs.size f cd)
 N:=N
 s₀:=s
 H₀:=H
 env:=envOfC qual scope s.heap.objs.size f cd
 outer:=outer
 stack:=envOfC qual scope s.heap.objs.size f cd::outer
 ex:=[]
 calm:=true
 fn:=fun _=>true
 pn:=[]
 xe:=fun e s'=>wpAny (model P w) (A.deeper (envOfC qual scope s.heap.objs.size f cd)) (leaving (envOfC qual scope s.heap.objs.size f cd) e) (fun _ s''=>CX outer H s E e s'') (fun e' s''=>CX outer H s E e' s'') s'
theorem o_a{sc:Scope}{n:Nat}{x:Str}(h:sc.names.lookup x=some .cell):∃ c,(cellsFrom n sc.names []).lookup x=some c:=by
 have q:=PySem.W.cellsFrom_some sc.names n [] (.inl h)
 exact Option.isSome_iff_exists.mp q
theorem l_k{CX:CXT}{P:Program}{w:World}{K:PySem.W.Frag}{mg:Str->Option Value}{base:Heap}{N ps:List Str}{qual:Str}{scope:Scope}{f:Addr}{cd:Value}{A:Around}{outer:List Env}{s s1:Shared}{H:Hp}{E:XK}{us:List Value}{vs:List V}
  (S:FnScope N ps scope) (hd:A.handled=none) (e0:Env0 P w K mg base A outer s H) (hl:vs.length=ps.length) (r:Vals vs us)
  (x:InCallC s s.heap.objs.size (bindL (envOfC qual scope s.heap.objs.size f cd).kindOf (ps.zip us) fun _=>none) (cellsFrom (s.heap.objs.size+1) scope.names []) (bindC (envOfC qual scope s.heap.objs.size f cd).kindOf (ps.zip us) fun _=>none) s1) :
  Inv (cxOf CX P w K mg base N qual scope f cd A outer s H E) [] (start N vs) H s1:=by
 have hpl:ps.length<=N.length:=by have:=congrArg List.length S.pre;rw [List.length_take] at this;lia
 obtain ⟨h1,tk,rfl,hk⟩:=x.done
 have noA:∀ b:Addr,b∉(cxOf CX P w K mg base N qual scope f cd A outer s H E).ex:=fun b z=>absurd (show b∈([]:List Addr) from z) (by simp)
 refine ⟨⟨e0.mod,S.kind,rfl,rfl,Nat.le_refl _,fun y z c h1 h2=>?_,fun y hy=>?_,fun y c _ h=>?_,fun _=>hd,Around.frames_deeper e0.frames,e0.gd,.inr ⟨rfl,rfl⟩,fun b z=>absurd z (noA b),e0.bs,e0.bsz,fun b _ _=>noA b,fun b z=>absurd z (noA b),e0.funs,e0.frf⟩,
  rfl,e0.bare,Un.kept hk,⟨_,x.toInCall.ns,fun i y v h1 h2 h3=>?_⟩,fun y c h=>⟨_,x.cell y c h⟩,e0.hok.fresh (Nat.le_refl _),fun y c h=>?_,fun p hp=>absurd (show p∈([]:List (Addr×Obj)) from hp) (by simp),e0.hok.kept hk,?_⟩
 ·exact name_of_addr x.apart (PySem.mem_of_lookup h1) (PySem.mem_of_lookup h2)
 ·have hy:scope.names.lookup y=some .cell\/scope.names.lookup y=some .free:=hy
  rcases hy with hy | hy
  ·exact o_a hy
  ·exact absurd rfl (S.nofree _ (PySem.mem_of_lookup hy))
 ·exact Nat.le_of_lt (x.above y c (PySem.mem_of_lookup h))
 ·have hi:i<vs.length:=by
   unfold start at h2
   by_cases hi:i<vs.length
   ·exact hi
   ·rw [List.getElem?_append_right (by simpa using hi)] at h2
    rw [List.getElem?_replicate] at h2
    split at h2<;>cases h2
  have ha:vs[i]? = some v:=by
   unfold start at h2
   rw [List.getElem?_append_left (by simpa using hi),List.getElem?_map] at h2
   cases e:vs[i]? with
   | none=>rw [e] at h2;cases h2
   | some a=>rw [e] at h2;cases h2;rfl
  obtain ⟨u,hu,rv⟩:=r.get ha
  have hp:ps[i]? = some y:=by
   rw [<-S.pre,List.getElem?_take_of_lt (by lia)];exact h1
  have ndP:ps.Nodup:=by rw [<-S.pre];exact S.nd.sublist (List.take_sublist _ _)
  refine ⟨u,rv,?_⟩
  rcases S.par y (List.mem_of_getElem? hp) with k | k
  ·exact .inl ⟨k,r_j ndP hp hu k⟩
  ·obtain ⟨c,e⟩:=o_a (n:=s.heap.objs.size+1) k
   refine .inr ⟨.inl k,c,e,?_⟩
   have q:=x.cell y c e
   rw [r_h ndP hp hu (by show scope.names.lookup y≠_;rw [k];decide)] at q
   exact q
 ·exact e0.hok.fresh (Nat.le_of_lt (x.above y c (PySem.mem_of_lookup h)))
 ·unfold start
  show _=N.length
  rw [List.length_append,List.length_map,List.length_replicate]
  lia
theorem fn_of{CX:CXT}{P:Program}{w:World}{K:PySem.W.Frag}{mg:Str->Option Value}{base:Heap}{k:Nat}{f:Addr}{name qual:Str}{params:Arguments}{body:List Stmt}{scope:Scope}{dV kV doc pm cdv ct oc:Value}{an od:Option Addr}
  {osl:Array (Option Value)} {N ps:List Str} {sp:Sp} (lk:K.lookup f=some ⟨oc,od,.func (fnOf name qual params body scope dV kV doc pm an cdv ct),osl⟩) (hcd:codeIn K cdv qual=true) (S:FnScope N ps scope)
  (len:∀ vs H Q E,sp vs H Q E->vs.length=ps.length)
  (hbody:∀ (A:Around) (outer:List Env) (s:Shared) (H:Hp) (vs:List V) (Q:VK) (E:XK),Room k (A.deeper (envOfC qual scope s.heap.objs.size f cdv))->sp vs H Q E ->
   ∃ t,PSs (cxOf CX P w K mg base N qual scope f cdv A outer s H E) body t/\t { nx:=fun _ H'=>Q .non H',rt:=Q } (start N vs) H) :
  FnOk P w K mg base CX (k+1) f (fnOf name qual params body scope dV kV doc pm an cdv ct) ps sp:=by
 refine ⟨len,fun A outer s H args us vs Q E hr e0 hb r hsp=>?_⟩
 have hl:=len _ _ _ _ hsp
 have KX:K.In s.heap:=e0.mod.kin.keeps fun b o e=>(e0.bs b o e).1
 have lim:s.heap.NoLimit:=e0.mod.nolimit.keeps fun b o e=>(e0.bs b o e).1
 have hkind:∀ y∈ps.zip us,scope.names.lookup y.1=some .local\/(scope.names.lookup y.1=some .cell/\((cellsFrom (s.heap.objs.size+1) scope.names []).lookup y.1).isSome=true):=fun ⟨n,v⟩ hy=>by
  rcases S.par n (List.of_mem_zip hy).1 with q | q
  ·exact .inl q
  ·exact .inr ⟨q,PySem.W.cellsFrom_some _ _ _ (.inl q)⟩
 refine codeAny_call_function hr.depth (KX _ _ lk) rfl S.co S.gen rfl (PySem.W.codeRec_of KX hcd) (hb _ _ _ _ ?_)
 refine wpAny_newFunctionEnv_cells S.kind hkind fun env he s1 x=>?_
 subst he
 refine ⟨lim.keeps x.toInCall.keep,codeAny_func ?_⟩
 obtain ⟨t,ht,hq⟩:=hbody A outer s H vs Q E (hr.deeper _) hsp
 have I:Inv (cxOf CX P w K mg base N qual scope f cdv A outer s H E) [] (start N vs) H s1:=l_k S hr.hd e0 hl r x
 refine wpAny_mono (ht [] s1 (start N vs) H _ I hq) (fun fl s' hs=>?_) fun e s' hs=>hs
 have fin:∀ {σ':St} {H':Hp} {v:V} {u:Value},Inv (cxOf CX P w K mg base N qual scope f cdv A outer s H E) [] σ' H' s'->RelV v u->Q v H'->CE outer P w H s Q u s' :=
  fun {σ' H' v u} J rv q=>⟨v,H',J.os,J.bare,J.base,J.hok,rv,q⟩
 cases fl with
 | ret u =>
  obtain ⟨v,σ',H',J,rv,q⟩:=hs
  exact fin J rv q
 | next =>
  obtain ⟨σ',H',J,q⟩:=hs
  exact fin (v:=V.non) (u:=Value.none) J rfl q
 | brk =>
  obtain ⟨_,_,_,q⟩:=hs
  exact False.elim q
 | cont =>
  obtain ⟨_,_,_,q⟩:=hs
  exact False.elim q
open PySem PySem.Spec PyProof.Rows
section
variable {X:Cx} {x:Str} {p pos:Pos} {e:Expr} {es:List Expr} {t:TA} {id T:String} {r:List V->Hp->VK->Prop}
def tCB(r:List V->Hp->VK->Prop)(t:TA):TE:=fun σ H Q=>t σ H fun vs H1=>r vs H1 Q
theorem z_q(hc:CallR X (.builtin id) r)(hg:Gl X x)(hm:X.mg x=none)(hv:bootBuiltins x=some (.builtin id))(ha:PA X (e::es) t)(hn:x ≠ "__name__" := by decide)(hdb:(x == ("__debug__" : Str))=false:=by decide)
  (he:starEach (e::es) X.env=(false,eval e X.env)::starEach es X.env:=by rfl) (hpl:(backTo pos (starEach es X.env)).any (·.1)=false:=by rfl):PE X (.Call (.Name x p) (e::es) [] pos) (tCB r t):=by
 intro pins s σ H Q I h
 refine wpAny_Call_Name_kw (r_w I hg hm hv ?_ hn hdb)
 exact PyProof.Rows.callWith_builtin1 (thn (ha pos pins s σ H _ I h) fun us s1 ⟨vs,H1,I1,r1,q1⟩=>hc pins s1 σ H1 vs us Q I1 r1 q1) he hpl
theorem y_q(hc:CallR X (.type T) r)(hg:Gl X x)(hm:X.mg x=none)(hv:bootBuiltins x=some (.type T))(ha:PA X (e::es) t)(hn:x ≠ "__name__" := by decide)(hdb:(x == ("__debug__" : Str))=false:=by decide)
  (he:starEach (e::es) X.env=(false,eval e X.env)::starEach es X.env:=by rfl) (hpl:(backTo pos (starEach es X.env)).any (·.1)=false:=by rfl):PE X (.Call (.Name x p) (e::es) [] pos) (tCB r t):=by
 intro pins s σ H Q I h
 refine wpAny_Call_Name_kw (r_w I hg hm hv ?_ hn hdb)
 exact PyProof.Rows.callWith_type1 (thn (ha pos pins s σ H _ I h) fun us s1 ⟨vs,H1,I1,r1,q1⟩=>hc pins s1 σ H1 vs us Q I1 r1 q1) he hpl
end
end L2
namespace HT
open PySem PyProof.Rows
section
open PySem.SeqAt
open PySem.AutoSeq1 (wpAny_loadPart')
open PySem.MeetsSeq PySem.MeetsSeq2 PySem.MeetsSeq3
end
section
variable {prog:Program} {w:World} {A:Around} {E:Value->Shared->Prop} {s:Shared}
theorem cat_tup{t b:Addr}{vs ws:List Value}{Q:Value->Shared->Prop}(ht:IsTup s.heap t vs.toArray)(hb:IsTup s.heap b ws.toArray)(hv:vs≠[])
  (h1:ws=[]->Q (.ref t) s) (h2:ws≠[]->Q (.ref s.heap.objs.size) { s with heap:=s.heap.push { cls:=.type "tuple",data:=.seq (vs++ws).toArray } })
  (hsz:vs.length+ws.length<=sizeLine):wpAny (model prog w) A (binaryOp .Add (.ref t) (.ref b)) Q E s:=by
 obtain ⟨⟨cls,dd,data,sl⟩,ho,hc,n,hd⟩:=id ht
 obtain ⟨⟨cls2,dd2,data2,sl2⟩,ho2,hc2,n2,hd2⟩:=id hb
 simp only at hc hd hc2 hd2
 subst hc hd hc2 hd2
 have e:vs.toArray++ws.toArray=(vs++ws).toArray:=by simp
 by_cases hw:ws=[]
 ·exact concat_meets ⟨_,ho,rfl⟩ ⟨_,ho2,rfl⟩ noFill_tuple_add seq_tuple_add PySem.F.slot_tuple_add PySem.F.entry_tuple_add (PySem.F.args_tuple_add_2 _ _)
   (tuple_addW1 t b vs.toArray ws.toArray n n2 dd dd2 sl sl2 (by simpa using hv) (by simp [hw])) ⟨ho,ho2,h1 hw⟩
 ·refine concat_meets ⟨_,ho,rfl⟩ ⟨_,ho2,rfl⟩ noFill_tuple_add seq_tuple_add PySem.F.slot_tuple_add PySem.F.entry_tuple_add (PySem.F.args_tuple_add_2 _ _)
   (tuple_addW2 t b vs.toArray ws.toArray n n2 dd dd2 sl sl2 (by simpa using hv) (by simpa using hw) (by rw [List.size_toArray,List.size_toArray];exact hsz)) ⟨ho,ho2,?_⟩
  rw [e]
  exact h2 hw
def sIx(n d:Nat):Option Int->Nat
 | none=>d
 | some v=>if v<0 then (v+(n:Int)).toNat else min v.toNat n
theorem sIx_none(n d:Nat):sIx n d none=d:=rfl
theorem sIx_nat(n d k:Nat):sIx n d (some (k:Int))=min k n:=by
 show (if (k:Int)<0 then ((k:Int)+(n:Int)).toNat else min (k:Int).toNat n)=min k n
 rw [if_neg (by lia),Int.toNat_natCast]
theorem sIx_le(n d:Nat)(hd:d<=n)(o:Option Int):sIx n d o<=n:=by
 cases o with
 | none=>exact hd
 | some v =>
  show (if v<0 then (v+(n:Int)).toNat else min v.toNat n)<=n
  by_cases hv:v<0
  ·rw [if_pos hv];lia
  ·rw [if_neg hv];exact Nat.min_le_right _ _
theorem m_t(v:Int)(n d:Nat):(if v<0 then max (v+(n:Int)) 0 else min v (n:Int))=((sIx n d (some v):Nat):Int):=by
 show (if v<0 then max (v+(n:Int)) 0 else min v (n:Int))=(((if v<0 then (v+(n:Int)).toNat else min v.toNat n):Nat):Int)
 by_cases hv:v<0
 ·simp only [if_pos hv];lia
 ·simp only [if_neg hv];lia
theorem n_h(lo hi:Option Int)(n:Nat):Builtin.Slice.sliceAdjust lo hi 1 (n:Int)=(((sIx n 0 lo:Nat):Int),((sIx n n hi:Nat):Int)):=by
 have h1:¬((1:Int)<0):=by lia
 unfold Builtin.Slice.sliceAdjust
 simp only [h1,if_false]
 refine Prod.ext ?_ ?_
 ·cases lo with
  | none=>rfl
  | some v=>exact m_t v n 0
 ·cases hi with
  | none=>rfl
  | some v=>exact m_t v n n
theorem m_d(i j:Nat):Builtin.Slice.slicePlaces (i:Int) (j:Int) 1=j-i:=by
 unfold Builtin.Slice.slicePlaces
 have h1:(1:Int) > 0:=by lia
 simp only [h1,if_true,Int.ediv_one]
 split<;>lia
theorem slicePart_{v:Value}{o:Option Int}{Q:Option Int->Shared->Prop}(p:IsPart v o)(h:Q o s):wpAny (model prog w) A (Builtin.Slice.slicePartIndex v) Q E s:=by
 cases p with
 | none=>exact slicePart_none h
 | int i t=>exact slicePart_int h
theorem w_p{sl:Addr}{vl vu:Value}{lo hi:Option Int}{n:Nat}{Q:Int×Int×Nat->Shared->Prop}(hs:s.heap.IsSliceOf sl vl vu .none)(pl:IsPart vl lo)(pu:IsPart vu hi)
  (h:Q (((sIx n 0 lo:Nat):Int),1,sIx n n hi-sIx n 0 lo) s):wpAny (model prog w) A (Builtin.Slice.sliceApplied (.ref sl) (pure (n:Int))) Q E s:=by
 obtain ⟨os,hos,hcs,hds⟩:=id hs
 unfold Builtin.Slice.sliceApplied Builtin.Slice.sliceFields
 refine wpAny_bind (wpAny_bind (wpAny_field hos hds (x:=vl) rfl (wpAny_bind (wpAny_field hos hds (x:=vu) rfl (wpAny_bind (wpAny_field hos hds (x:=.none) rfl (wpAny_pure ?_)))))))
 refine wpAny_bind (slicePart_none ?_)
 show wpAny _ _ (if ((1:Int) == 0)=true then _ else _) _ _ s
 rw [if_neg (by decide)]
 refine wpAny_bind (slicePart_ pl (wpAny_bind (slicePart_ pu (wpAny_bind (wpAny_pure ?_)))))
 show wpAny _ _ (match Builtin.Slice.sliceAdjust lo hi 1 (n:Int) with | (lo,hi)=>pure (lo,(1:Int),Builtin.Slice.slicePlaces lo hi 1)) _ _ s
 rw [n_h lo hi n]
 show wpAny _ _ (pure (((sIx n 0 lo:Nat):Int),(1:Int),Builtin.Slice.slicePlaces ((sIx n 0 lo:Nat):Int) ((sIx n n hi:Nat):Int) 1)) _ _ s
 rw [m_d]
 exact wpAny_pure h
theorem pick_gen(xs:Array Value)(i k:Nat):((List.range k).filterMap fun (m:Nat)=>xs[((i:Int)+(m:Int)*1).toNat]?).toArray=((xs.toList.drop i).take k).toArray:=by
 have e:(fun (m:Nat)=>xs[((i:Int)+(m:Int)*1).toNat]?)=fun m=>xs[i+m]? := by
  funext m
  have:((i:Int)+(m:Int)*1).toNat=i+m:=by lia
  rw [this]
 rw [e]
 have:=pick_run xs i k
 rw [List.filterMap_map] at this
 have e2:((fun x=>xs[x]?) ∘ fun x=>i+x)=fun m=>xs[i+m]? := rfl
 rw [e2] at this
 rw [this]
theorem getItem_tuple_cut{t sl:Addr}{items:Array Value}{vl vu:Value}{lo hi:Option Int}{Q:Value->Shared->Prop}(ht:IsTup s.heap t items)(hs:s.heap.IsSliceOf sl vl vu .none)(pl:IsPart vl lo)(pu:IsPart vu hi)
  (hw:¬(sIx items.size 0 lo=0/\sIx items.size items.size hi=items.size))
  (h:Q (.ref s.heap.objs.size) { s with heap:=s.heap.push { cls:=.type "tuple",data:=.seq ((items.toList.drop (sIx items.size 0 lo)).take (sIx items.size items.size hi-sIx items.size 0 lo)).toArray } })
  (hsz:items.size<=sizeLine):wpAny (model prog w) A (getItem (.ref t) (.ref sl)) Q E s:=by
 have htake:sizeOk (.seq ((items.toList.drop (sIx items.size 0 lo)).take (sIx items.size items.size hi-sIx items.size 0 lo)).toArray):=by
  show ((items.toList.drop (sIx items.size 0 lo)).take (sIx items.size items.size hi-sIx items.size 0 lo)).toArray.size<=sizeLine
  rw [List.size_toArray,List.length_take,List.length_drop,Array.length_toList]
  lia
 have hj:sIx items.size items.size hi<=items.size:=sIx_le _ _ (Nat.le_refl _) hi
 obtain ⟨os,hos,hcs,hds⟩:=id hs
 have hTs:s.TypeIs (.ref sl) "slice" := ⟨os,hos,hcs⟩
 unfold getItem
 try with_reducible refine wpAny_holding ?_
 first | refine wpAny_bind (wpAny_pure ?_) | skip
 refine wpAny_bind (wpAny_sequenceKey ht.typeIs (by decide) ?_)
 refine wpAny_bind (wpAny_callSpecial?_slot (name:=Str.ofString "__getitem__") ht.typeIs PyProof.Rows.slot_tuple_getitem
  (wpAny_call_entry PyProof.Rows.slot_tuple_getitem ht.typeIs entry_tuple_getitem ?_ (args_tuple_getitem _ _)))
 show wpAny _ _ (Builtin.Tuple.tupleItemsOf (.ref t) >>= _) _ _ s
 refine wpAny_bind (tupleItemsOf_ ht ?_)
 refine wpAny_bind (wpAny_typeOf hTs ?_)
 rw [if_pos (by decide)]
 refine wpAny_bind (w_p hs pl pu ?_)
 have hno:¬((((sIx items.size 0 lo:Nat):Int) == 0&&(1:Int) == 1&&(sIx items.size items.size hi-sIx items.size 0 lo) == items.size)=true):=by
  intro q
  rw [Bool.and_eq_true,Bool.and_eq_true] at q
  have q1:((sIx items.size 0 lo:Nat):Int)=0:=eq_of_beq q.1.1
  have q2:sIx items.size items.size hi-sIx items.size 0 lo=items.size:=eq_of_beq q.2
  exact hw ⟨by lia,by lia⟩
 show wpAny _ _ (if (((sIx items.size 0 lo:Nat):Int) == 0&&(1:Int) == 1&&(sIx items.size items.size hi-sIx items.size 0 lo) == items.size)=true then _ else _) _ _ s
 rw [if_neg hno,pick_gen]
 first
  | exact wpAny_bind (m:=Builtin.Tuple.tupleExact _) (wpAny_newObj_type (wpAny_pure ⟨_,rfl,wpAny_pure h⟩) htake)
  | exact wpAny_bind (m:=Builtin.Tuple.tupleExact _) (wpAny_newObj_type (wpAny_bind (wpAny_pure (wpAny_pure ⟨_,rfl,wpAny_pure h⟩))) htake)
  | exact wpAny_bind (wpAny_bind (m:=Builtin.Tuple.tupleExact _) (wpAny_newObj_type (wpAny_pure (wpAny_pure ⟨_,rfl,wpAny_pure h⟩)) htake))
  | exact wpAny_bind (wpAny_bind (m:=Builtin.Tuple.tupleExact _) (wpAny_newObj_type (wpAny_pure ⟨_,rfl,wpAny_pure h⟩) htake))
end
end HT
namespace L2
open PySem PySem.Spec PyProof.Rows
abbrev TO:=St->Hp->(Option Int->Hp->Prop)->Prop
def PO(X:Cx)(e:Option Expr)(t:TO):Prop :=
 ∀ (pins:List (Addr×Obj)) (s:Shared) (σ:St) (H:Hp) (Q:Option Int->Hp->Prop),Inv X pins σ H s->t σ H Q ->
  wpAny (model X.prog X.w) X.A (evalPart e X.env) (fun u s'=>∃ o H',Inv X pins σ H' s'/\IsPart u o/\Q o H') X.xe s
def tNoPart:TO:=fun _ H Q=>Q none H
def tPart(t:TE):TO:=fun σ H Q=>t σ H fun x H1=>∃ i,x = .int i/\Q (some i) H1
theorem n_t{ns:List Int}:∀ {us:List Value},Vals (ns.map V.int) us->IntsAre us ns:=by
 induction ns with
 | nil=>intro us r;rw [List.map_nil] at r;cases r;exact .nil
 | cons n ns ih =>
  intro us r
  rw [List.map_cons] at r
  cases r with
  | cons r1 r2 =>
   obtain ⟨t,e⟩:=r1
   subst e
   exact .cons n t (ih r2)
section
variable {X:Cx} {e:Expr} {te:TE} {lo hi:Option Expr} {tl th:TO} {pos p2:Pos}
theorem k_q:PO X none tNoPart:=by
 intro pins s σ H Q I h
 rw [evalPart_none]
 exact wpAny_pure ⟨none,H,I,.none,h⟩
theorem v_q(h:PE X e te):PO X (some e) (tPart te):=by
 intro pins s σ H Q I hw
 rw [evalPart_some]
 refine thn (h pins s σ H _ I hw) fun u s1 ⟨x,H1,I1,r1,q1⟩=>?_
 obtain ⟨i,rfl,q⟩:=q1
 obtain ⟨t,rfl⟩:=r1
 exact ⟨some i,H1,I1,.int i t,q⟩
def SlR(X:Cx)(r:V->Option Int->Option Int->Hp->VK->Prop):Prop :=
 ∀ (pins:List (Addr×Obj)) (s:Shared) (σ:St) (H:Hp) (x:V) (v vl vu:Value) (lo hi:Option Int) (sl:Addr) (Q:VK),Inv X pins σ H s->RelV x v->s.heap.IsSliceOf sl vl vu .none->IsPart vl lo->IsPart vu hi->r x lo hi H Q ->
  ∃ T id,typeLookup (.type T) "__getitem__" = pure (some (.builtin id))/\s.TypeIs v T/\wpAny (model X.prog X.w) X.A (getItem v (.ref sl)) (EP X pins σ Q) X.xe s
def tSl(r:V->Option Int->Option Int->Hp->VK->Prop)(te:TE)(tl th:TO):TE:=fun σ H Q=>te σ H fun x H1=>tl σ H1 fun l H2=>th σ H2 fun u H3=>r x l u H3 Q
theorem u_f{r:V->Option Int->Option Int->Hp->VK->Prop}(hr:SlR X r)(he:PE X e te)(hl:PO X lo tl)(hu:PO X hi th):PE X (.Subscript e (.Slice lo hi none p2) pos) (tSl r te tl th):=by
 intro pins s σ H Q I h
 refine Subscript_ (thn (he pins s σ H _ I h) fun v s1 ⟨x,H1,I1,r1,q1⟩=>?_)
 refine wpAny_Slice (thn (hl pins s1 σ H1 _ I1 q1) fun vl s2 ⟨l,H2,I2,pl,q2⟩=>thn (hu pins s2 σ H2 _ I2 q2) fun vu s3 ⟨u,H3,I3,pu,q3⟩=>?_)
 rw [evalPart_none]
 refine wpAny_pure ?_
 have I4:Inv X pins σ H3 { s3 with heap:=s3.heap.push { cls:=.type "slice",data:=.fields #[vl,vu,.none] } }:=I3.kept (t':=s3.toks) fun b ob q=>Heap.get?_push_of_some _ q
 obtain ⟨T,id,hT,ht,hg⟩:=hr pins { s3 with heap:=s3.heap.push { cls:=.type "slice",data:=.fields #[vl,vu,.none] } } σ H3 x v vl vu l u s3.heap.objs.size Q I4 r1 (Heap.IsSliceOf.new ..) pl pu q3
 show wpAny (model X.prog X.w) X.A (subscriptTail e (.Slice lo hi none p2) v (.ref s3.heap.objs.size)) (EP X pins σ Q) X.xe { s3 with heap:=s3.heap.push { cls:=.type "slice",data:=.fields #[vl,vu,.none] } }
 exact tail_any (ops:=[.ref s3.heap.objs.size,v]) ht hT hg (by with_unfolding_all rfl)
def cutV(xs:List V)(lo hi:Option Int):List V:=(xs.drop (HT.sIx xs.length 0 lo)).take (HT.sIx xs.length xs.length hi-HT.sIx xs.length 0 lo)
theorem u_l(xs:List V)(lo hi:Option Int):(cutV xs lo hi).length<=xs.length:=by
 unfold cutV
 rw [List.length_take,List.length_drop]
 lia
def rSlT(K:PySem.W.Frag):V->Option Int->Option Int->Hp->VK->Prop:=fun x lo hi H Q=>∃ a xs,x = .ref a/\SqT K H a xs /\
 ¬(HT.sIx xs.length 0 lo=0/\HT.sIx xs.length xs.length hi=xs.length)/\∀ p,H p=none->Q (.ref p) (upd H p (.tup (cutV xs lo hi)))
theorem sl_tup:SlR X (rSlT X.K):=by
 intro pins s σ H x v vl vu lo hi sl Q I rx hs pl pu h
 obtain ⟨a,xs,rfl,hx,hw,q⟩:=h
 cases rx
 obtain ⟨its,r,ht,hz⟩:=I.tuple hx
 have hlen:its.toArray.size=xs.length:=by rw [List.size_toArray];exact r.length.symm
 refine ⟨"tuple",_,PyProof.Rows.slot_tuple_getitem.lookup,ht.typeIs,?_⟩
 refine HT.getItem_tuple_cut ht hs pl pu (by rw [hlen];exact hw) ?_ (by rw [hlen];exact hz)
 rw [hlen]
 refine ⟨.ref s.heap.objs.size,_,I.laid (t':=s.toks) (o:=.tup (cutV xs lo hi)) (fun b ob q=>Heap.get?_push_of_some _ q) (Nat.le_refl _) ?_,rfl,q _ (I.hok.fresh (Nat.le_refl _))⟩
 exact ⟨Nat.le_trans (u_l xs lo hi) hz,_,(r.drop (HT.sIx xs.length 0 lo)).take (HT.sIx xs.length xs.length hi-HT.sIx xs.length 0 lo),IsTup.new _ _⟩
def rCatT(K:PySem.W.Frag):R2:=fun x y H Q=>∃ a b xs ys,x = .ref a/\y = .ref b/\SqT K H a xs/\SqT K H b ys/\xs≠[]/\xs.length+ys.length<=sizeLine /\
 (ys=[]->Q (.ref a) H)/\(ys≠[]->∀ p,H p=none->Q (.ref p) (upd H p (.tup (xs++ys))))
theorem Vals.nil_iff{xs:List V}{us:List Value}(r:Vals xs us):us=[]↔xs=[]:=by
 cases r with
 | nil=>simp
 | cons _ _=>simp
theorem op_catT:OpR X (binaryOp .Add) (rCatT X.K):=by
 intro pins s σ H x y v u Q I rx ry h
 obtain ⟨a,b,xs,ys,rfl,rfl,ha,hb,hx,hz,q1,q2⟩:=h
 cases rx
 cases ry
 obtain ⟨its,r1,p1,_⟩:=I.tuple ha
 obtain ⟨its2,r2,p2,_⟩:=I.tuple hb
 refine HT.cat_tup p1 p2 (fun z=>hx (r1.nil_iff.mp z)) (fun z=>⟨.ref a,H,I,rfl,q1 (r2.nil_iff.mp z)⟩) (fun z=>?_) (by rw [<-r1.length,<-r2.length];exact hz)
 refine ⟨.ref s.heap.objs.size,_,I.laid (t':=s.toks) (o:=.tup (xs++ys)) (fun b ob q=>Heap.get?_push_of_some _ q) (Nat.le_refl _) ?_,rfl,q2 (fun w=>z (r2.nil_iff.mpr w)) _ (I.hok.fresh (Nat.le_refl _))⟩
 exact ⟨by rw [List.length_append];exact hz,_,r1.append r2,IsTup.new _ _⟩
end
open PySem PySem.Spec PyProof.Rows
def ixN(n:Nat)(i:Int):Option Nat:=if 0<=i then (if i<n then some i.toNat else none) else if -(n:Int)<=i then some (i+n).toNat else none
def atI{α:Type}(xs:List α)(i:Int):Option α:=(ixN xs.length i).bind fun j=>xs[j]?
theorem p_f{n:Nat}{i:Int}{j:Nat}(h:ixN n i=some j):seqIndex? i n=some j/\j<n /\ -(n:Int)<=i/\i<n:=by
 unfold ixN at h
 by_cases h0:0<=i
 ·rw [if_pos h0] at h
  by_cases h1:i<n
  ·rw [if_pos h1] at h
   have e:i.toNat=j:=Option.some.inj h
   exact ⟨by rw [seqIndex_of h0 h1,e],by lia,by lia,h1⟩
  ·rw [if_neg h1] at h;cases h
 ·rw [if_neg h0] at h
  by_cases h1 : -(n:Int)<=i
  ·rw [if_pos h1] at h
   have e:(i+n).toNat=j:=Option.some.inj h
   exact ⟨by rw [seqIndex_neg (by lia) h1,e],by lia,h1,by lia⟩
  ·rw [if_neg h1] at h;cases h
theorem m_n{α:Type}{xs:List α}{i:Int}{v:α}(h:atI xs i=some v):∃ j,seqIndex? i xs.length=some j/\xs[j]? = some v/\j<xs.length /\ -(xs.length:Int)<=i/\i<xs.length:=by
 unfold atI at h
 cases e:ixN xs.length i with
 | none=>rw [e] at h;cases h
 | some j =>
  rw [e] at h
  obtain ⟨h1,h2,h3,h4⟩:=p_f e
  exact ⟨j,h1,h,h2,h3,h4⟩
theorem w_q{α:Type}{xs:List α}{j:Nat}{v:α}(h:xs[j]? = some v):atI xs (j:Int)=some v:=by
 have hj:j<xs.length:=(List.getElem?_eq_some_iff.mp h).1
 have e:ixN xs.length (j:Int)=some j:=by
  unfold ixN
  rw [if_pos (by lia),if_pos (by lia)];simp
 unfold atI;rw [e];exact h
def PlainIx(b:Expr):Prop:=∀ o i,subscripted b false o i=operate [o,i] (getItem o i)
def IxR(X:Cx)(r:R2):Prop :=
 ∀ (value slice:Expr) (pins:List (Addr×Obj)) (s:Shared) (σ:St) (H:Hp) (x y:V) (v u:Value) (Q:VK),Inv X pins σ H s->RelV x v->RelV y u->r x y H Q ->
  subscripted slice false v u=operate [v,u] (getItem v u)->wpAny (model X.prog X.w) X.A (subscriptTail value slice v u) (EP X pins σ Q) X.xe s
def MtR(X:Cx)(id:String)(r:V->List V->Hp->VK->Prop):Prop :=
 ∀ (pins:List (Addr×Obj)) (s:Shared) (σ:St) (H:Hp) (x:V) (xs:List V) (v:Value) (us:List Value) (Q:VK),Inv X pins σ H s->RelV x v->Vals xs us->r x xs H Q ->
  wpAny (model X.prog X.w) X.A (call (.builtin id) (v::us)) (EP X pins σ Q) X.xe s
section
variable {X:Cx} {a b:Expr} {ta tb:TE} {pos:Pos}
theorem z_o{r:R2}(hr:IxR X r)(ha:PE X a ta)(hb:PE X b tb)(hs:PlainIx b):PE X (.Subscript a b pos) (tOp r ta tb):=by
 intro pins s σ H Q I h
 exact Subscript_ (binT ha hb I h fun v u s2 x y H2 I2 rx ry q=>hr a b pins s2 σ H2 x y v u Q I2 rx ry q (hs _ _))
def rIxL(K:PySem.W.Frag):R2:=fun x y H Q=>∃ p xs i v,x = .ref p/\y = .int i/\SqL K H p xs/\atI xs i=some v/\Q v H
def rIxT(K:PySem.W.Frag):R2:=fun x y H Q=>∃ p xs i v,x = .ref p/\y = .int i/\SqT K H p xs/\atI xs i=some v/\Q v H
theorem z_m:IxR X (rIxL X.K):=by
 intro value slice pins s σ H x y v u Q I rx ry h hs
 obtain ⟨p,xs,i,z,rfl,rfl,hq,he,q⟩:=h
 cases rx
 obtain ⟨t,rfl⟩:=ry
 obtain ⟨its,r,pl,hz⟩:=I.list hq
 obtain ⟨j,h1,h2,h3,h4,h5⟩:=m_n he
 obtain ⟨w,ew,rw'⟩:=r.get h2
 have hl:=r.length
 have hn:=line63
 have fin:EP X pins σ Q w s:=⟨z,H,I,rw',q⟩
 by_cases h0:0<=i
 ·have hj:i.toNat=j:=by
   rw [seqIndex_of h0 h5] at h1
   exact Option.some.inj h1
  exact item_listR pl.isList h0 (by lia) (by rw [hj];simpa using ew) fin hs
 ·have hj:(i+(its.toArray.size:Int)).toNat=j:=by
   rw [seqIndex_neg (by lia) h4] at h1
   rw [List.size_toArray,<-hl]
   exact Option.some.inj h1
  exact subscriptTail_builtinR (x:=w) pl.isList.typeIs slot_list_getitem.lookup
   (wpAny_getItem_list_neg (Q:=fun r s'=>r=w/\EP X pins σ Q r s') pl.isList (by lia) (by rw [List.size_toArray]<;>lia) (by lia) (by rw [hj];simpa using ew) ⟨rfl,fin⟩) hs
theorem y_a:IxR X (rIxT X.K):=by
 intro value slice pins s σ H x y v u Q I rx ry h hs
 obtain ⟨p,xs,i,z,rfl,rfl,hq,he,q⟩:=h
 cases rx
 obtain ⟨t,rfl⟩:=ry
 obtain ⟨its,r,pl,hz⟩:=I.tuple hq
 obtain ⟨j,h1,h2,h3,h4,h5⟩:=m_n he
 obtain ⟨w,ew,rw'⟩:=r.get h2
 have hl:=r.length
 have hn:=line63
 have fin:EP X pins σ Q w s:=⟨z,H,I,rw',q⟩
 exact subscriptTail_builtinR (x:=w) pl.typeIs slot_tuple_getitem.lookup
  (getItem_tuple (j:=j) (Q:=fun r s'=>r=w/\EP X pins σ Q r s') pl (by lia) (by lia) (by rw [List.size_toArray,<-hl];exact h1) (by simpa using ew) ⟨rfl,fin⟩) hs
theorem n_z(its:List Value)(n j:Nat)(u:Value):Obj.mapSeq (·.setIfInBounds j u) { cls:=.type "list",data:=.seq its.toArray n }={ cls:=.type "list",data:=.seq (its.set j u).toArray n }:=by
 simp [Obj.mapSeq]
theorem Inv.lst{pins:List (Addr×Obj)}{σ:St}{H:Hp}{s:Shared}{p:Addr}{xs:List V}(I:Inv X pins σ H s)(h:H p=some (.lst xs)) :
  ∃ (its:List Value) (n:Nat),Vals xs its/\s.heap.get? p=some { cls:=.type "list",data:=.seq its.toArray n }/\xs.length<=sizeLine:=by
 obtain ⟨z,its,n,r,e⟩:=I.hok p _ h
 exact ⟨its,n,r,e,z⟩
theorem Inv.lstUpd{pins:List (Addr×Obj)}{σ:St}{H:Hp}{s:Shared}{p:Addr}{xs ys:List V}{its its':List Value}{n n':Nat}{f:Obj->Obj}(I:Inv X pins σ H s)(h:H p=some (.lst xs))
  (ho:s.heap.get? p=some { cls:=.type "list",data:=.seq its.toArray n }) (hf:f { cls:=.type "list",data:=.seq its.toArray n }={ cls:=.type "list",data:=.seq its'.toArray n' }) (r:Vals ys its') (hz:ys.length<=sizeLine) (t:Nat) :
  Inv X pins σ (upd H p (.lst ys)) { s with heap:=s.heap.update p f,toks:=t }:=by
 have e:(s.heap.update p f).get? p=some { cls:=.type "list",data:=.seq its'.toArray n' }:=by
  rw [Heap.get?_update_self f ho (by rw [hf]<;>rfl),hf]
 refine I.write (x:=p) (e:=p) (by rw [h];trivial) (.inl rfl) (fun b u hb q=>(Heap.get?_update_other _ _ (Ne.symm hb)).trans q) ⟨_,e⟩ ?_
 exact ⟨hz,its',n',r,e⟩
def rSetL:V->V->V->Hp->(Hp->Prop)->Prop:=fun o i v H Q=>∃ p xs k j,o = .ref p/\i = .int k/\H p=some (.lst xs)/\ixN xs.length k=some j/\Q (upd H p (.lst (xs.set j v)))
theorem r_b:PSet X rSetL:=by
 intro pins s σ H o i v ov iv u Q I ro ri rv h
 obtain ⟨p,xs,k,j,rfl,rfl,hp,hj,q⟩:=h
 cases ro
 obtain ⟨t,rfl⟩:=ri
 obtain ⟨its,n,r,ho,hz⟩:=I.lst hp
 obtain ⟨h1,h2,h3,h4⟩:=p_f hj
 have hl:=r.length
 have hn:=line63
 have I':Inv X pins σ (upd H p (.lst (xs.set j v))) { s with heap:=s.heap.update p (Obj.mapSeq (·.setIfInBounds j u)) } :=
  I.lstUpd hp ho (n_z its n j u) (r.set rv j) (by rw [List.length_set];exact hz) s.toks
 by_cases h0:0<=k
 ·have hk:k.toNat=j:=by
   rw [seqIndex_of h0 h4] at h1
   exact Option.some.inj h1
  exact PySem.W.ki_setAt ho h0 (by lia) (by rw [List.size_toArray,<-hl];exact h4) (by rw [hk];exact ⟨_,I',q⟩)
 ·have hk:(k+(its.toArray.size:Int)).toNat=j:=by
   rw [seqIndex_neg (by lia) h3] at h1
   rw [List.size_toArray,<-hl]
   exact Option.some.inj h1
  exact PySem.W.ki_setBack ho (by lia) (by rw [List.size_toArray,<-hl];exact h3) (by lia) (by rw [hk];exact ⟨_,I',q⟩)
theorem q_m(lo hi:Option Int)(n:Nat):(sliceBounds lo hi none n).1=((HT.sIx n 0 lo:Nat):Int)/\(sliceBounds lo hi none n).2.1=((HT.sIx n n hi:Nat):Int)/\(sliceBounds lo hi none n).2.2=1:=by
 refine ⟨?_,?_,rfl⟩
 ·cases lo with
  | none=>simp [sliceBounds,HT.sIx]
  | some i =>
   simp only [sliceBounds,HT.sIx,Option.getD_none,show (1:Int) > 0 by decide,if_true]
   by_cases h:i<0
   ·simp only [h,if_true]<;>lia
   ·simp only [h,if_false]<;>lia
 ·cases hi with
  | none=>simp [sliceBounds,HT.sIx]
  | some i =>
   simp only [sliceBounds,HT.sIx,Option.getD_none,show (1:Int) > 0 by decide,if_true]
   by_cases h:i<0
   ·simp only [h,if_true]<;>lia
   ·simp only [h,if_false]<;>lia
theorem r_c(its:List Value)(lo hi:Option Int):slicePick its.toArray lo hi none=((its.drop (HT.sIx its.length 0 lo)).take (HT.sIx its.length its.length hi-HT.sIx its.length 0 lo)).toArray:=by
 obtain ⟨h1,h2,h3⟩:=q_m lo hi its.toArray.size
 unfold slicePick
 rw [h1,h2,h3]
 simp only [sliceRange_one,pick_run,List.size_toArray]<;>rfl
def rSlL(K:PySem.W.Frag):V->Option Int->Option Int->Hp->VK->Prop:=fun x lo hi H Q=>∃ a xs,x = .ref a/\SqL K H a xs/\∀ p,H p=none->Q (.ref p) (upd H p (.lst (cutV xs lo hi)))
theorem j_a:SlR X (rSlL X.K):=by
 intro pins s σ H x v vl vu lo hi sl Q I rx hs pl pu h
 obtain ⟨a,xs,rfl,hx,q⟩:=h
 cases rx
 obtain ⟨its,r,ht,hz⟩:=I.list hx
 have hlen:=r.length
 refine ⟨"list",_,slot_list_getitem.lookup,ht.isList.typeIs,?_⟩
 refine wpAny_getItem_list_slice ht.isList hs pl pu .none (by simp) ?_ (by rw [List.size_toArray]<;>lia)
 rw [r_c,<-hlen]
 refine ⟨.ref s.heap.objs.size,_,I.laid (t':=s.toks) (o:=.lst (cutV xs lo hi)) (fun b ob q=>Heap.get?_push_of_some _ q) (Nat.le_refl _) ?_,rfl,q _ (I.hok.fresh (Nat.le_refl _))⟩
 exact ⟨Nat.le_trans (u_l xs lo hi) hz,_,0,(r.drop (HT.sIx xs.length 0 lo)).take (HT.sIx xs.length xs.length hi-HT.sIx xs.length 0 lo),Heap.get?_push_size _ rfl⟩
def flatV:V->Bool
 | .non=>true
 | .bl _=>true
 | .int _=>true
 | .str _=>true
 | _=>false
def eqV:V->V->Bool
 | .non,.non=>true
 | .bl a,.bl b=>a == b
 | .bl a,.int b=>(if a then 1 else 0) == b
 | .int a,.bl b=>a == (if b then 1 else 0)
 | .int a,.int b=>a == b
 | .str a,.str b=>a == b
 | _,_=>false
theorem eqAt_V{A:Around}{s:Shared}{y x:V}{u v:Value}(ry:RelV y u)(rx:RelV x v)(fy:flatV y=true)(fx:flatV x=true):SeqAt.EqAt A s u v (eqV y x):=by
 cases y with
 | non =>
  cases ry
  cases x with
  | non=>cases rx;exact SeqAt.EqAt.same _
  | bl b=>cases rx;exact SeqAt.EqAt.none_bool b
  | int b=>obtain ⟨t,rfl⟩:=rx;exact SeqAt.EqAt.none_int b t
  | str b=>obtain ⟨t,rfl⟩:=rx;exact SeqAt.EqAt.none_str b t
  | _=>exact absurd (show false=true from fx) Bool.false_ne_true
 | bl a =>
  cases ry
  cases x with
  | non=>cases rx;exact SeqAt.EqAt.bool_none a
  | bl b=>cases rx;exact SeqAt.EqAt.bool_bool a b
  | int b=>obtain ⟨t,rfl⟩:=rx;exact SeqAt.EqAt.bool_int a b t
  | str b=>obtain ⟨t,rfl⟩:=rx;exact SeqAt.EqAt.bool_str a b t
  | _=>exact absurd (show false=true from fx) Bool.false_ne_true
 | int a =>
  obtain ⟨t',rfl⟩:=ry
  cases x with
  | non=>cases rx;exact SeqAt.EqAt.int_none a t'
  | bl b=>cases rx;exact SeqAt.EqAt.int_bool a t' b
  | int b=>obtain ⟨t,rfl⟩:=rx;exact SeqAt.EqAt.int_int a t' b t
  | str b=>obtain ⟨t,rfl⟩:=rx;exact SeqAt.EqAt.int_str a t' b t
  | _=>exact absurd (show false=true from fx) Bool.false_ne_true
 | str a =>
  obtain ⟨t',rfl⟩:=ry
  cases x with
  | non=>cases rx;exact SeqAt.EqAt.str_none a t'
  | bl b=>cases rx;exact SeqAt.EqAt.str_bool a t' b
  | int b=>obtain ⟨t,rfl⟩:=rx;exact SeqAt.EqAt.str_int a t' b t
  | str b=>obtain ⟨t,rfl⟩:=rx;exact SeqAt.EqAt.str_str a t' b t
  | _=>exact absurd (show false=true from fx) Bool.false_ne_true
 | _=>exact absurd (show false=true from fy) Bool.false_ne_true
def eqU(x:V)(u:Value):Bool:=match u with
 | .none=>eqV .non x
 | .bool b=>eqV (.bl b) x
 | .int i _=>eqV (.int i) x
 | .str z _=>eqV (.str z) x
 | _=>false
theorem l_d{x y:V}{u:Value}(r:RelV y u)(f:flatV y=true):eqU x u=eqV y x:=by
 cases y with
 | non=>cases r;rfl
 | bl b=>cases r;rfl
 | int i=>obtain ⟨t,rfl⟩:=r;rfl
 | str z=>obtain ⟨t,rfl⟩:=r;rfl
 | _=>exact absurd (show false=true from f) Bool.false_ne_true
theorem u_j{x:V}:∀ {xs:List V} {us:List Value},Vals xs us->xs.all flatV=true->us.any (eqU x)=xs.any fun y=>eqV y x
 | _,_,.nil,_=>rfl
 | y::xs,u::us,.cons r t,f=>by
  rw [List.all_cons,Bool.and_eq_true] at f
  rw [List.any_cons,List.any_cons,l_d r f.1,u_j t f.2]
theorem w_v{A:Around}{s:Shared}{x:V}{v:Value}(rx:RelV x v)(fx:flatV x=true):∀ {xs:List V} {us:List Value},Vals xs us->xs.all flatV=true->∀ u∈us,SeqAt.EqAt A s u v (eqU x u)
 | _,_,.nil,_=>fun u hu=>by cases hu
 | y::xs,u::us,.cons r t,f=>fun u' hu=>by
  rw [List.all_cons,Bool.and_eq_true] at f
  rcases List.mem_cons.mp hu with rfl | hu
  ·rw [l_d r f.1];exact eqAt_V r rx f.1 fx
  ·exact w_v rx fx t f.2 u' hu
def inV(x:V)(xs:List V):Bool:=xs.any fun y=>eqV y x
def rIn(K:PySem.W.Frag)(neg:Bool):R2:=fun x y H Q=>∃ p xs,y = .ref p/\(SqL K H p xs\/SqT K H p xs)/\flatV x=true/\xs.all flatV=true/\Q (.bl (if neg then !inV x xs else inV x xs)) H
theorem q_f:OpR X (compareOp .In) (rIn X.K false):=by
 intro pins s σ H x y v u Q I rx ry h
 obtain ⟨p,xs,rfl,hq,fx,fs,q⟩:=h
 cases ry
 rcases hq with hq | hq
 ·obtain ⟨its,r,pl,hz⟩:=I.list hq
  refine SeqAt.in_listAt (eqU x) pl.isList (fun w hw=>w_v rx fx r fs w (by simpa using hw)) ⟨.bl _,H,I,rfl,?_⟩
  rw [show its.toArray.any (eqU x)=its.any (eqU x) by simp,u_j r fs]
  exact q
 ·obtain ⟨its,r,pl,hz⟩:=I.tuple hq
  refine SeqAt.in_tupleAt (eqU x) pl (fun w hw=>w_v rx fx r fs w (by simpa using hw)) ⟨.bl _,H,I,rfl,?_⟩
  rw [show its.toArray.any (eqU x)=its.any (eqU x) by simp,u_j r fs]
  exact q
theorem v_u:OpR X (compareOp .NotIn) (rIn X.K true):=by
 intro pins s σ H x y v u Q I rx ry h
 obtain ⟨p,xs,rfl,hq,fx,fs,q⟩:=h
 cases ry
 rcases hq with hq | hq
 ·obtain ⟨its,r,pl,hz⟩:=I.list hq
  refine SeqAt.notIn_listAt (eqU x) pl.isList (fun w hw=>w_v rx fx r fs w (by simpa using hw)) ⟨.bl _,H,I,rfl,?_⟩
  rw [show its.toArray.any (eqU x)=its.any (eqU x) by simp,u_j r fs]
  exact q
 ·obtain ⟨its,r,pl,hz⟩:=I.tuple hq
  refine SeqAt.notIn_tupleAt (eqU x) pl (fun w hw=>w_v rx fx r fs w (by simpa using hw)) ⟨.bl _,H,I,rfl,?_⟩
  rw [show its.toArray.any (eqU x)=its.any (eqU x) by simp,u_j r fs]
  exact q
theorem x_t:CallR X (.type "list") (fun xs H Q=>∃ p ys,xs=[.ref p]/\(SqL X.K H p ys\/SqT X.K H p ys)/\∀ l,H l=none->Q (.ref l) (upd H l (.lst ys))):=by
 intro pins s σ H xs us Q I r h
 obtain ⟨p,ys,rfl,hq,q⟩:=h
 obtain ⟨u,rfl,rx⟩:=vals1 r
 cases rx
 have fin:∀ (its:List Value),Vals ys its->ys.length<=sizeLine->∀ (h':Heap) (c':Nat),(∀ b o',s.heap.get? b=some o'->h'.get? b=some o') ->
   h'.get? s.heap.objs.size=some { cls:=.type "list",dict:=none,data:=.seq its.toArray c',slots:=#[] }->EP X pins σ Q (.ref s.heap.objs.size) { s with heap:=h' }:=fun its r' hz h' c' kp e =>
  ⟨.ref s.heap.objs.size,_,I.laid (t':=s.toks) kp (Nat.le_refl _) (show ObjOk X.prog X.w _ h' _ (.lst ys) from ⟨hz,its,c',r',e⟩),rfl,q _ (I.hok.fresh (Nat.le_refl _))⟩
 rcases hq with hq | hq
 ·obtain ⟨its,r',pl,hz⟩:=I.list hq
  have hlen:=r'.length
  obtain ⟨o,ho,hc,n,hd⟩:=pl.isList
  exact call_list_seq p (.inl rfl) ho hc hd (fun h' c' kp e=>fin its r' hz h' c' kp e) (by simp only [List.size_toArray]<;>lia)
 ·obtain ⟨its,r',pl,hz⟩:=I.tuple hq
  have hlen:=r'.length
  obtain ⟨o,ho,hc,n,hd⟩:=pl
  exact call_list_seq p (.inr rfl) ho hc hd (fun h' c' kp e=>fin its r' hz h' c' kp e) (by simp only [List.size_toArray]<;>lia)
theorem s_l:CallR X (.type "tuple") (fun xs H Q=>∃ p ys,xs=[.ref p]/\((SqL X.K H p ys/\∀ l,H l=none->Q (.ref l) (upd H l (.tup ys)))\/(SqT X.K H p ys/\Q (.ref p) H))):=by
 intro pins s σ H xs us Q I r h
 obtain ⟨p,ys,rfl,h⟩:=h
 obtain ⟨u,rfl,rx⟩:=vals1 r
 cases rx
 rcases h with ⟨hq,q⟩ | ⟨hq,q⟩
 ·obtain ⟨its,r',pl,hz⟩:=I.list hq
  have hlen:=r'.length
  refine call_tuple_list pl.isList (fun h' kp=>?_) (by simp only [List.size_toArray]<;>lia)
  have I1:Inv X pins σ H { s with heap:=h' }:=I.kept (t':=s.toks) kp
  have I2:Inv X pins σ (upd H h'.objs.size (.tup ys)) { s with heap:=h'.push { cls:=.type "tuple",data:=.seq its.toArray } } :=
   I1.laid (t':=s.toks) (fun b o e=>Heap.get?_push_of_some _ e) (Nat.le_refl _) (show ObjOk X.prog X.w _ _ _ (.tup ys) from ⟨hz,its,r',IsTup.new _ _⟩)
  exact ⟨.ref h'.objs.size,_,I2,rfl,q _ (I1.hok.fresh (Nat.le_refl _))⟩
 ·obtain ⟨its,r',pl,hz⟩:=I.tuple hq
  exact call_tuple_same pl ⟨.ref p,H,I,rfl,q⟩
def tyV(K:PySem.W.Frag)(T:String)(x:V)(H:Hp):Prop:=match x with
 | .str _=>T = "str"
 | .int _=>T = "int"
 | .ref p=>(T = "list" /\ ∃ xs,SqL K H p xs)\/(T = "tuple" /\ ∃ o,K.lookup p=some o/\o.cls = .type "tuple" /\ o.dict=none) \/
   (T = "dict" /\ ((∃ kvs,H p=some (.dK kvs))\/∃ kvs,H p=some (.dT kvs)))\/(T = "set" /\ ∃ S n,H p=some (.set S n))
 | _=>False
theorem tyV_is{pins:List (Addr×Obj)}{σ:St}{H:Hp}{s:Shared}{T:String}{x:V}{v:Value}(I:Inv X pins σ H s)(r:RelV x v)(ty:tyV X.K T x H) :
  s.TypeIs v T/\∀ a,v = .ref a->∃ ob,s.heap.get? a=some ob/\ob.dict=none:=by
 cases x with
 | str z =>
  obtain ⟨t,rfl⟩:=r
  cases (show T = "str" from ty)
  exact ⟨typeIs_str s z t,fun _ e=>nomatch e⟩
 | int i =>
  obtain ⟨t,rfl⟩:=r
  cases (show T = "int" from ty)
  exact ⟨typeIs_int s i t,fun _ e=>nomatch e⟩
 | ref p =>
  cases r
  rcases ty with ⟨rfl,xs,hq⟩ | ⟨rfl,o,hk,hc,hd⟩ | ⟨rfl,hk⟩ | ⟨rfl,S,n,hk⟩
  ·obtain ⟨its,_,pl,_⟩:=I.list hq
   refine ⟨pl.isList.typeIs,fun a e=>?_⟩
   cases e
   obtain ⟨o,n,e,c,hd,_⟩:=pl
   exact ⟨o,e,hd⟩
  ·refine ⟨⟨o,I.kIn p o hk,hc⟩,fun a e=>?_⟩
   cases e
   exact ⟨o,I.kIn _ o hk,hd⟩
  ·have z:∃ o,s.heap.get? p=some o/\o.ExactDict:=by
    rcases hk with ⟨kvs,hk⟩ | ⟨kvs,hk⟩
    ·obtain ⟨_,_,_,_,o,_,_,e,ex,_⟩:=I.hok p _ hk
     exact ⟨o,e,ex⟩
    ·obtain ⟨_,_,_,_,o,_,_,e,ex,_⟩:=I.hok p _ hk
     exact ⟨o,e,ex⟩
   obtain ⟨o,e,ex⟩:=z
   refine ⟨⟨o,e,ex.1⟩,fun a e2=>?_⟩
   cases e2
   exact ⟨o,e,ex.2.1⟩
  ·obtain ⟨o,_,_,_,e,ex,_⟩:=I.hok p _ hk
   refine ⟨⟨o,e,ex.1⟩,fun a e2=>?_⟩
   cases e2
   exact ⟨o,e,ex.2.1⟩
 | _=>exact False.elim ty
def tBM0(K:PySem.W.Frag)(T:String)(r:V->List V->Hp->VK->Prop)(to:TE):TE:=fun σ H Q=>to σ H fun x H1=>tyV K T x H1/\r x [] H1 Q
def tBM(K:PySem.W.Frag)(T:String)(r:V->List V->Hp->VK->Prop)(to:TE)(t:TA):TE:=fun σ H Q=>to σ H fun x H1=>tyV K T x H1/\t σ H1 fun xs H2=>r x xs H2 Q
variable {o e:Expr} {es:List Expr} {to:TE} {t:TA} {name:Str} {apos cpos:Pos} {T id:String} {r:V->List V->Hp->VK->Prop}
theorem pe_bm0(pa:PlainAttrs T)(slot:Slot T name id)(hty:typeOf (.builtin id)=pure (.type "method_descriptor"))(hm:MtR X id r)(ho:PE X o to)
  (hbase:attributeBase o name X.env (eval o X.env)=eval o X.env:=by rfl) (hline:(apos.endLine == cpos.line)=true:=by rfl):PE X (.Call (.Attribute o name apos) [] [] cpos) (tBM0 X.K T r to):=by
 intro pins s σ H Q I h
 refine wpAny_Call_method0_late hbase hline (thn (ho pins s σ H _ I h) fun v s1 ⟨x,H1,I1,r1,ty,q1⟩=>?_)
 obtain ⟨h1,h2⟩:=tyV_is I1 r1 ty
 exact ⟨T,id,pa,slot,hty,h1,h2,Calls.callWith_builtin rfl (PySem.evalArgs_none (hm pins s1 σ H1 x [] v [] Q I1 r1 .nil q1))⟩
theorem t_a(pa:PlainAttrs T)(slot:Slot T name id)(hty:typeOf (.builtin id)=pure (.type "method_descriptor"))(hm:MtR X id r)(ho:PE X o to)(ha:PA X (e::es) t)
  (hbase:attributeBase o name X.env (eval o X.env)=eval o X.env:=by rfl)
  (hfew:((backTo cpos (starEach (e::es) X.env)).all (fun x=>!x.1)&&(backToKw cpos (keywordEach [] X.env)).all (fun x=>x.1.isSome)
   && decide ((e::es).length+([]:List Keyword).length+(if ([]:List Keyword).isEmpty then 0 else 1)<30))=true:=by rfl)
  (hline:(apos.endLine == cpos.line)=true:=by rfl) (hs:starEach (e::es) X.env=(false,eval e X.env)::starEach es X.env:=by rfl) (hplain:(backTo cpos (starEach es X.env)).any (·.1)=false:=by rfl) :
  PE X (.Call (.Attribute o name apos) (e::es) [] cpos) (tBM X.K T r to t):=by
 intro pins s σ H Q I h
 refine wpAny_Call_method_late hbase hfew hline rfl (thn (ho pins s σ H _ I h) fun v s1 ⟨x,H1,I1,r1,ty,q1⟩=>?_)
 obtain ⟨h1,h2⟩:=tyV_is I1 r1 ty
 refine ⟨T,id,pa,slot,hty,h1,h2,?_⟩
 have hA:=ha cpos pins s1 σ H1 _ I1 q1
 rw [hs] at hA ⊢
 refine Calls.callWith_builtin (by show (false || (backTo cpos (starEach es X.env)).any (·.1))=false;rw [hplain]<;>rfl) (Calls.evalArgs_plain ?_)
 exact thn hA fun us s2 ⟨vs,H2,I2,r2,q2⟩=>hm pins s2 σ H2 x vs v us Q I2 r1 r2 q2
/- xs.append(e),list.index on a module's tuple .. are MtR facts of 06m -/
end
end L2
namespace L2
open PySem PySem.Spec PyProof.Rows
def MtM(X:Cx)(id:String)(r:V->List V->Hp->VK->Prop):Prop :=
 ∀ (pins:List (Addr×Obj)) (s:Shared) (σ:St) (H:Hp) (x:V) (xs:List V) (v:Value) (us:List Value) (Q:VK),Inv X pins σ H s->RelV x v->Vals xs us->r x xs H Q ->
  wpAny (model X.prog X.w) X.A (call (.builtin id) (v::us)) (EP X pins σ Q) X.xe s
theorem Vals.one:∀ {x:V} {us:List Value},Vals [x] us->∃ u,us=[u]/\RelV x u
 | _,_,.cons r .nil=>⟨_,rfl,r⟩
theorem Vals.zero:∀ {us:List Value},Vals [] us->us=[]
 | _,.nil=>rfl
theorem Vals.dropLast{xs:List V}{us:List Value}(h:Vals xs us):Vals xs.dropLast us.dropLast:=by
 induction h with
 | nil=>exact .nil
 | cons r t ih =>
  cases t with
  | nil=>exact .nil
  | cons q t'=>exact .cons r ih
theorem Vals.eraseIdx:∀ {xs:List V} {us:List Value} (i:Nat),Vals xs us->Vals (xs.eraseIdx i) (us.eraseIdx i)
 | _,_,_,.nil=>.nil
 | _,_,0,.cons _ t=>t
 | _,_,i+1,.cons r t=>.cons r (Vals.eraseIdx i t)
theorem n_p{α:Type}(l:List α):l.eraseIdx (l.length-1)=l.dropLast:=by
 induction l with
 | nil=>rfl
 | cons a r ih =>
  cases r with
  | nil=>rfl
  | cons b r =>
   have e:(a::b::r).length-1=((b::r).length-1)+1:=by
    have h1:(a::b::r).length=r.length+2:=rfl
    have h2:(b::r).length=r.length+1:=rfl
    lia
   rw [e,List.eraseIdx_cons_succ,ih]
   all_goals rfl
theorem r_x{α:Type}:∀ (l:List α) (i:Nat),(l.eraseIdx i).length<=l.length
 | [],_=>Nat.le_refl _
 | _::_,0=>Nat.le_succ _
 | _::r,i+1=>Nat.succ_le_succ (r_x r i)
section
variable {X:Cx} {pins:List (Addr×Obj)} {σ:St} {H:Hp} {s:Shared} {l b:Addr} {xs ys zs:List V}
theorem Inv.lset{its its':List Value}{n:Nat}{f:Array Value->Array Value}{t':Nat}(I:Inv X pins σ H s)(hH:H l=some (.lst xs))
  (e:s.heap.get? l=some { cls:=.type "list",data:=.seq its.toArray n }) (hf:f its.toArray=its'.toArray) (hv:Vals ys its') (hz:ys.length<=sizeLine) :
  Inv X pins σ (upd H l (.lst ys)) { s with heap:=s.heap.update l (Obj.mapSeq f),toks:=t' }:=by
 have q:=PySem.IsL.update e f
 rw [hf] at q
 refine I.write (x:=l) (e:=l) (by rw [hH];exact trivial) (.inl rfl) (fun b' u hb hu=>(Heap.get?_update_other s.heap (Obj.mapSeq f) (Ne.symm hb)).trans hu) ⟨_,q⟩ ?_
 exact ⟨hz,its',_,hv,q⟩
theorem Inv.lnew{its:List Value}{t':Nat}(I:Inv X pins σ H s)(hv:Vals ys its)(hz:ys.length<=sizeLine) :
  Inv X pins σ (upd H s.heap.objs.size (.lst ys)) { s with heap:=s.heap.push { cls:=.type "list",data:=.seq its.toArray },toks:=t' } :=
 I.laid (fun _ _ q=>Heap.get?_push_of_some _ q) (Nat.le_refl _) ⟨hz,its,0,hv,Heap.get?_push_size _ rfl⟩
theorem Inv.fresh(I:Inv X pins σ H s):H s.heap.objs.size=none:=I.hok.fresh (Nat.le_refl _)
theorem Inv.lstM(I:Inv X pins σ H s)(hH:H l=some (.lst xs)):xs.length<=sizeLine/\∃ (its:List Value) (n:Nat),Vals xs its/\xs.length=its.length/\s.heap.get? l=some { cls:=.type "list",data:=.seq its.toArray n }:=by
 obtain ⟨z,its,n,r,e⟩:=I.hok l _ hH
 exact ⟨z,its,n,r,r.length,e⟩
theorem notLongL{n:Nat}(h:n<=sizeLine):Builtin.List.listTooLong n=false:=by
 unfold Builtin.List.listTooLong
 exact decide_eq_false (by lia)
end
section
variable {X:Cx}
def rAppend:V->List V->Hp->VK->Prop:=fun x vs H Q=>∃ l xs y,x = .ref l/\vs=[y]/\H l=some (.lst xs)/\xs.length<sizeLine/\Q .non (upd H l (.lst (xs++[y])))
theorem x_g:MtM X "list.append" rAppend:=by
 intro pins s σ H x vs v us Q I rx rv h
 obtain ⟨l,xs,y,rfl,rfl,hH,hz,q⟩:=h
 cases rx
 obtain ⟨u,rfl,ru⟩:=rv.one
 obtain ⟨z,its,n,r,hl,e⟩:=I.lstM hH
 refine call_meets F.slot_list_append ⟨_,e,rfl⟩ F.entry_list_append (F.args_list_append_2 _ _) (PySem.list_append l its.toArray n u (by rw [List.size_toArray];lia)) ⟨e,?_⟩
 refine ⟨.non,_,I.lset (its':=its++[u]) hH e (by simp) (r.append (.cons ru .nil)) ?_,rfl,q⟩
 rw [List.length_append,List.length_singleton]
 lia
def rPop:V->List V->Hp->VK->Prop:=fun x vs H Q=>∃ l xs y,x = .ref l/\vs=[]/\H l=some (.lst xs)/\xs[xs.length-1]? = some y/\Q y (upd H l (.lst xs.dropLast))
theorem mt_pop:MtM X "list.pop" rPop:=by
 intro pins s σ H x vs v us Q I rx rv h
 obtain ⟨l,xs,y,rfl,rfl,hH,hy,q⟩:=h
 cases rx
 have hus:=rv.zero
 subst hus
 obtain ⟨z,its,n,r,hl,e⟩:=I.lstM hH
 obtain ⟨u,hu,ru⟩:=r.get hy
 have hy':its.toArray[its.toArray.size-1]? = some u:=by
  show its.toArray[its.length-1]? = some u
  rw [<-Array.getElem?_toList,<-hl]
  exact hu
 refine call_meets F.slot_list_pop ⟨_,e,rfl⟩ F.entry_list_pop (F.args_list_pop_1 _) (MeetsSeq.list_pop_last l its.toArray n u hy' (by rw [List.size_toArray];lia)) ⟨e,?_⟩
 refine ⟨y,_,I.lset (its':=its.dropLast) hH e ?_ r.dropLast ?_,ru,q⟩
 ·show its.toArray.eraseIdxIfInBounds (its.toArray.size-1)=its.dropLast.toArray
  rw [List.size_toArray,List.eraseIdxIfInBounds_toArray,n_p]
 ·rw [List.length_dropLast]
  lia
def rPopAt:V->List V->Hp->VK->Prop:=fun x vs H Q=>∃ l xs i k y,x = .ref l/\vs=[.int i]/\H l=some (.lst xs) /\ -(2^63)<=i/\i<2^63/\seqIndex? i xs.length=some k/\xs[k]? = some y/\Q y (upd H l (.lst (xs.eraseIdx k)))
theorem mt_popAt:MtM X "list.pop" rPopAt:=by
 intro pins s σ H x vs v us Q I rx rv h
 obtain ⟨l,xs,i,k,y,rfl,rfl,hH,h1,h2,hk,hy,q⟩:=h
 cases rx
 obtain ⟨u,rfl,ru⟩:=rv.one
 obtain ⟨t,rfl⟩:=ru
 obtain ⟨z,its,n,r,hl,e⟩:=I.lstM hH
 obtain ⟨w,hw,rw'⟩:=r.get hy
 refine call_meets F.slot_list_pop ⟨_,e,rfl⟩ F.entry_list_pop (F.args_list_pop_2 _ _)
  (MeetsSeq.list_pop_at l its.toArray n i t k w (fitsIndex_both h1 h2) (by rw [List.size_toArray,<-hl];exact hk) (by rw [<-Array.getElem?_toList];exact hw) (by rw [List.size_toArray];lia)) ⟨e,?_⟩
 refine ⟨y,_,I.lset (its':=its.eraseIdx k) hH e ?_ (r.eraseIdx k) ?_,rw',q⟩
 ·show its.toArray.eraseIdxIfInBounds k=(its.eraseIdx k).toArray
  rw [List.eraseIdxIfInBounds_toArray]
 ·have:=r_x xs k
  lia
def rCat:R2:=fun x y H Q=>∃ l b xs zs,x = .ref l/\y = .ref b/\H l=some (.lst xs)/\H b=some (.lst zs)/\xs.length+zs.length<=sizeLine/\∀ p,H p=none->Q (.ref p) (upd H p (.lst (xs++zs)))
theorem o_o:OpR X (binaryOp .Add) rCat:=by
 intro pins s σ H x y v u Q I rx ry h
 obtain ⟨l,b,xs,zs,rfl,rfl,hH,hB,hz,q⟩:=h
 cases rx
 cases ry
 obtain ⟨z,its,n,r,hl,e⟩:=I.lstM hH
 obtain ⟨z2,its2,n2,r2,hl2,e2⟩:=I.lstM hB
 refine PySem.P.add_list e e2 ?_ (by rw [List.size_toArray,List.size_toArray];lia)
 have ea:its.toArray++its2.toArray=(its++its2).toArray:=by simp
 rw [ea]
 exact ⟨.ref _,_,I.lnew (t':=s.toks) (r.append r2) (by rw [List.length_append];lia),rfl,q _ I.fresh⟩
end
open PySem PySem.Spec PyProof.Rows
section
variable {κ:Type} [DecidableEq κ]
def valV(kvs:List (κ×V))(k:κ):Option V:=(kvs.find? fun kv=>decide (kv.1=k)).map (·.2)
def putK(kvs:List (κ×V))(k:κ)(v:V):List (κ×V) :=
 if (kvs.any fun kv=>decide (kv.1=k))=true then kvs.map (fun kv=>if kv.1=k then (kv.1,v) else kv) else kvs++[(k,v)]
theorem x_e{p:κ×V}{r:List (κ×V)}{k:κ}(e:p.1=k):valV (p::r) k=some p.2:=by simp [valV,List.find?_cons,e]
theorem x_d{p:κ×V}{r:List (κ×V)}{k:κ}(e:¬p.1=k):valV (p::r) k=valV r k:=by simp [valV,List.find?_cons,e]
theorem u_i(k:κ):∀ kvs:List (κ×V),(kvs.any fun kv=>decide (kv.1=k))=(valV kvs k).isSome
 | []=>rfl
 | p::r=>by
  rw [List.any_cons]
  by_cases e:p.1=k
  ·simp only [x_e e,decide_eq_true e,Bool.true_or,Option.isSome_some]
  ·rw [x_d e,decide_eq_false e,Bool.false_or];exact u_i k r
theorem n_g(k j:κ)(y:V):∀ kvs:List (κ×V),valV (kvs.map fun kv=>if kv.1=k then (kv.1,y) else kv) j=(valV kvs j).map fun x=>if j=k then y else x
 | []=>rfl
 | p::r=>by
  have ih:=n_g k j y r
  rw [List.map_cons]
  by_cases h:p.1=k
  ·rw [if_pos h]
   by_cases e:p.1=j
   ·rw [x_e (p:=(p.1,y)) e,x_e e,Option.map_some,if_pos (e.symm.trans h)]
   ·rw [x_d (p:=(p.1,y)) e,x_d e,ih]
  ·rw [if_neg h]
   by_cases e:p.1=j
   ·rw [x_e (p:=p) e,x_e e,Option.map_some,if_neg (fun z=>h (e.trans z))]
   ·rw [x_d (p:=p) e,x_d e,ih]
theorem q_x(k j:κ)(y:V):∀ kvs:List (κ×V),valV kvs k=none->valV (kvs++[(k,y)]) j=if j=k then some y else valV kvs j
 | [],_=>by
  by_cases e:k=j
  ·rw [if_pos e.symm];exact x_e (p:=(k,y)) e
  ·rw [if_neg (fun z=>e z.symm)];exact x_d (p:=(k,y)) e
 | p::r,hn=>by
  rw [List.cons_append]
  have hk:¬p.1=k:=fun z=>by rw [x_e z] at hn;cases hn
  rw [x_d hk] at hn
  have ih:=q_x k j y r hn
  by_cases e:p.1=j
  ·rw [x_e e,x_e e,if_neg (fun z=>hk (e.trans z))]
  ·rw [x_d e,x_d e,ih]
theorem w_z(kvs:List (κ×V))(k j:κ)(y:V):valV (putK kvs k y) j=if j=k then some y else valV kvs j:=by
 unfold putK
 by_cases a:(kvs.any fun kv=>decide (kv.1=k))=true
 ·rw [if_pos a,n_g]
  rw [u_i] at a
  by_cases e:j=k
  ·obtain ⟨x,hx⟩:=Option.isSome_iff_exists.mp a
   rw [if_pos e,e,hx,Option.map_some,if_pos rfl]
  ·rw [if_neg e]
   cases valV kvs j with
   | none=>rfl
   | some x=>rw [Option.map_some,if_neg e]
 ·rw [if_neg a]
  refine q_x k j y kvs ?_
  rw [u_i] at a
  cases q:valV kvs k with
  | none=>rfl
  | some x=>rw [q] at a;exact (a rfl).elim
theorem y_m(kvs:List (κ×V))(k:κ)(v:V):(putK kvs k v).length<=kvs.length+1:=by
 unfold putK
 split
 ·rw [List.length_map];lia
 ·rw [List.length_append,List.length_cons,List.length_nil];lia
theorem RelO.isSome_eq{o:Option V}{u:Option Value}(r:RelO o u):o.isSome=u.isSome:=by
 cases o with
 | none=>cases u with
  | none=>rfl
  | some _=>exact (show False from r).elim
 | some _=>cases u with
  | none=>exact (show False from r).elim
  | some _=>rfl
theorem RelO.getD{o:Option V}{u:Option Value}{d:V}{d':Value}(r:RelO o u)(rd:RelV d d'):RelV (o.getD d) (u.getD d'):=by
 cases o with
 | none=>cases u with
  | none=>exact rd
  | some _=>exact (show False from r).elim
 | some _=>cases u with
  | none=>exact (show False from r).elim
  | some _=>exact r
theorem KV.val{kvs:List (κ×V)}{vs:List (κ×Value)}(r:KV kvs vs)(k:κ):RelO (valV kvs k) (valueAt vs k):=by
 unfold KV at r
 induction r with
 | nil=>exact True.intro
 | @cons p q ps qs h t ih =>
  obtain ⟨h1,h2⟩:=h
  by_cases e:p.1=k
  ·have e':q.1=k:=h1.symm.trans e
   have b:valueAt (q::qs) k=some q.2:=by simp [valueAt,List.find?_cons,e']
   rw [x_e e,b];exact h2
  ·have e':¬q.1=k:=fun z=>e (h1.trans z)
   have b:valueAt (q::qs) k=valueAt qs k:=by simp [valueAt,List.find?_cons,e']
   rw [x_d e,b];exact ih
theorem KV.any{kvs:List (κ×V)}{vs:List (κ×Value)}(r:KV kvs vs)(k:κ):(kvs.any fun kv=>decide (kv.1=k))=vs.any fun kv=>decide (kv.1=k):=by
 unfold KV at r
 induction r with
 | nil=>rfl
 | cons h t ih=>rw [List.any_cons,List.any_cons,ih,h.1]
theorem KV.repl{kvs:List (κ×V)}{vs:List (κ×Value)}(r:KV kvs vs)(k:κ){y:V}{u:Value}(ry:RelV y u) :
  KV (kvs.map fun kv=>if kv.1=k then (kv.1,y) else kv) (vs.map fun kv=>if kv.1=k then (kv.1,u) else kv):=by
 unfold KV at r ⊢
 induction r with
 | nil=>exact .nil
 | @cons p q ps qs h t ih =>
  rw [List.map_cons,List.map_cons]
  refine .cons ?_ ih
  obtain ⟨h1,h2⟩:=h
  by_cases e:p.1=k
  ·rw [if_pos e,if_pos (h1.symm.trans e)];exact ⟨h1,ry⟩
  ·rw [if_neg e,if_neg (fun z=>e (h1.trans z))];exact ⟨h1,h2⟩
theorem KV.put{kvs:List (κ×V)}{vs:List (κ×Value)}(r:KV kvs vs)(k:κ){y:V}{u:Value}(ry:RelV y u):KV (putK kvs k y) (stored vs k u):=by
 unfold putK stored
 rw [r.any k]
 by_cases e:(vs.any fun kv=>decide (kv.1=k))=true
 ·rw [if_pos e,if_pos e];exact r.repl k ry
 ·rw [if_neg e,if_neg e];exact Paired.snoc r ⟨rfl,ry⟩
theorem KV.length{kvs:List (κ×V)}{vs:List (κ×Value)}(r:KV kvs vs):kvs.length=vs.length:=Paired.length r
end
theorem u_q{P:Program}{w:World}{k:Key}{u:Value}(r:RelV (kV k) u):(mixKind P w).is k u=true:=by
 cases k with
 | inl i=>obtain ⟨t,e⟩:=(show ∃ t,u=Value.int i t from r);subst e;exact p_g P w i t
 | inr x=>obtain ⟨t,e⟩:=(show ∃ t,u=Value.str x t from r);subst e;exact p_h P w x t
theorem r_v{P:Program}{w:World}:∀ {ks:List Key} {us:List Value},Vals (ks.map kV) us->ItemsAre (mixKind P w) ks us
 | [],_,r=>by rw [List.map_nil] at r;cases r;exact .nil
 | k::ks,_,r=>by
  rw [List.map_cons] at r
  cases r with
  | cons h t=>exact .cons (u_q h) (r_v t)
abbrev KT(H:Hp):List (List Key×V)->List (List Key×Addr×Value)->Prop:=Paired fun p q=>p.1=q.1/\H q.2.1=some (.tup (p.1.map kV))/\RelV p.2 q.2.2
theorem KT.val{H:Hp}{kvs:List (List Key×V)}{xs:List (List Key×Addr×Value)}(r:KT H kvs xs)(k:List Key):RelO (valV kvs k) ((atKey xs k).map (·.2)):=by
 induction r with
 | nil=>exact True.intro
 | @cons p q ps qs h t ih =>
  obtain ⟨h1,_,h2⟩:=h
  by_cases e:p.1=k
  ·have e':q.1=k:=h1.symm.trans e
   have b:atKey (q::qs) k=some q.2:=by simp [atKey,List.find?_cons,e']
   rw [x_e e,b];exact h2
  ·have e':¬q.1=k:=fun z=>e (h1.trans z)
   have b:atKey (q::qs) k=atKey qs k:=by simp [atKey,List.find?_cons,e']
   rw [x_d e,b];exact ih
theorem KT.repl{H:Hp}{kvs:List (List Key×V)}{xs:List (List Key×Addr×Value)}(r:KT H kvs xs)(k:List Key){y:V}{u:Value}(ry:RelV y u) :
  KT H (kvs.map fun kv=>if kv.1=k then (kv.1,y) else kv) (xs.map (putAt k u)):=by
 induction r with
 | nil=>exact .nil
 | @cons p q ps qs h t ih =>
  rw [List.map_cons,List.map_cons]
  refine .cons ?_ ih
  obtain ⟨h1,h2,h3⟩:=h
  unfold putAt
  by_cases e:p.1=k
  ·rw [if_pos e,if_pos (h1.symm.trans e)];exact ⟨h1,h2,ry⟩
  ·rw [if_neg e,if_neg (fun z=>e (h1.trans z))];exact ⟨h1,h2,h3⟩
theorem KT.put{H:Hp}{kvs:List (List Key×V)}{xs:List (List Key×Addr×Value)}(r:KT H kvs xs)(k:List Key){b:Addr}{y:V}{u:Value}(hb:H b=some (.tup (k.map kV)))(ry:RelV y u) :
  KT H (putK kvs k y) (storedH xs k b u):=by
 have e:(kvs.any fun kv=>decide (kv.1=k))=(atKey xs k).isSome:=by
  rw [u_i,(r.val k).isSome_eq,Option.isSome_map]
 unfold putK storedH
 rw [e]
 by_cases q:(atKey xs k).isSome=true
 ·rw [if_pos q,if_pos q];exact r.repl k ry
 ·rw [if_neg q,if_neg q];exact Paired.snoc r ⟨rfl,hb,ry⟩
theorem KT.keeps{H H':Hp}{kvs:List (List Key×V)}{xs:List (List Key×Addr×Value)}(r:KT H kvs xs)(ht:∀ b ys,H b=some (.tup ys)->H' b=some (.tup ys)):KT H' kvs xs :=
 Paired.mapP r fun _ _ z=>⟨z.1,ht _ _ z.2.1,z.2.2⟩
section
variable {P:Program} {w:World} {H:Hp} {h:Heap} {a:Addr}
theorem rd_of{u:HO}(ok:HOk P w H h)(e:Rd H a u):ObjOk P w H h a u:=e.ok ok
theorem p_d{kvs:List (Key×V)}(ok:HOk P w H h)(e:Rd H a (.dK kvs)):kvs.length<=sizeLine/\(a == sysModules)=false/\∃ vs,KV kvs vs/\h.DictOf (mixKind P w) a vs :=
 show ObjOk P w H h a (.dK kvs) from rd_of ok e
theorem dk_of{kvs:List (Key×V)}(ok:HOk P w H h)(e:H a=some (.dK kvs)):kvs.length<=sizeLine/\(a == sysModules)=false/\∃ vs,KV kvs vs/\h.DictOf (mixKind P w) a vs:=p_d ok (.inl e)
theorem t_r{ks:List Key}(ok:HOk P w H h)(e:H a=some (.tup (ks.map kV))):(tupleKind (mixKind P w)).is h ks a:=by
 obtain ⟨_,its,r,o,h1,h2,n,h3⟩:=(show ObjOk P w H h a (.tup (ks.map kV)) from ok a _ e)
 exact ⟨o,its.toArray,n,h1,h2,h3,by simpa using r_v r⟩
theorem p_e{kvs:List (List Key×V)}(ok:HOk P w H h)(e:Rd H a (.dT kvs)):kvs.length<=sizeLine/\(a == sysModules)=false /\
  ∃ xs,KT H kvs xs/\h.DictOfH (tupleKind (mixKind P w)) a xs:=by
 obtain ⟨z,y,xs,r,o,es,ep,h1,h2,h3,h4,h5⟩:=(show ObjOk P w H h a (.dT kvs) from rd_of ok e)
 refine ⟨z,y,xs,r,o,es,ep,h1,h2,h3,h4,fun x hx=>?_,h5⟩
 have all:∀ {l:List (List Key×V)} {m:List (List Key×Addr×Value)},KT H l m->∀ x∈m,(tupleKind (mixKind P w)).is h x.1 x.2.1:=by
  intro l m q
  induction q with
  | nil=>intro x hx;exact nomatch hx
  | @cons p q ps qs hq t ih =>
   intro x hx
   rcases List.mem_cons.mp hx with e | hx
   ·subst e
    exact t_r ok (by rw [<-hq.1];exact hq.2.1)
   ·exact ih x hx
 exact all r x hx
theorem dt_of{kvs:List (List Key×V)}(ok:HOk P w H h)(e:H a=some (.dT kvs)):kvs.length<=sizeLine/\(a == sysModules)=false /\
  ∃ xs,KT H kvs xs/\h.DictOfH (tupleKind (mixKind P w)) a xs:=p_e ok (.inl e)
end
def DGet(H:Hp)(a:Addr)(y:V)(r:Option V):Prop :=
 (∃ kvs k,Rd H a (.dK kvs)/\y=kV k/\r=valV kvs k)\/∃ kvs k b,Rd H a (.dT kvs)/\y = .ref b/\H b=some (.tup (k.map kV))/\r=valV kvs k
def DPut(H:Hp)(a:Addr)(y v:V)(H':Hp):Prop :=
 (∃ kvs k,H a=some (.dK kvs)/\y=kV k/\kvs.length<sizeLine/\H'=upd H a (.dK (putK kvs k v))) \/
 ∃ kvs k b,H a=some (.dT kvs)/\y = .ref b/\H b=some (.tup (k.map kV))/\kvs.length<sizeLine/\H'=upd H a (.dT (putK kvs k v))
theorem DGet.k{H:Hp}{a:Addr}{kvs:List (Key×V)}{k:Key}(e:H a=some (.dK kvs)):DGet H a (kV k) (valV kvs k):=.inl ⟨kvs,k,.inl e,rfl,rfl⟩
theorem DPut.k{H:Hp}{a:Addr}{kvs:List (Key×V)}{k:Key}{v:V}(e:H a=some (.dK kvs))(hl:kvs.length<sizeLine):DPut H a (kV k) v (upd H a (.dK (putK kvs k v))):=.inl ⟨kvs,k,e,rfl,hl,rfl⟩
section
variable {X:Cx} {pins:List (Addr×Obj)} {σ:St} {H:Hp} {s:Shared} {a:Addr} {y v:V} {u r:Value} {o:Option V} {A:Around} {E:Value->Shared->Prop}
theorem Inv.big(I:Inv X pins σ H s):sysModules<s.heap.objs.size:=by
 have h:mainGlobals<s.heap.objs.size:=(I.mod.glob.keeps I.bk).lt
 exact Nat.lt_trans (by decide) h
theorem m_x{Q:Value->Shared->Prop}(hu:A.units+1<cLine)(I:Inv X pins σ H s)(g:DGet H a y (some v))(ry:RelV y u)(h:∀ w' s',Inv X pins σ H s'->RelV v w'->Q w' s') :
  wpAny (model X.prog X.w) A (getItem (.ref a) u) Q E s:=by
 rcases g with ⟨kvs,k,e,ey,l⟩ | ⟨kvs,k,b,e,ey,eb,l⟩
 ·subst ey
  obtain ⟨z,hd,vs,rel,dd⟩:=p_d I.hok e
  obtain ⟨w',hw,rw'⟩:=RelO.some_of (v:=v) (o:=valueAt vs k) (by rw [l];exact rel.val k)
  exact wpAny_getItem_of (u_q ry) dd.mapOf hw (h w' _ (I.tok _) rw')
 ·subst ey
  cases (show u=Value.ref b from ry)
  obtain ⟨z,hd,xs,rel,dd⟩:=p_e I.hok e
  obtain ⟨w',hw,rw'⟩:=RelO.some_of (v:=v) (o:=(atKey xs k).map (·.2)) (by rw [l];exact rel.val k)
  obtain ⟨p,hp,hp2⟩:=Option.map_eq_some_iff.mp hw
  refine wpAny_getItem_heap (tupleKind_room_in1 hu) (t_r I.hok eb) dd hp ?_
  rw [hp2]
  exact h w' _ (I.tok _) rw'
theorem d_in{Q:Value->Shared->Prop}(hu:A.units+1<cLine)(I:Inv X pins σ H s)(g:DGet H a y o)(ry:RelV y u)(h:∀ s',Inv X pins σ H s'->Q (.bool o.isSome) s') :
  wpAny (model X.prog X.w) A (compareOp .In u (.ref a)) Q E s:=by
 rcases g with ⟨kvs,k,e,ey,l⟩ | ⟨kvs,k,b,e,ey,eb,l⟩
 ·subst ey
  obtain ⟨z,hd,vs,rel,dd⟩:=p_d I.hok e
  refine wpAny_in_of (u_q ry) hd dd.mapOf ?_
  rw [<-(rel.val k).isSome_eq,<-l]
  exact h _ (I.tok _)
 ·subst ey
  cases (show u=Value.ref b from ry)
  obtain ⟨z,hd,xs,rel,dd⟩:=p_e I.hok e
  refine wpAny_in_heap (tupleKind_room_in1 hu) (t_r I.hok eb) hd dd ?_
  have q:=(rel.val k).isSome_eq
  rw [Option.isSome_map] at q
  rw [<-q,<-l]
  exact h _ (I.tok _)
theorem p_b{h':Heap}{t':Nat}{ob:HO}(I:Inv X pins σ H s)(mu:Mut (H a))(hs:Heap.SameBut a s.heap h')(he:∃ q,h'.get? a=some q)(new:ObjOk X.prog X.w (upd H a ob) h' a ob) :
  Inv X pins σ (upd H a ob) { s with heap:=h',toks:=t' } :=
 I.write (x:=a) (e:=a) mu (.inl rfl) (fun b q hb z=>(hs.2 b hb).trans z) he new
theorem dk_new{P:Program}{w:World}{H':Hp}{h':Heap}{kvs:List (Key×V)}{vs:List (Key×Value)}(z:kvs.length<=sizeLine)(hd:(a == sysModules)=false)(rel:KV kvs vs)(dd:h'.DictOf (mixKind P w) a vs) :
  ObjOk P w H' h' a (.dK kvs):=⟨z,hd,vs,rel,dd⟩
theorem m_y{H':Hp}{Q:Unit->Shared->Prop}(hu:A.units+1<cLine)(I:Inv X pins σ H s)(g:DPut H a y v H')(ry:RelV y u)(rv:RelV v r)(h:∀ s',Inv X pins σ H' s'->Q () s') :
  wpAny (model X.prog X.w) A (setItem (.ref a) u r) Q E s:=by
 rcases g with ⟨kvs,k,e,ey,l,eH⟩ | ⟨kvs,k,b,e,ey,eb,l,eH⟩
 ·subst ey eH
  obtain ⟨z,hd,vs,rel,dd⟩:=dk_of I.hok e
  have hz:vs.length<=sizeLine:=by rw [<-rel.length];exact z
  have hl:(putK kvs k v).length<=sizeLine:=by have:=y_m kvs k v;lia
  refine wpAny_setItem_pairs (hsz:=hz) (u_q ry) dd fun h' dd' hs=>h _ ?_
  have he:∃ q,h'.get? a=some q:=let ⟨q,_,_,hq,_⟩:=dd';⟨q,hq⟩
  exact p_b I (by rw [e];exact True.intro) hs he (dk_new hl hd (rel.put k rv) dd')
 ·subst ey eH
  cases (show u=Value.ref b from ry)
  obtain ⟨z,hd,xs,rel,dd⟩:=dt_of I.hok e
  have hz:xs.length<=sizeLine:=by rw [<-Paired.length rel];exact z
  have hl:(putK kvs k v).length<=sizeLine:=by have:=y_m kvs k v;lia
  refine wpAny_setItem_heap (hsz:=hz) (tupleKind_room_in1 hu) (t_r I.hok eb) dd fun h' dd' hs=>h _ ?_
  obtain ⟨q,es,ep,hq,h2,h3,h4,_,h5⟩:=dd'
  refine p_b I (by rw [e];exact True.intro) hs ⟨q,hq⟩ ⟨hl,hd,_,(rel.put k eb rv).keeps fun c ys ec=>?_,q,es,ep,hq,h2,h3,h4,h5⟩
  rw [z_n (ne_of ec e (fun z=>nomatch z))]
  exact ec
end
def NoSl(i:Expr):Prop:=∀ ov iv,subscripted i false ov iv=operate [ov,iv] (getItem ov iv)
theorem subD_of{prog:Program}{w:World}{A:Around}{E:Value->Shared->Prop}{s:Shared}{env:Env}{value slice:Expr}{pos:Pos}{T id:String}{Q:Value->Shared->Prop}
  (hl:typeLookup (.type T) "__getitem__" = pure (some (.builtin id))) (hs:NoSl slice)
  (h:wpAny (model prog w) A (eval value env) (fun o s₁=>wpAny (model prog w) A (eval slice env) (fun i s₂=>s₂.TypeIs o T/\wpAny (model prog w) A (getItem o i) Q E s₂) E s₁) E s) :
  wpAny (model prog w) A (eval (.Subscript value slice pos) env) Q E s:=by
 refine Subscript_ (wpAny_mono h (fun o s₁ h₁=>wpAny_mono h₁ (fun i s₂ h₂=>?_) fun _ _ x=>x) fun _ _ x=>x)
 obtain ⟨hT,h₂⟩:=h₂
 unfold subscriptTail
 refine wpAny_bind ?_
 rw [getitemInPython_of_ne hT.not_modules]
 refine wpAny_bind (wpAny_specialOf hT hl ?_)
 have fin:wpAny (model prog w) A (subscripted slice false o i) (fun r s₃=>wpAny (model prog w) A (letTemporaryGo value o r >>= fun _=>pure r) Q E s₃) E s₂:=by
  rw [hs o i]
  exact wpAny_operating (wpAny_mono h₂ (fun r s₃ h₃=>wpAny_bind (wpAny_letTemporaryGo (wpAny_pure h₃))) fun _ _ x=>x)
 first
  | exact wpAny_pure (wpAny_bind fin)
  | exact wpAny_bind (wpAny_pure (wpAny_bind fin))
  | exact wpAny_bind fin
theorem p_c{X:Cx}{pins:List (Addr×Obj)}{σ:St}{H:Hp}{s:Shared}{a:Addr}{y:V}{o:Option V}(I:Inv X pins σ H s)(g:DGet H a y o):s.TypeIs (.ref a) "dict" := by
 rcases g with ⟨kvs,k,e,_,_⟩ | ⟨kvs,k,b,e,_,_,_⟩
 ·obtain ⟨_,_,vs,_,dd⟩:=p_d I.hok e
  exact dd.typeIs
 ·obtain ⟨_,_,xs,_,dd⟩:=p_e I.hok e
  exact dd.typeIs
def tDGet(td ty:TE):TE:=fun σ H Q=>td σ H fun x H1=>ty σ H1 fun y H2=>∃ a v,x = .ref a/\DGet H2 a y (some v)/\Q v H2
def tDIn(ty td:TE):TE:=fun σ H Q=>ty σ H fun y H1=>td σ H1 fun x H2=>∃ a o,x = .ref a/\DGet H2 a y o/\Q (.bl o.isSome) H2
def sDPut(td ty tv:TE):TS:=fun D σ H=>tv σ H fun v H1=>td σ H1 fun x H2=>ty σ H2 fun y H3=>∃ a H4,x = .ref a/\DPut H3 a y v H4/\D.nx σ H4
section
variable {X:Cx} {o i e value:Expr} {pos pos' tpos:Pos} {td ty tv:TE}
theorem p_m(hu:X.A.units+1<cLine)(ho:PE X o td)(hi:PE X i ty)(hs:NoSl i):PE X (.Subscript o i pos) (tDGet td ty):=by
 intro pins s σ H Q I h
 refine subD_of PySem.F.slot_dict_getitem.lookup hs (thn (ho pins s σ H _ I h) fun u s1 ⟨x,H1,I1,rx,q1⟩=>thn (hi pins s1 σ H1 _ I1 q1) fun iv s2 ⟨y,H2,I2,ry,a,v,ex,g,q2⟩=>?_)
 subst ex
 obtain rfl:u=Value.ref a:=rx
 exact ⟨p_c I2 g,m_x hu I2 g ry fun w' s3 I3 rw'=>⟨v,H2,I3,rw',q2⟩⟩
theorem pc_din(hu:X.A.units+1<cLine)(hi:PE X i ty)(ho:PE X o td):PC X .In i o (tDIn ty td):=by
 intro pins s σ H Q I h
 refine thn (hi pins s σ H _ I h) fun iv s1 ⟨y,H1,I1,ry,q1⟩=>thn (ho pins s1 σ H1 _ I1 q1) fun u s2 ⟨x,H2,I2,rx,a,ov,ex,g,q2⟩=>?_
 subst ex
 obtain rfl:u=Value.ref a:=rx
 exact d_in hu I2 g ry fun s3 I3=>⟨.bl ov.isSome,H2,I3,rfl,q2⟩
theorem s_x(hu:X.A.units+1<cLine)(ho:PE X o td)(hi:PE X i ty)(hv:PE X value tv)(hs:swapsWith value (some (.Subscript o i pos')) pos.line X.env=pure false) :
  PS X (.Assign [.Subscript o i pos'] value pos) (sDPut td ty tv):=by
 intro pins s σ H D I h
 refine wpAny_Assign_Subscript (thn (hv pins s σ H _ I h) fun r s1 ⟨v,H1,I1,rv,q1⟩=>thn (ho pins s1 σ H1 _ I1 q1) fun u s2 ⟨x,H2,I2,rx,q2⟩=>thn (hi pins s2 σ H2 _ I2 q2) fun iv s3 ⟨y,H3,I3,ry,a,H4,ex,g,q3⟩=>?_) hs
 subst ex
 obtain rfl:u=Value.ref a:=rx
 exact m_y hu I3 g ry rv fun s4 I4=>⟨σ,H4,I4,q3⟩
end
theorem o_b{P:Program}{w:World}{H:Hp}(h:Heap)(hb:sysModules<h.objs.size):ObjOk P w H (h.push { cls:=.type "dict",data:=.dict #[] }) h.objs.size (.dK []) :=
 ⟨Nat.zero_le _,beq_eq_false_iff_ne.mpr (Ne.symm (Nat.ne_of_lt hb)),[],.nil,Heap.DictOf.new h⟩
def tDNewK:TE:=fun _ H Q=>∀ p,H p=none->Q (.ref p) (upd H p (.dK []))
section
variable {X:Cx} {pos:Pos}
theorem pe_dnewK:PE X (.Dict [] [] pos) tDNewK:=fun pins s σ H Q I h =>
 wpAny_Dict_empty ⟨.ref s.heap.objs.size,_,I.laid (a:=s.heap.objs.size) (o:=.dK []) (t':=s.toks) (fun _ _ q=>Heap.get?_push_of_some _ q) (Nat.le_refl _) (o_b s.heap I.big),rfl,h _ (I.hok.fresh (Nat.le_refl _))⟩
end
def tPairs:List (TE×TE)->St->Hp->(List (V×V)->Hp->Prop)->Prop
 | [],_,H,Q=>Q [] H
 | (tk,tv)::r,σ,H,Q=>tk σ H fun x H1=>tv σ H1 fun y H2=>tPairs r σ H2 fun ps H3=>Q ((x,y)::ps) H3
abbrev VV:List (V×V)->List (Value×Value)->Prop:=Paired fun p q=>RelV p.1 q.1/\RelV p.2 q.2
def PPs(X:Cx)(pos:Pos)(keys:List (Option Expr))(values:List Expr)(trs:List (TE×TE)):Prop :=
 ∀ (pins:List (Addr×Obj)) (s:Shared) (σ:St) (H:Hp) (Q:List (V×V)->Hp->Prop),Inv X pins σ H s->tPairs trs σ H Q ->
  wpAny (model X.prog X.w) X.A (evalPairs (pairTrees keys values X.env pos)) (fun vs s'=>∃ ps H',Inv X pins σ H' s'/\VV ps vs/\Q ps H') X.xe s
theorem k_s{X:Cx}{pos:Pos}:PPs X pos [] [] []:=fun pins s σ H Q I h=>pairTrees_nil_walk ⟨[],H,I,.nil,h⟩
theorem u_g{X:Cx}{pos:Pos}{k v:Expr}{ks:List (Option Expr)}{vs:List Expr}{tk tv:TE}{trs:List (TE×TE)}(hk:PE X k tk)(hv:PE X v tv)(hr:PPs X pos ks vs trs) :
  PPs X pos (some k::ks) (v::vs) ((tk,tv)::trs):=fun pins s σ H Q I h =>
 pairTrees_cons_walk (thn (hk pins s σ H _ I h) fun u s1 ⟨x,H1,I1,rx,q1⟩=>thn (hv pins s1 σ H1 _ I1 q1) fun w2 s2 ⟨y,H2,I2,ry,q2⟩ =>
  thn (hr pins s2 σ H2 _ I2 q2) fun ws s3 ⟨ps,H3,I3,rel,q3⟩=>⟨(x,y)::ps,H3,I3,.cons ⟨rx,ry⟩ rel,q3⟩)
def mergeK(kvs more:List (Key×V)):List (Key×V):=more.foldl (fun acc kv=>putK acc kv.1 kv.2) kvs
theorem KV.merge:∀ {more:List (Key×V)} {rs:List (Key×Value)} {kvs:List (Key×V)} {vs:List (Key×Value)},KV more rs->KV kvs vs->KV (mergeK kvs more) (merged vs rs):=by
 intro more rs kvs vs r
 unfold KV at r
 induction r generalizing kvs vs with
 | nil=>intro q;exact q
 | @cons p q ps qs h t ih =>
  intro r0
  have e:KV (putK kvs p.1 p.2) (stored vs q.1 q.2):=by
   have:=r0.put p.1 h.2
   rw [<-h.1];exact this
  exact ih e
theorem v_h:∀ (more kvs:List (Key×V)),(mergeK kvs more).length<=kvs.length+more.length
 | [],kvs=>by show kvs.length<=kvs.length+0;lia
 | p::r,kvs=>by
  have h1:=v_h r (putK kvs p.1 p.2)
  have h2:=y_m kvs p.1 p.2
  show (mergeK (putK kvs p.1 p.2) r).length<=_
  rw [List.length_cons];lia
theorem t_n{P:Program}{w:World}:∀ {kvs:List (Key×V)} {ws:List (Value×Value)},VV (kvs.map fun kv=>(kV kv.1,kv.2)) ws->∃ rs,Carries (mixKind P w) ws rs/\KV kvs rs
 | [],_,r=>by rw [List.map_nil] at r;cases r;exact ⟨[],True.intro,.nil⟩
 | p::kvs,_,r=>by
  rw [List.map_cons] at r
  cases r with
  | @cons a b as bs h t =>
   obtain ⟨rs,c,q⟩:=t_n (P:=P) (w:=w) t
   obtain ⟨b1,b2⟩:=b
   exact ⟨(p.1,b2)::rs,⟨u_q h.1,rfl,c⟩,.cons ⟨rfl,h.2⟩ q⟩
def tDisp(trs:List (TE×TE)):TE:=fun σ H Q=>∀ p,H p=none->tPairs trs σ (upd H p (.dK [])) fun ps H2=>H2 p=some (.dK [])/\∃ kvs:List (Key×V),ps=kvs.map (fun kv=>(kV kv.1,kv.2))/\kvs.length<=15/\Q (.ref p) (upd H2 p (.dK (mergeK [] kvs)))
theorem k_l{X:Cx}{pos:Pos}{keys:List (Option Expr)}{values:List Expr}{trs:List (TE×TE)}(h:PPs X pos keys values trs)(hall:keys.all (·.isSome)=true)(hl:keys.length=values.length)(h0:keys≠[])
  (h15:keys.length<=15):PE X (.Dict keys values pos) (tDisp trs):=by
 intro pins s σ H Q I q
 have hn:=I.hok.fresh (Nat.le_refl s.heap.objs.size)
 have I1:=I.laid (a:=s.heap.objs.size) (o:=.dK []) (h':=s.heap.push { cls:=.type "dict",data:=.dict #[] }) (t':=s.toks) (fun _ _ q=>Heap.get?_push_of_some _ q) (Nat.le_refl _) (o_b s.heap I.big)
 refine wpAny_Dict_walk (knd:=mixKind X.prog X.w) hall hl h0 h15 (thn (h pins _ σ _ _ I1 (q _ hn)) fun ws s2 ⟨ps,H2,I2,rel,e,kvs,ep,lk,q2⟩=>?_)
 subst ep
 obtain ⟨rs,c,rk⟩:=t_n (P:=X.prog) (w:=X.w) rel
 obtain ⟨z,hd,vs0,r0,dd⟩:=dk_of I2.hok e
 cases r0
 refine ⟨rs,c,dd,fun h' dd' hs=>⟨.ref s.heap.objs.size,_,?_,rfl,q2⟩⟩
 have hz:(mergeK [] kvs).length<=sizeLine:=by
  have h1:=v_h kvs []
  rw [List.length_nil] at h1
  rw [sizeLine_eq];lia
 have he:∃ q,h'.get? s.heap.objs.size=some q:=let ⟨q,_,_,hq,_⟩:=dd';⟨q,hq⟩
 exact p_b I2 (by rw [e];exact True.intro) hs he (dk_new hz hd (rk.merge .nil) dd')
structure M1(X:Cx)(o:Expr)(m:Str)(apos:Pos)(e:Expr)(cpos:Pos):Prop where
 base:attributeBase o m X.env (eval o X.env)=eval o X.env
 few:((backTo cpos (starEach [e] X.env)).all (fun x=>!x.1)&&(backToKw cpos (keywordEach [] X.env)).all (fun x=>x.1.isSome)
  && decide (([e]:List Expr).length+([]:List Keyword).length+(if ([]:List Keyword).isEmpty then 0 else 1)<30))=true
 line:(apos.endLine == cpos.line)=true
 trees:backTo cpos (starEach [e] X.env)=[(false,eval e X.env)]
structure M2(X:Cx)(o:Expr)(m:Str)(apos:Pos)(e f:Expr)(cpos:Pos):Prop where
 base:attributeBase o m X.env (eval o X.env)=eval o X.env
 few:((backTo cpos (starEach [e,f] X.env)).all (fun x=>!x.1)&&(backToKw cpos (keywordEach [] X.env)).all (fun x=>x.1.isSome)
  && decide (([e,f]:List Expr).length+([]:List Keyword).length+(if ([]:List Keyword).isEmpty then 0 else 1)<30))=true
 line:(apos.endLine == cpos.line)=true
 trees:backTo cpos (starEach [e,f] X.env)=[(false,eval e X.env),(false,eval f X.env)]
def IsD(H:Hp)(a:Addr):Prop:=(∃ kvs,Rd H a (.dK kvs))\/∃ kvs,Rd H a (.dT kvs)
theorem isD_at{X:Cx}{pins:List (Addr×Obj)}{σ:St}{H:Hp}{s:Shared}{a:Addr}(I:Inv X pins σ H s)(d:IsD H a) :
  s.TypeIs (.ref a) "dict" /\ (∀ b,Value.ref a = .ref b->∃ ob,s.heap.get? b=some ob/\ob.dict=none)/\(a == sysModules)=false:=by
 rcases d with ⟨kvs,e⟩ | ⟨kvs,e⟩
 ·obtain ⟨_,hd,vs,_,dd⟩:=p_d I.hok e
  refine ⟨dd.typeIs,fun b q=>?_,hd⟩
  cases q
  obtain ⟨ob,_,_,h1,h2,_⟩:=dd
  exact ⟨ob,h1,h2.2.1⟩
 ·obtain ⟨_,hd,xs,_,dd⟩:=p_e I.hok e
  refine ⟨dd.typeIs,fun b q=>?_,hd⟩
  cases q
  obtain ⟨ob,_,_,h1,h2,_⟩:=dd
  exact ⟨ob,h1,h2.2.1⟩
section
variable {X:Cx} {pins:List (Addr×Obj)} {σ:St} {H:Hp} {s:Shared} {a:Addr} {y d:V} {u r:Value} {o:Option V} {A:Around} {E:Value->Shared->Prop}
theorem d_get1{Q:Value->Shared->Prop}(hu:A.units+1<cLine)(I:Inv X pins σ H s)(g:DGet H a y o)(ry:RelV y u)(h:∀ w' s',Inv X pins σ H s'->RelV (o.getD .non) w'->Q w' s') :
  wpAny (model X.prog X.w) A (call (.builtin "dict.get") [.ref a,u]) Q E s:=by
 rcases g with ⟨kvs,k,e,ey,l⟩ | ⟨kvs,k,b,e,ey,eb,l⟩
 ·subst ey
  obtain ⟨z,hd,vs,rel,dd⟩:=p_d I.hok e
  refine call_meetsIn PySem.F.slot_dict_get dd.typeIs PySem.F.entry_dict_get (PySem.F.args_dict_get_2 _ _) (meets_dict_get (mixKind X.prog X.w) a (u_q ry) hd) ⟨_,dd.mapOf,h _ _ (I.tok _) ?_⟩
  rw [l]
  exact (rel.val k).getD rfl
 ·subst ey
  cases (show u=Value.ref b from ry)
  obtain ⟨z,hd,xs,rel,dd⟩:=p_e I.hok e
  refine call_meetsIn PySem.F.slot_dict_get dd.typeIs PySem.F.entry_dict_get (PySem.F.args_dict_get_2 _ _) (meetsH_dict_get (tupleKind (mixKind X.prog X.w)) a b hd) ⟨tupleKind_room_in1 hu,k,xs,t_r I.hok eb,dd,h _ _ (I.tok _) ?_⟩
  rw [l]
  exact (rel.val k).getD rfl
theorem d_get2{Q:Value->Shared->Prop}(hu:A.units+1<cLine)(I:Inv X pins σ H s)(g:DGet H a y o)(ry:RelV y u)(rd:RelV d r)(h:∀ w' s',Inv X pins σ H s'->RelV (o.getD d) w'->Q w' s') :
  wpAny (model X.prog X.w) A (call (.builtin "dict.get") [.ref a,u,r]) Q E s:=by
 rcases g with ⟨kvs,k,e,ey,l⟩ | ⟨kvs,k,b,e,ey,eb,l⟩
 ·subst ey
  obtain ⟨z,hd,vs,rel,dd⟩:=p_d I.hok e
  refine call_meetsIn PySem.F.slot_dict_get dd.typeIs PySem.F.entry_dict_get (PySem.F.args_dict_get_3 _ _ _) (meets_dict_get_default (mixKind X.prog X.w) a (u_q ry) hd r) ⟨_,dd.mapOf,h _ _ (I.tok _) ?_⟩
  rw [l]
  exact (rel.val k).getD rd
 ·subst ey
  cases (show u=Value.ref b from ry)
  obtain ⟨z,hd,xs,rel,dd⟩:=p_e I.hok e
  refine call_meetsIn PySem.F.slot_dict_get dd.typeIs PySem.F.entry_dict_get (PySem.F.args_dict_get_3 _ _ _) (meetsH_dict_get_default (tupleKind (mixKind X.prog X.w)) a b hd r) ⟨tupleKind_room_in1 hu,k,xs,t_r I.hok eb,dd,h _ _ (I.tok _) ?_⟩
  rw [l]
  exact (rel.val k).getD rd
end
def tDGet1(td ty:TE):TE:=fun σ H Q=>td σ H fun x H1=>∃ a,x = .ref a/\IsD H1 a/\ty σ H1 fun y H2=>∃ o,DGet H2 a y o/\Q (o.getD .non) H2
def tDGet2(td ty tx:TE):TE:=fun σ H Q=>td σ H fun x H1=>∃ a,x = .ref a/\IsD H1 a/\ty σ H1 fun y H2=>tx σ H2 fun z H3=>∃ o,DGet H3 a y o/\Q (o.getD z) H3
section
variable {X:Cx} {o e f:Expr} {apos cpos:Pos} {td ty tx:TE}
theorem pe_dget1(hu:X.A.units+1<cLine)(ho:PE X o td)(he:PE X e ty)(m:M1 X o "get" apos e cpos):PE X (.Call (.Attribute o "get" apos) [e] [] cpos) (tDGet1 td ty):=by
 intro pins s σ H Q I h
 refine wpAny_Call_method m.base m.few m.line PySem.F.plainAttrs_dict PySem.F.slot_dict_get PySem.F.type_dict_get (thn (ho pins s σ H _ I h) fun u s1 ⟨x,H1,I1,rx,a,ex,d,q1⟩=>?_)
 subst ex
 obtain rfl:u=Value.ref a:=rx
 obtain ⟨t1,t2,_⟩:=isD_at I1 d
 refine ⟨t1,t2,?_⟩
 rw [m.trees]
 refine Calls.callWith_builtin rfl (Calls.evalArgs_plain (Calls.spliced_cons (thn (he pins s1 σ H1 _ I1 q1) fun iv s2 ⟨y,H2,I2,ry,ov,g,q2⟩=>Calls.spliced_nil ?_)))
 exact d_get1 hu I2 g ry fun w' s3 I3 rw'=>⟨_,H2,I3,rw',q2⟩
theorem pe_dget2(hu:X.A.units+1<cLine)(ho:PE X o td)(he:PE X e ty)(hf:PE X f tx)(m:M2 X o "get" apos e f cpos):PE X (.Call (.Attribute o "get" apos) [e,f] [] cpos) (tDGet2 td ty tx):=by
 intro pins s σ H Q I h
 refine wpAny_Call_method m.base m.few m.line PySem.F.plainAttrs_dict PySem.F.slot_dict_get PySem.F.type_dict_get (thn (ho pins s σ H _ I h) fun u s1 ⟨x,H1,I1,rx,a,ex,d,q1⟩=>?_)
 subst ex
 obtain rfl:u=Value.ref a:=rx
 obtain ⟨t1,t2,_⟩:=isD_at I1 d
 refine ⟨t1,t2,?_⟩
 rw [m.trees]
 refine Calls.callWith_builtin rfl (Calls.evalArgs_plain (Calls.spliced_cons (thn (he pins s1 σ H1 _ I1 q1) fun iv s2 ⟨y,H2,I2,ry,q2⟩ =>
  Calls.spliced_cons (thn (hf pins s2 σ H2 _ I2 q2) fun fv s3 ⟨z,H3,I3,rz,ov,g,q3⟩=>Calls.spliced_nil ?_))))
 exact d_get2 hu I3 g ry rz fun w' s4 I4 rw'=>⟨_,H3,I4,rw',q3⟩
end
end L2
namespace Att
open PySem PySem.W PySem.Calls PyProof.Rows
theorem u_p{P:Params}{h:Heap}:∀ (ns:List Int) (vs:List Value),WellAll P h vs (ns.map WData.int)->IntsAre vs ns:=by
 intro ns
 induction ns with
 | nil =>
  intro vs w
  rw [List.map_nil] at w
  cases w
  exact .nil
 | cons n ns ih =>
  intro vs w
  rw [List.map_cons] at w
  cases w with
  | cons a b =>
   cases a
   exact .cons _ _ (ih _ b)
theorem k_z{l:OpenLaw}{n:Nat}(hn:l.most=some n){P:Params}{h:Heap}{args:List WData}{vals:List Value}
  (hpre:l.row.toRowW.claim.pre args=true) (hwl:WellAll P h vals args) :
  ∃ a vs ns,vals=[Value.ref a]/\args=[WData.list (ns.map WData.int)]/\h.get? a=some { cls:=.type "list",data:=.seq vs.toArray }/\IntsAre vs ns/\ns.length<=n:=by
 have hsh:WShape.hasAll [] args [.list .int]=true:=(pre_splitW hpre).1
 have hc:l.pre.holds [] { args:=args }=true:=(pre_splitW hpre).2
 obtain ⟨d,r,rfl,h1,h2⟩:=hasAllW_cons hsh
 obtain rfl:=hasAllW_nil h2
 obtain ⟨xs,rfl,h3⟩:=hasW_list h1
 obtain ⟨ns,rfl⟩:=items_int h3
 have hlen:ns.length<=n:=by
  unfold OpenLaw.pre at hc
  have h4:(WTm.not (.lt (.lit (.int (n:Int))) (.len (.arg 0)))).holds [] { args:=[.list (ns.map .int)] }=true:=by
   have h4:=(holds_andW hc).1
   rw [hn] at h4
   exact h4
  have h5:=condW_of h4 (w_not (w_lt w_lit (w_len_list (w_arg rfl))))
  rw [List.length_map] at h5
  refine Nat.le_of_not_lt fun q=>?_
  have q':(n:Int)<((ns.length:Nat):Int):=by lia
  first
   | (rw [decide_eq_true q'] at h5;exact absurd h5 (by decide))
   | (simp at h5;lia)
 cases hwl with
 | cons w1 w2 =>
  cases w2
  cases w1 with
  | list ho hall=>exact ⟨_,_,ns,rfl,rfl,ho,u_p ns _ hall,hlen⟩
theorem k_r(l:OpenLaw)(args:List WData):l.row.toRowW.claim.post args (.bool true) args=true :=
 postW_of (r:=l.row.toRowW) (X:=(true == true))
  (show WShape.has [] (.bool true) .bool=true by first | rfl | decide | simp [WShape.has,WShape.arms,WShape.armsAll])
  (show (WTm.eq .res (.lit (.bool true))).value [] { args:=args,res:=some (.bool true),after:=args }=some (.bool (true == true)) from w_eq_bool (w_res rfl) w_lit) rfl
theorem attach_call{l:OpenLaw}{n:Nat}{q:Program}{loose:List Str}{XP:(Str->Option Value)->Heap->Prop}{YP:World->Heap->Prop}{d:DefRec}
  (hn:l.most=some n) (hdf:d.params.defaults=[])
  (call:∀ (w:World) (s₀ s₁:Shared) (mg mb:Str->Option Value) (fa:Addr) (o:Obj) (pm cd doc:Value) (a:Addr) (vs:List Value) (ns:List Int),
   Ground q loose [] XP w s₀ mg mb s₁.heap->YP w s₁.heap ->
   s₁.heap.get? fa=some o->o.data = .func (docDef d.name d.params d.body d.scope pm cd doc)->s₁.heap.CodeRec cd d.name->mg d.name=some (.ref fa) ->
   s₁.heap.get? a=some { cls:=.type "list",data:=.seq vs.toArray }->IntsAre vs ns->ns.length<=n->s₁.gens = #[] ->
   codeAny (model l.prog w) callerA (.call (.ref fa) ⟨[.ref a],[]⟩) (fun r s'=>r = .ok (.ret (.bool true))/\OldK s₁.heap s'.heap/\s'.os=s₁.os/\AllBare s'.gens) s₁) :
  WalkO q loose XP YP l.row.toRowW d [] (fun f vs=>PySem.call f vs):=by
 intro w s₀ s₁ mg mb G Y fa o pm cd doc dV kV ho hd hcd hD hmg hg args vals as hpre hlay hrd hwl hlo
 obtain rfl:dV = .none:=Dflts.none hD hdf
 obtain rfl:kV = .none:=Dflts.noKw hD
 obtain ⟨a,vs,ns,rfl,rfl,hobj,hints,hlen⟩:=k_z hn hpre hwl
 refine enter_call (codeAny_mono (call w s₀ s₁ mg mb fa o pm cd doc a vs ns G Y ho (fd_plain hd) hcd hmg hobj hints hlen hg) fun r s' hq=>?_)
 obtain ⟨rfl,h2,h3,h4⟩:=hq
 exact ⟨.inl ⟨.bool true,.bool true,[],rfl,fun _=>rfl,.bool true,k_r l _,fun _=>⟨List.Pairwise.nil,fun _ hm=>(nomatch hm)⟩⟩,h2,h3,h4⟩
end Att
namespace L2
open PySem PySem.Spec PyProof.Rows
theorem v_o:∀ {vs:List Value} {ns:List Int},IntsAre vs ns->Vals (ns.map V.int) vs
 | _,_,.nil=>.nil
 | _,_,.cons n t h=>.cons ⟨t,rfl⟩ (v_o h)
def inClass(s:Stmt)(j:Nat):Stmt:=match s with
 | .ClassDef _ _ _ body _ _ _ _ _ _ _=>body.getD j (.Pass ⟨0,0,0,0⟩)
 | _=>.Pass ⟨0,0,0,0⟩
def x_x(s:Stmt):Arguments:=match s with
 | .FunctionDef _ a _ _ _ _ _ _ _ _=>a
 | _=>{ posonlyargs:=[],args:=[],vararg:=none,kwonlyargs:=[],kw_defaults:=[],kwarg:=none,defaults:=[] }
def x_i(s:Stmt):List Stmt:=match s with
 | .FunctionDef _ _ b _ _ _ _ _ _ _=>b
 | _=>[]
def z_p(s:Stmt):Scope:=match s with
 | .FunctionDef _ _ _ _ _ _ sc _ _ _=>sc
 | _=>{ kind:=.function,names:=[],isGenerator:=false,isCoroutine:=false }
abbrev CX0:CXT:=fun _ _ _ _ _ _=>False
abbrev E0:XK:=fun _ _ _=>False
theorem pass0{X:Cx}:Passes CX0 X E0:=fun _ _ _ _ _ _ _ h=>h.elim
structure Fun(K:PySem.W.Frag)(x qual:Str)(st:Stmt)(f:Addr)(fd:FuncData):Prop where
 ex:∃ (oc:Value) (od:Option Addr) (kV doc pm:Value) (an:Option Addr) (cdv ct:Value) (osl:Array (Option Value)),
  fd=fnOf x qual (x_x st) (x_i st) (z_p st) .none kV doc pm an cdv ct/\K.lookup f=some ⟨oc,od,.func fd,osl⟩/\codeIn K cdv qual=true
 kp:keepIn K (.ref f)=true
section
variable {P:Program} {w:World} {K:PySem.W.Frag} {mg:Str->Option Value} {base:Heap}
theorem Fun.ok{x qual:Str}{st:Stmt}{f:Addr}{fd:FuncData}{N ps:List Str}{k:Nat}{sp:Sp}(F:Fun K x qual st f fd)(S:FnScope N ps (z_p st))(len:∀ vs H Q E,sp vs H Q E->vs.length=ps.length)
  (hbody:∀ (cdv:Value) (A:Around) (outer:List Env) (s:Shared) (H:Hp) (vs:List V) (Q:VK) (E:XK),Room k (A.deeper (envOfC qual (z_p st) s.heap.objs.size f cdv))->sp vs H Q E ->
   ∃ t,PSs (cxOf CX0 P w K mg base N qual (z_p st) f cdv A outer s H E).nox (x_i st) t/\t { nx:=fun _ H'=>Q .non H',rt:=Q } (start N vs) H):FnOk P w K mg base CX0 (k+1) f fd ps sp:=by
 obtain ⟨oc,od,kV,doc,pm,an,cdv,ct,osl,rfl,lk,hcd⟩:=F.ex
 refine fn_of lk hcd S len fun A outer s H vs Q E hr hsp=>?_
 obtain ⟨t,h,q⟩:=hbody cdv A outer s H vs Q E hr hsp
 exact ⟨t,h.nox,q⟩
theorem Fun.binds{x qual:Str}{st:Stmt}{f:Addr}{fd:FuncData}{ps:List Str}(F:Fun K x qual st f fd)
  (h:∀ (kV doc pm:Value) (an:Option Addr) (cdv ct:Value) (us:List Value),us.length=ps.length->bindArgs (fnOf x qual (x_x st) (x_i st) (z_p st) .none kV doc pm an cdv ct) ⟨us,[]⟩=pure (ps.zip us)):Binds K fd ps []:=by
 obtain ⟨oc,od,kV,doc,pm,an,cdv,ct,osl,rfl,lk,hcd⟩:=F.ex
 exact .all (h kV doc pm an cdv ct)
theorem fun_mk{x qual:Str}{st:Stmt}{f:Addr}{oc:Value}{od an:Option Addr}{osl:Array (Option Value)}{kV doc pm cdv ct:Value}(l:K.lookup f=some ⟨oc,od,.func (fnOf x qual (x_x st) (x_i st) (z_p st) .none kV doc pm an cdv ct),osl⟩)
  (c:codeIn K cdv qual=true) (k:keepIn K (.ref f)=true):Fun K x qual st f (fnOf x qual (x_x st) (x_i st) (z_p st) .none kV doc pm an cdv ct):=⟨⟨oc,od,kV,doc,pm,an,cdv,ct,osl,rfl,l,c⟩,k⟩
end
theorem hu_of{A:Around}{k:Nat}(hr:Room k A):A.units+1<cLine:=Nat.lt_of_le_of_lt (Nat.add_le_add_left (by decide:1<=64) _) hr.units
section
variable {X:Cx}
theorem pv(i:Nat){x:Str}{pos:Pos}(hN:X.N[i]? = some x:=by rfl)(hv:Vis X.env.scope x:=by first | exact Or.inl rfl | exact Or.inr (Or.inl rfl) | exact Or.inr (Or.inr rfl))(hd:(x == ("__debug__" : Str))=false:=by decide)
  (hcd:(x == ("__classdict__" : Str))=false:=by decide):PE X (.Name x pos) (tVar i):=pe_var hN hv hd hcd
end
theorem iteF{A B:Prop}(h:B):if false=true then A else B:=by
 rw [if_neg Bool.false_ne_true]
 exact h
theorem iteT{A B:Prop}(h:A):if true=true then A else B:=by
 rw [if_pos rfl]
 exact h
theorem ite2{c A B:Prop}[Decidable c](h1:c->A)(h2:¬c->B):if c then A else B:=by
 by_cases h:c
 ·rw [if_pos h]
  exact h1 h
 ·rw [if_neg h]
  exact h2 h
def Same(H H':Hp):Prop:=∀ b o,H b=some o->H' b=some o
theorem Same.refl(H:Hp):Same H H:=fun _ _ h=>h
theorem Same.trans{H H1 H2:Hp}(a:Same H H1)(b:Same H1 H2):Same H H2:=fun c o h=>b c o (a c o h)
theorem Same.free{H H':Hp}(e:Same H H'){l:Addr}(h:H' l=Option.none):H l=Option.none:=by
 cases q:H l with
 | none=>rfl
 | some o =>
  rw [e l o q] at h
  cases h
theorem Same.seq{K:PySem.W.Frag}{H H':Hp}{a:Addr}{xs:List V}(e:Same H H')(h:SqL K H a xs):SqL K H' a xs:=by
 rcases h with (h | ⟨o,h⟩) | h
 ·exact .inl (.inl (e _ _ h))
 ·exact .inl (.inr ⟨o,e _ _ h⟩)
 ·exact .inr h
end L2
namespace L2
open PySem PySem.Spec PyProof.Rows
end L2
namespace L2
open PySem PySem.Spec PyProof.Rows
def clOf(env:Env):List (Str×NameKind)->List (Str×Addr)->List (Str×Addr)
 | [],acc=>acc
 | (n,k)::r,acc=>if (k == NameKind.free)=true then clOf env r ((n,(env.cells.lookup n).getD 0)::acc) else clOf env r acc
theorem x_a{env:Env}{x:Str}:∀ (l:List (Str×NameKind)) (acc:List (Str×Addr)),
  (clOf env l acc).lookup x=if (l.any fun p=>(p.1 == x)&&(p.2 == NameKind.free))=true then some ((env.cells.lookup x).getD 0) else acc.lookup x
 | [],acc=>by simp [clOf]
 | (n,k)::r,acc=>by
  unfold clOf
  by_cases hk:(k == NameKind.free)=true
  ·rw [if_pos hk,x_a r]
   by_cases hr:(r.any fun p=>(p.1 == x)&&(p.2 == NameKind.free))=true
   ·rw [if_pos hr,if_pos]
    rw [List.any_cons,hr,Bool.or_true]
   ·rw [if_neg hr]
    have hr':(r.any fun p=>(p.1 == x)&&(p.2 == NameKind.free))=false:=(Bool.not_eq_true _).mp hr
    rw [List.any_cons,hr',Bool.or_false,hk,Bool.and_true,List.lookup_cons]
    by_cases hn:n=x
    ·subst hn
     simp
    ·have h1:(n == x)=false:=by simpa using hn
     have h2:(x == n)=false:=by simpa using fun z=>hn (Eq.symm z)
     simp [h1,h2]
  ·rw [if_neg hk,x_a r]
   have hk':(k == NameKind.free)=false:=by simpa using hk
   rw [List.any_cons,hk',Bool.and_false,Bool.false_or]
theorem v_t{env:Env}{scope:Scope}(h:∀ n k,(n,k)∈scope.names->(k == NameKind.free)=true->(env.cells.lookup n).isSome=true):closureFor scope env=pure (clOf env scope.names []):=by
 have go:∀ (l:List (Str×NameKind)) (acc:List (Str×Addr)),(∀ n k,(n,k)∈l->(k == NameKind.free)=true->(env.cells.lookup n).isSome=true) ->
   (forIn l acc (fun (x:Str×NameKind) (r:List (Str×Addr))=>match x with
    | (name,kind)=>if (kind == NameKind.free)=true then (do let a <-cellOf env name;pure (ForInStep.yield ((name,a)::r))) else pure (ForInStep.yield r)):Sem (List (Str×Addr)))=pure (clOf env l acc):=by
  intro l
  induction l with
  | nil=>intro acc _;rfl
  | cons p r ih =>
   intro acc hp
   obtain ⟨n,k⟩:=p
   rw [List.forIn_cons]
   unfold clOf
   by_cases hk:(k == NameKind.free)=true
   ·obtain ⟨c,hc⟩:=Option.isSome_iff_exists.mp (hp n k List.mem_cons_self hk)
    have hc1:cellOf env n=pure c:=by simp only [cellOf,hc]
    simp only [hk,if_true,hc1,hc,Option.getD_some]
    have:=ih ((n,c)::acc) (fun n' k' h'=>hp n' k' (List.mem_cons_of_mem _ h'))
    simpa using this
   ·simp only [hk,if_false]
    have:=ih acc (fun n' k' h'=>hp n' k' (List.mem_cons_of_mem _ h'))
    simpa using this
 have:=go scope.names [] h
 simp only [closureFor]
 simpa using this
def compOk(sc out:Scope)(xs:List Str)(cs:List Str):Bool :=
 (sc.kind == .function)&&(out.kind == .function)&&sc.names.all (fun p=>p.2 != NameKind.cell)&&sc.names.all (fun p=>p.2 != NameKind.local || sc.names.lookup p.1 == some .local)&&xs.all (fun x=>sc.names.lookup x == some .local)
  && sc.names.all (fun p=>p.2 != NameKind.free || out.names.lookup p.1 == some .cell)&&cs.all (fun c=>sc.names.lookup c == some .free)
structure CompOk(sc out:Scope)(xs:List Str)(cs:List Str):Prop where
 kind:sc.kind = .function
 okind:out.kind = .function
 cell:∀ y∈sc.names,y.2 ≠ .cell
 names:∀ y∈sc.names,y.2 = .local->sc.names.lookup y.1=some .local
 x:∀ x∈xs,sc.names.lookup x=some .local
 free:∀ n k,(n,k)∈sc.names->k = .free->out.names.lookup n=some .cell
 cs:∀ c∈cs,sc.names.lookup c=some .free
theorem compOk.mk{sc out:Scope}{xs:List Str}{cs:List Str}(h:compOk sc out xs cs=true):CompOk sc out xs cs:=by
 unfold compOk at h
 simp only [Bool.and_eq_true,List.all_eq_true,beq_iff_eq,bne_iff_ne,ne_eq,Bool.or_eq_true] at h
 obtain ⟨⟨⟨⟨⟨⟨h1,h2⟩,h3⟩,h4⟩,h5⟩,h6⟩,h7⟩:=h
 exact ⟨h1,h2,h3,fun y hy hl=>(h4 y hy).resolve_left fun z=>z hl,h5,fun n k hm hk=>(h6 (n,k) hm).resolve_left fun z=>z hk,h7⟩
theorem q_k{sc:Scope}{env:Env}{n:Str}(hk:env.scope.kind = .function)(hout:env.scope.names.lookup n=some .cell)(h:sc.names.lookup n=some .free):(relabel sc env).names.lookup n=some .cell:=by
 unfold relabel
 have go:∀ l:List (Str×NameKind),l.lookup n=some .free ->
   (l.map fun (p:Str×NameKind)=>if (p.2 == NameKind.free&&env.scope.kind == .function&&env.kindOf p.1 == some .cell)=true then (p.1,NameKind.cell) else (p.1,p.2)).lookup n=some .cell:=by
  intro l
  induction l with
  | nil=>intro h;simp at h
  | cons p r ih =>
   intro h
   obtain ⟨m,k⟩:=p
   rw [List.lookup_cons] at h
   cases hm:n == m with
   | true =>
    rw [hm] at h
    cases h
    have e:n=m:=by simpa using hm
    subst e
    have hko:env.kindOf n=some .cell:=hout
    rw [List.map_cons]
    simp [hk,hko]
   | false =>
    rw [hm] at h
    rw [List.map_cons]
    by_cases hc:(k == NameKind.free&&env.scope.kind == .function&&env.kindOf m == some .cell)=true
    ·rw [if_pos hc,List.lookup_cons,hm]
     exact ih h
    ·rw [if_neg hc,List.lookup_cons,hm]
     exact ih h
 exact go sc.names h
def cxComp(X:Cx)(xs:List Str)(capt:List Nat)(scope:Scope)(C:Addr)(s:Shared)(H:Hp)(ex:List Addr):Cx :=
 { X with N:=xs++capt.map (fun j=>X.N.getD j ""),s₀:=s,H₀:=H,env:=compEnvC scope (clOf X.env scope.names []) C X.env,outer:=X.stack,ex:=ex,fn:=fun _=>false,pn:=[] }
def PTs(X:Cx)(ifs:List Expr)(t:TT):Prop :=
 ∀ (pins:List (Addr×Obj)) (s:Shared) (σ:St) (H:Hp) (Q:Bool->Hp->Prop),Inv X pins σ H s->t σ H Q ->
  wpAny (model X.prog X.w) X.A (forIn ifs true fun c r=>if r=true then do let ok <-isTrue c X.env (eval c X.env);pure (ForInStep.yield ok) else pure (ForInStep.yield r)) (TP X pins σ Q) X.xe s
def tYes:TT:=fun _ H Q=>Q true H
theorem x_j{X:Cx}:PTs X [] tYes:=fun pins s σ H Q I h=>by
 show wpAny _ _ (pure true) _ _ _
 exact wpAny_pure ⟨H,I,h⟩
theorem pts_one{X:Cx}{c:Expr}{t:TT}(hc:PT X c t):PTs X [c] t:=fun pins s σ H Q I h=>by
 rw [List.forIn_cons]
 simp only [if_true]
 refine wpAny_bind (wpAny_bind (thn (hc pins s σ H Q I h) fun b s1 q=>?_))
 refine wpAny_pure ?_
 show wpAny _ _ (forIn [] b _) _ _ _
 exact wpAny_pure q
theorem r_o{prog:Program}{w:World}{A:Around}{R:Result->Shared->Prop}{s:Shared}{elt target iter:Expr}{ifs:List Expr}{scope:Scope}{pos:Pos}{it acc:Value}{env:Env}(I:Nat->Shared->Prop)
  (turn:∀ n s,I n s->wpAny (model prog w) A (pyNext it) (fun r s₁=>match r with
   | none=>R (.ok .next) s₁
   | some v=>wpAny (model prog w) A (letOwnedTupleGo target it v) (fun _ s₁'=>wpAny (model prog w) A (assign target env v) (fun _ s₂ =>
     wpAny (model prog w) A (forIn ifs true fun c r=>if r=true then do let ok <-isTrue c env (eval c env);pure (ForInStep.yield ok) else pure (ForInStep.yield r)) (fun ok s₃ =>
      if ok=true then wpAny (model prog w) A (eval elt env) (fun x s₄ =>
       wpAny (model prog w) A (call (.builtin "list.append") [acc,x]) (fun _ s₅=>∃ m,m<n/\I m s₅) (notedBy (model prog w) A env fun e s'=>R (.error e) s') s₄) (notedBy (model prog w) A env fun e s'=>R (.error e) s') s₃
      else ∃ m,m<n/\I m s₃) (notedBy (model prog w) A env fun e s'=>R (.error e) s') s₂) (notedBy (model prog w) A env fun e s'=>R (.error e) s') s₁') (notedBy (model prog w) A env fun e s'=>R (.error e) s') s₁) (notedBy (model prog w) A env fun e s'=>R (.error e) s') s)
  (n:Nat) (h:I n s):codeAny (model prog w) A (.compLoop (.ListComp elt [⟨target,iter,ifs,0⟩] scope pos) 0 it acc env) R s:=by
 refine codeAny_loop rfl I (fun n s hI=>?_) n h
 show wpAny _ A ((compTurn (.ListComp elt [⟨target,iter,ifs,0⟩] scope pos) 0 it acc env).onRaise (fun x=>do noteFrame x env;theTreesLotGoes x)) _ _ s
 refine wpAny_noted ?_
 rw [compTurn_list]
 refine wpAny_bind (wpAny_standAt (wpAny_bind (wpAny_mono (turn n s hI) (fun r s₁ h₁=>?_) fun _ _ h'=>h')))
 cases r with
 | none=>exact wpAny_pure h₁
 | some v =>
  refine wpAny_bind (wpAny_mono h₁ (fun _ s₁' h₁'=>?_) fun _ _ h'=>h')
  refine wpAny_bind (wpAny_mono h₁' (fun _ s₂ h₂=>wpAny_bind (wpAny_mono h₂ (fun ok s₃ h₃=>?_) fun _ _ h'=>h')) fun _ _ h'=>h')
  cases ok with
  | false=>exact wpAny_pure ⟨rfl,h₃⟩
  | true =>
   exact wpAny_bind (wpAny_bind (wpAny_mono h₃ (fun x s₄ h₄=>wpAny_bind (wpAny_mono h₄ (fun _ s₅ h₅=>wpAny_pure (wpAny_pure ⟨rfl,h₅⟩)) fun _ _ h'=>h')) fun _ _ h'=>h'))
section
variable {X:Cx} {pins:List (Addr×Obj)} {σ:St} {H H2:Hp} {s s2:Shared} {xs:List Str} {capt:List Nat} {scope:Scope} {fp:List Addr}
abbrev emptyL:Obj:={ cls:=.type "list",dict:=none,data:=.seq ([]:List Value).toArray }
theorem Inv.stk_lt(I:Inv X pins σ H s){b:Addr}(hb:s.heap.objs.size<=b):b∉frs X.stack:=fun z=>by
 rcases List.mem_cons.mp (I.stkSub b z) with e | e
 ·exact absurd (Nat.lt_of_lt_of_le I.lt hb) (by rw [e];exact Nat.lt_irrefl _)
 ·exact I.nofs hb e
theorem m_u(I:Inv X pins σ H2 s2)(ok:CompOk scope X.env.scope xs (capt.map fun j=>X.N.getD j ""))(hf:∀ b∈fp,FpOk X pins H2 b)(hfo:∀ b∈fp,∃ o,s2.heap.get? b=some o){HH:Heap}(eH:HH=s2.heap.push emptyL) :
  (cxComp X xs capt scope HH.objs.size { s2 with heap:=HH } H2 (s2.heap.objs.size::fp)).Ok:=by
 have hsz:HH.objs.size=s2.heap.objs.size+1:=by rw [eH,Heap.size_push]
 have look:∀ y c,(clOf X.env scope.names []).lookup y=some c->X.env.cells.lookup y=some c:=fun y c e=>by
  rw [x_a] at e
  split at e
  ·rename_i ha
   obtain ⟨p,hp,hq⟩:=List.any_eq_true.mp ha
   simp only [Bool.and_eq_true,beq_iff_eq] at hq
   obtain ⟨q1,q2⟩:=hq
   subst q1
   obtain ⟨c',hc'⟩:=I.ok.has p.1 (.inl (ok.free p.1 p.2 hp q2))
   rw [hc'] at e ⊢
   exact e
  ·cases e
 have keep:∀ b o,s2.heap.get? b=some o->HH.get? b=some o:=fun b o e=>by rw [eH];exact Heap.get?_push_of_some _ e
 refine ⟨I.ok.mod,ok.kind,I.ok.glob,I.ok.blt,Nat.le_refl _,fun y z c h1 h2=>I.ok.inj y z c (look y c h1) (look z c h2),fun y hy=>?_,(fun y c h _=>nomatch h),I.ok.hd,I.ok.frames,I.ok.gd,.inl rfl,fun b hb=>?_,fun b o e=>?_,?_,fun b o e hb=>?_,fun b hb=>?_,?_,fun b hb=>I.stkFree b hb⟩
 ·-- each cell's name has its cell
  have hy':(relabel scope X.env).names.lookup y=some .cell\/(relabel scope X.env).names.lookup y=some .free:=hy
  have inn:∀ (l:List (Str×NameKind)) (k:NameKind),(∀ p∈l,p.2 ≠ .cell)->(k = .cell\/k = .free) ->
    (l.map fun (p:Str×NameKind)=>if (p.2 == NameKind.free&&X.env.scope.kind == .function&&X.env.kindOf p.1 == some .cell)=true then (p.1,NameKind.cell) else (p.1,p.2)).lookup y=some k->∃ p∈l,p.1=y/\p.2 = .free:=by
   intro l k hnc hkk
   induction l with
   | nil=>intro h;simp at h
   | cons p r ih =>
    intro h
    obtain ⟨m,k'⟩:=p
    rw [List.map_cons] at h
    by_cases hc:(k' == NameKind.free&&X.env.scope.kind == .function&&X.env.kindOf m == some .cell)=true
    ·rw [if_pos hc,List.lookup_cons] at h
     have hfree:k' = .free:=by
      simp only [Bool.and_eq_true,beq_iff_eq] at hc
      exact hc.1.1
     cases hm:y == m with
     | true=>exact ⟨(m,k'),List.mem_cons_self,by simpa using Eq.symm (by simpa using hm),hfree⟩
     | false =>
      rw [hm] at h
      obtain ⟨p,hp,q⟩:=ih (fun p hp=>hnc p (List.mem_cons_of_mem _ hp)) h
      exact ⟨p,List.mem_cons_of_mem _ hp,q⟩
    ·rw [if_neg hc,List.lookup_cons] at h
     cases hm:y == m with
     | true =>
      rw [hm] at h
      cases h
      rcases hkk with z | z
      ·exact absurd z (hnc (m,k') List.mem_cons_self)
      ·exact ⟨(m,k'),List.mem_cons_self,by simpa using Eq.symm (by simpa using hm),z⟩
     | false =>
      rw [hm] at h
      obtain ⟨p,hp,q⟩:=ih (fun p hp=>hnc p (List.mem_cons_of_mem _ hp)) h
      exact ⟨p,List.mem_cons_of_mem _ hp,q⟩
  have hex:∃ p∈scope.names,p.1=y/\p.2 = .free:=by
   rcases hy' with h | h
   ·exact inn scope.names .cell ok.cell (.inl rfl) h
   ·exact inn scope.names .free ok.cell (.inr rfl) h
  obtain ⟨p,hp,q1,q2⟩:=hex
  refine ⟨_,(x_a (env:=X.env) scope.names []).trans (if_pos (List.any_eq_true.mpr ⟨p,hp,?_⟩))⟩
  simp [q1,q2]
 ·-- the records that turn are not the frame's
  rcases List.mem_cons.mp hb with z | z
  ·subst z
   refine ⟨Nat.ne_of_lt (show s2.heap.objs.size<HH.objs.size by lia),fun y c e q=>?_⟩
   obtain ⟨v,hv⟩:=I.cell y c (look y c e)
   have:=hv.lt
   rw [q] at this
   exact absurd this (Nat.lt_irrefl _)
  ·obtain ⟨o,ho⟩:=hfo b z
   exact ⟨Nat.ne_of_lt (Nat.lt_of_lt_of_le (Heap.lt_size ho) (show s2.heap.objs.size<=HH.objs.size by lia)),fun y c e=>(hf b z).2.2.2.2.1 y c (look y c e)⟩
 ·obtain ⟨h1,h2⟩:=I.bs b o e
  exact ⟨keep b o h1,h2⟩
 ·show X.base.objs.size<=HH.objs.size
  have h1:=I.ok.bsz
  have h2:=I.sz
  lia
 ·-- the base's objects do not turn
  have h0:=(I.bs b o e).1
  rcases List.mem_cons.mp hb with z | z
  ·subst z
   exact absurd (Heap.lt_size h0) (Nat.lt_irrefl _)
  ·rcases (hf b z).2.2.2.1 with q | q
   ·exact I.ok.noex b o e q
   ·have h1:=(I.ok.bs b o e).1
    exact absurd (Nat.lt_of_lt_of_le (Heap.lt_size h1) q) (Nat.lt_irrefl _)
 ·show b∉frs X.stack
  rcases List.mem_cons.mp hb with z | z
  ·subst z
   exact I.stk_lt (Nat.le_refl _)
  ·intro q
   rcases List.mem_cons.mp (I.stkSub b q) with e | e
   ·exact (hf b z).2.1 e
   ·exact (hf b z).2.2.1 e
 ·show HH.FunFrames X.base X.stack
  exact Heap.FunFrames.of_keeps (fun b o e _=>⟨o,keep b o e,rfl⟩) I.stack
theorem comp_inv(I:Inv X pins σ H2 s2)(ok:CompOk scope X.env.scope xs (capt.map fun j=>X.N.getD j ""))(hcap:∀ j∈capt,j<X.N.length)(hf:∀ b∈fp,FpOk X pins H2 b)(hfo:∀ b∈fp,∃ o,s2.heap.get? b=some o)
  {HH h1:Heap} {t:Nat} {m:Str->Option Value} {oc:Obj} (eH:HH=s2.heap.push emptyL) (hns:h1.Ns HH.objs.size m) (hsb:Heap.SameBut HH.objs.size (HH.push oc) h1) :
  Inv (cxComp X xs capt scope HH.objs.size { s2 with heap:=HH } H2 (s2.heap.objs.size::fp)) [(s2.heap.objs.size,emptyL)] (List.replicate xs.length none++capt.map fun j=>(σ[j]?).join) H2 { s2 with heap:=h1,toks:=t }:=by
 have hsz:HH.objs.size=s2.heap.objs.size+1:=by rw [eH,Heap.size_push]
 have look:∀ y c,(clOf X.env scope.names []).lookup y=some c->X.env.cells.lookup y=some c:=fun y c e=>by
  rw [x_a] at e
  split at e
  ·rename_i ha
   obtain ⟨p,hp,hq⟩:=List.any_eq_true.mp ha
   simp only [Bool.and_eq_true,beq_iff_eq] at hq
   obtain ⟨q1,q2⟩:=hq
   subst q1
   obtain ⟨c',hc'⟩:=I.ok.has p.1 (.inl (ok.free p.1 p.2 hp q2))
   rw [hc'] at e ⊢
   exact e
  ·cases e
 have keep0:∀ b o,HH.get? b=some o->h1.get? b=some o:=fun b o e=>hsb.extBut b o (Nat.ne_of_lt (Heap.lt_size e)) (Heap.get?_push_of_some _ e)
 have keep:∀ b o,s2.heap.get? b=some o->h1.get? b=some o:=fun b o e=>keep0 b o (by rw [eH];exact Heap.get?_push_of_some _ e)
 have hD:h1.get? s2.heap.objs.size=some emptyL:=keep0 _ _ (by rw [eH];exact Heap.get?_push_size _ rfl)
 refine ⟨m_u I ok hf hfo eH,rfl,I.bare,Un.kept keep0,⟨m,hns,fun i y v h1' h2 h3=>?_⟩,fun y c e=>?_,I.hok.fresh (show s2.heap.objs.size<=HH.objs.size by lia),fun y c e=>I.freeC y c (look y c e),fun p hp=>?_,I.hok.kept keep,?_⟩
 ·by_cases hi:i<xs.length
  ·have h2':(List.replicate xs.length (none:Option V))[i]? = some (some v):=by
    rw [<-List.getElem?_append_left (l₂:=capt.map fun j=>(σ[j]?).join) (by simpa using hi)]
    exact h2
   rw [List.getElem?_replicate_of_lt hi] at h2'
   cases h2'
  ·have h1'':(capt.map fun j=>X.N.getD j "")[i-xs.length]? = some y:=by
    rw [<-List.getElem?_append_right (l₁:=xs) (by lia)]
    exact h1'
   have h2':(capt.map fun j=>(σ[j]?).join)[i-xs.length]? = some (some v):=by
    have q:=List.getElem?_append_right (l₁:=List.replicate xs.length (none:Option V)) (l₂:=capt.map fun j=>(σ[j]?).join) (i:=i) (by simpa using hi)
    rw [List.length_replicate] at q
    rw [<-q]
    exact h2
   rw [List.getElem?_map] at h1'' h2'
   cases hj:capt[i-xs.length]? with
   | none=>rw [hj] at h1'';cases h1''
   | some j =>
    rw [hj] at h1'' h2'
    have ey:X.N.getD j "" = y:=by simpa using h1''
    have ev:(σ[j]?).join=some v:=by simpa using h2'
    have hjm:j∈capt:=List.mem_of_getElem? hj
    have hjl:=hcap j hjm
    have hN:X.N[j]? = some y:=by
     rw [List.getD_eq_getElem?_getD,List.getElem?_eq_getElem hjl] at ey
     rw [List.getElem?_eq_getElem hjl]
     simpa using ey
    have hσ:σ[j]? = some (some v):=by
     cases e:σ[j]? with
     | none=>rw [e] at ev;cases ev
     | some o=>rw [e] at ev;have ev':o=some v:=ev;rw [ev']
    have hfr:scope.names.lookup y=some .free:=ok.cs y (List.mem_map.mpr ⟨j,hjm,ey⟩)
    have hout:X.env.scope.names.lookup y=some .cell:=ok.free y .free (PySem.mem_of_lookup hfr) rfl
    obtain ⟨mX,_,hl⟩:=I.loc
    obtain ⟨u,ru,lk⟩:=hl j y v hN hσ (.inr (.inl hout))
    refine ⟨u,ru,?_⟩
    have hko:X.env.kindOf y=some .cell:=hout
    rcases lk with ⟨z,_⟩ | ⟨_,c,hc,hcell⟩
    ·rw [hko] at z;cases z
    ·refine .inr ⟨.inl (q_k ok.okind hout hfr),c,?_,hcell.keeps keep⟩
     show (clOf X.env scope.names []).lookup y=some c
     rw [x_a,if_pos (List.any_eq_true.mpr ⟨(y,.free),PySem.mem_of_lookup hfr,by simp⟩),hc]
     rfl
 ·obtain ⟨v,hv⟩:=I.cell y c (look y c e)
  exact ⟨v,hv.keeps keep⟩
 ·have hp':p=(s2.heap.objs.size,emptyL):=by simpa [cxComp] using hp
  subst hp'
  refine ⟨hD,I.hok.fresh (Nat.le_refl _),Nat.ne_of_lt (show s2.heap.objs.size<HH.objs.size by lia),I.stk_lt (Nat.le_refl _),fun v z=>by cases z⟩
 ·show _=(xs++capt.map fun j=>X.N.getD j "").length
  simp
def CompG(J:It)(n:Nat)(c:St)(g:TG)(tt:TT)(te:TE)(H1:Hp)(Fin:List V->Hp->Prop):Prop :=
 ∃ W:Nat->Nat->List V->Hp->Prop,(∃ m,W 0 m [] H1)/\∀ i m ys H,W i m ys H->(J.stop i H/\Fin ys H) \/
  (J.go i H/\ys.length<sizeLine/\∃ N:List V->Hp->Prop,(∀ ys' H',N ys' H'->∃ m',m'<m/\W (i+1) m' ys' H') /\
   ∀ x H',J.yld i H x H'->∀ os:St,os.length=n->g x (os++c) H' fun σ1 H1=>tt σ1 H1 fun b H2=>if b=true then te σ1 H2 fun y H3=>N (ys++[y]) H3 else N ys H2)
def Shp(n:Nat)(g:TG):Prop:=∀ v (os c:St) H Q,os.length=n->g v (os++c) H Q->g v (os++c) H fun σ' H'=>(∃ os':St,os'.length=n/\σ'=os'++c)/\Q σ' H'
def CompW(J:It)(S:V->St)(tt:TT)(te:TE)(H1:Hp)(Fin:List V->Hp->Prop):Prop :=
 ∃ W:Nat->Nat->List V->Hp->Prop,(∃ m,W 0 m [] H1)/\∀ i m ys H,W i m ys H->(J.stop i H/\Fin ys H) \/
  (J.go i H/\ys.length<sizeLine/\∃ N:List V->Hp->Prop,(∀ ys' H',N ys' H'->∃ m',m'<m/\W (i+1) m' ys' H') /\
   ∀ x H',J.yld i H x H'->tt (S x) H' fun b H2=>if b=true then te (S x) H2 fun y H3=>N (ys++[y]) H3 else N ys H2)
def tComp(capt:List Nat)(wi:TI)(tt:TT)(te:TE):TE:=fun σ H Q=>wi σ H fun J H1 =>
 CompW J (fun x=>some x::capt.map fun j=>(σ[j]?).join) tt te H1 fun ys H=>∀ l,H l=none->Q (.ref l) (upd H l (.lst ys))
theorem CompW.g{J:It}{c:St}{tt:TT}{te:TE}{H:Hp}{Fin:List V->Hp->Prop}(h:CompW J (fun x=>some x::c) tt te H Fin):CompG J 1 c (gName 0) tt te H Fin:=by
 obtain ⟨W,w0,st⟩:=h
 refine ⟨W,w0,fun i m ys H w=>?_⟩
 rcases st i m ys H w with q | ⟨go,hl,N,hN,step⟩
 ·exact .inl q
 ·refine .inr ⟨go,hl,N,hN,fun x H' y os hos=>?_⟩
  obtain ⟨o,rfl⟩:=List.length_eq_one_iff.mp hos
  exact step x H' y
theorem o_z:Shp 1 (gName 0):=fun v os c H Q hos h=>by
 obtain ⟨o,rfl⟩:=List.length_eq_one_iff.mp hos
 exact ⟨⟨[some v],rfl,rfl⟩,h⟩
theorem HOk.track{P:Program}{w:World}{H:Hp}{h:Heap}{a:Addr}{o:HO}(k:HOk P w H h)(n:H a=none)(new:ObjOk P w (upd H a o) h a o):HOk P w (upd H a o) h:=fun b u e=>by
 by_cases hb:b=a
 ·subst hb;rw [z_c] at e;cases e;exact new
 ·rw [z_n hb] at e
  exact (k b u e).stay (fun _ _ _ q=>q) (fun c q=>by rw [z_n (z_g q n)];exact q) (fun c xs q=>by rw [z_n (z_g q n)];exact q) fun c ob xs q=>by rw [z_n (z_g q n)];exact q
theorem t_o{elt iter tg:Expr}{g:TG}{ifs:List Expr}{pos:Pos}{tt:TT}{te:TE}{it:Addr}{tn:Nat->Heap->Prop}{J:It}{RR:Value->Addr->Result->Shared->Prop}
  (hx0:∀ e s,¬X.xe e s) (hc:X.calm=true) (ok:CompOk scope X.env.scope xs (capt.map fun j=>X.N.getD j "")) (hcap:∀ j∈capt,j<X.N.length) (hG:∀ C s H ex,PG (cxComp X xs capt scope C s H ex) tg g) (hgs:Shp xs.length g)
  (hT:∀ C s H ex,PTs (cxComp X xs capt scope C s H ex) ifs tt) (hE:∀ C s H ex,PE (cxComp X xs capt scope C s H ex) elt te)
  (I2:Inv X pins σ H2 s2) (T:Turn X.prog X.w X.K tg J fp it tn) (st2:tn 0 s2.heap) (f2:∀ b∈fp,FpOk X pins H2 b)
  (Fin:List V->Hp->Prop) (hW:CompG J xs.length (capt.map fun j=>(σ[j]?).join) g tt te H2 Fin)
  (hRR:∀ D C s' ys H' oc,H' D=none->Fin ys H'->Inv X pins σ (upd H' D (.lst ys)) s'->s'.heap.get? C=some oc->(∃ m,s'.heap.Ns C m)->C≠D->H' C=none->C≠X.env.locals->C∉frs X.stack->X.s₀.heap.objs.size<=C->(∀ y c,X.env.cells.lookup y=some c->c≠C)->(∀ p∈X.pn++pins,p.1≠C) ->
   (∀ v,oc.data ≠ .cell v)->RR (.ref D) C (.ok .next) s') :
  wpAny (model X.prog X.w) X.A (newList []) (fun acc s₃=>wpAny (model X.prog X.w) X.A (newFunctionEnv scope X.env.globals (clOf X.env scope.names []) [] X.env.qual none .none (some X.env)) (fun cenv s₄ =>
   codeAny (model X.prog X.w) X.A (.compStart (.ListComp elt [⟨tg,iter,ifs,0⟩] scope pos) 0 (.ref it) acc { cenv with scope:=relabel scope X.env }) (RR acc cenv.locals) s₄) X.xe s₃) X.xe s2:=by
 refine wpAny_newObj_type (wpAny_newFunctionEnv ok.cell (by intro y hy;simp at hy) (fun h1 hns hsb=>?_) ok.kind)
 dsimp only at hns hsb ⊢
 generalize eH:s2.heap.push { cls:=.type "list",dict:=none,data:=.seq ([]:List Value).toArray }=HH at hns hsb ⊢
 have eH':HH=s2.heap.push emptyL:=eH.symm
 have hsz:HH.objs.size=s2.heap.objs.size+1:=by rw [eH',Heap.size_push]
 have hfo:∀ b∈fp,∃ o,s2.heap.get? b=some o:=fun b hb=>let ⟨o,ho,_⟩:=T.obj 0 _ st2 b hb;⟨o,ho⟩
 have flt:∀ b∈fp,b<s2.heap.objs.size:=fun b hb=>let ⟨o,ho⟩:=hfo b hb;Heap.lt_size ho
 have keep1:∀ b o,s2.heap.get? b=some o->h1.get? b=some o:=fun b o e =>
  hsb.extBut b o (Nat.ne_of_lt (Nat.lt_of_lt_of_le (Heap.lt_size e) (show s2.heap.objs.size<=HH.objs.size by lia))) (Heap.get?_push_of_some _ (by rw [eH'];exact Heap.get?_push_of_some _ e))
 have I4:=comp_inv (t:=s2.toks+([]:List (Str×Value)).length) I2 ok hcap f2 hfo eH' hns hsb
 have st4:tn 0 h1:=T.keep 0 _ _ st2 fun b _ o e=>keep1 b o e
 obtain ⟨W,⟨m0,w0⟩,turn⟩:=hW
 generalize hX:cxComp X xs capt scope HH.objs.size { s2 with heap:=HH } H2 (s2.heap.objs.size::fp)=Y at I4
 have eProg:Y.prog=X.prog:=by rw [<-hX];rfl
 have eW:Y.w=X.w:=by rw [<-hX];rfl
 have eK:Y.K=X.K:=by rw [<-hX];rfl
 have eA:Y.A=X.A:=by rw [<-hX];rfl
 have eEnv:Y.env=compEnvC scope (clOf X.env scope.names []) HH.objs.size X.env:=by rw [<-hX];rfl
 have eXe:Y.xe=X.xe:=by rw [<-hX];rfl
 have eCalm:Y.calm=true:=by rw [<-hX];exact hc
 have ePn:Y.pn=[]:=by rw [<-hX];rfl
 have eEx:Y.ex=s2.heap.objs.size::fp:=by rw [<-hX];rfl
 have eFs:Y.fs=frs X.stack:=by rw [<-hX];rfl
 have hT':PTs Y ifs tt:=by rw [<-hX];exact hT _ _ _ _
 have hE':PE Y elt te:=by rw [<-hX];exact hE _ _ _ _
 have hG':PG Y tg g:=by rw [<-hX];exact hG _ _ _ _
 have eH0:Y.H₀=H2:=by rw [<-hX];rfl
 have eS0:Y.s₀={ s2 with heap:=HH }:=by rw [<-hX];rfl
 have eL:Y.env.locals=HH.objs.size:=by rw [eEnv];rfl
 have ecl:Y.env.cells=clOf X.env scope.names []:=by rw [eEnv];rfl
 have look:∀ y c,(clOf X.env scope.names []).lookup y=some c->X.env.cells.lookup y=some c:=fun y c e=>by
  rw [x_a] at e
  split at e
  ·rename_i ha
   obtain ⟨p,hp,hq⟩:=List.any_eq_true.mp ha
   simp only [Bool.and_eq_true,beq_iff_eq] at hq
   obtain ⟨q1,q2⟩:=hq
   subst q1
   obtain ⟨c',hc'⟩:=I2.ok.has p.1 (.inl (ok.free p.1 p.2 hp q2))
   rw [hc'] at e ⊢
   exact e
  ·cases e
 have fpOk:∀ {pins':List (Addr×Obj)} {H':Hp},(∀ b∈fp,H' b=none)->(∀ p∈pins',p.1∉fp)->∀ b∈fp,FpOk Y pins' H' b:=fun {pins' H'} hn hp b hb=>by
  have hlt:=flt b hb
  refine ⟨hn b hb,by rw [eL];exact Nat.ne_of_lt (Nat.lt_of_lt_of_le hlt (show s2.heap.objs.size<=HH.objs.size by lia)),?_,.inl (by rw [eEx];exact List.mem_cons_of_mem _ hb),fun y c e=>(f2 b hb).2.2.2.2.1 y c (look y c (by rw [<-ecl];exact e)),fun p hpp z=>?_⟩
  ·rw [eFs]
   intro q
   rcases List.mem_cons.mp (I2.stkSub b q) with e | e
   ·exact (f2 b hb).2.1 e
   ·exact (f2 b hb).2.2.1 e
  ·rw [ePn,List.nil_append] at hpp
   exact hp p hpp (by rw [z];exact hb)
 have Dnf:s2.heap.objs.size∉fp:=fun z=>absurd (flt _ z) (Nat.lt_irrefl _)
 have loop:codeAny (model X.prog X.w) X.A (.compLoop (.ListComp elt [⟨tg,iter,ifs,0⟩] scope pos) 0 (.ref it) (.ref s2.heap.objs.size) Y.env) (RR (.ref s2.heap.objs.size) HH.objs.size) { s2 with heap:=h1,toks:=s2.toks+([]:List (Str×Value)).length }:=by
  refine r_o (fun n s'=>∃ i ys its k os H',Inv Y [(s2.heap.objs.size,{ cls:=.type "list",data:=.seq its.toArray k })] (os++capt.map fun j=>(σ[j]?).join) H' s'/\os.length=xs.length/\Vals ys its/\ys.length<=sizeLine/\tn i s'.heap/\(∀ b∈fp,H' b=none)/\W i n ys H') ?_ m0
   ⟨0,[],[],0,_,H2,I4,List.length_replicate,.nil,Nat.zero_le _,st4,fun b hb=>(f2 b hb).1,w0⟩
  rintro n s3 ⟨i,ys,its,k,os,H3,I3,hos,rv,hys,st3,fr3,w3⟩
  have noErr:∀ {e:Value} {s:Shared},X.xe e s->notedBy (model X.prog X.w) X.A Y.env (fun e s'=>RR (.ref s2.heap.objs.size) HH.objs.size (.error e) s') e s:=fun {e s} z=>(hx0 e s z).elim
  have pinD:=I3.pin (s2.heap.objs.size,{ cls:=.type "list",data:=.seq its.toArray k }) (by simp)
  have fp3:=fpOk (pins':=[(s2.heap.objs.size,{ cls:=.type "list",data:=.seq its.toArray k })]) fr3 (by simpa using Dnf)
  rcases turn i n ys H3 w3 with ⟨stop,fin⟩ | ⟨go,hlt,N,hN,step⟩
  ·-- it stops
   have d:=T.done Y eProg eW eK eCalm i _ s3 _ H3 X.xe I3 fp3 st3 stop
   rw [eA] at d
   refine wpAny_mono d (fun r s4 ⟨hr,I4'⟩=>?_) fun e s z=>noErr z
   subst hr
   show RR (.ref s2.heap.objs.size) HH.objs.size (.ok .next) s4
   have pinD4:=I4'.pin (s2.heap.objs.size,{ cls:=.type "list",data:=.seq its.toArray k }) (by simp)
   obtain ⟨mC,nsC,_⟩:=I4'.loc
   rw [eL] at nsC
   obtain ⟨oC,esC,epC,hoC,hdC,_⟩:=id nsC
   have base4:=I4'.base
   rw [eFs,eEx,eH0,eS0] at base4
   have hCn:H3 HH.objs.size=none:=by rw [<-eL];exact I4'.free
   refine hRR s2.heap.objs.size HH.objs.size s4 ys H3 oC pinD4.2.1 fin ?_ hoC ⟨mC,nsC⟩ (Nat.ne_of_gt (show s2.heap.objs.size<HH.objs.size by lia)) hCn (Nat.ne_of_gt (Nat.lt_of_lt_of_le I2.lt (show s2.heap.objs.size<=HH.objs.size by lia))) (I2.stk_lt (by lia)) (by have:=I2.sz;lia) (fun y c e z=>?_) (fun p hp z=>?_) (fun v z=>by rw [hdC] at z;cases z)
   ·have hok4:=I4'.hok
    rw [eProg,eW] at hok4
    have hbl:∀ b ob,s2.heap.get? b=some ob->b∉fp->HH.get? b=some ob/\b∉s2.heap.objs.size::fp:=fun b ob e hm =>
     ⟨by rw [eH'];exact Heap.get?_push_of_some _ e,fun z=>(List.mem_cons.mp z).elim (fun q=>absurd (Heap.lt_size e) (by rw [q];exact Nat.lt_irrefl _)) hm⟩
    refine I2.call' (ch:=fp) (by rw [I4'.os,eS0]) ⟨fun b ob e nn hb hx=>?_,fun b ob e nn hb hx=>?_,fun b ob e nn hx=>?_,fun b ob e hx=>?_,fun b xs e=>?_,fun b ob u e=>?_,fun b pp qq e=>?_⟩ (HOk.track hok4 pinD4.2.1 ⟨hys,its,k,rv,pinD4.1⟩) I4'.bare fun b hb=>⟨(f2 b hb).2.2.2.1,(f2 b hb).2.1,(f2 b hb).2.2.2.2.1,(f2 b hb).2.2.2.2.2⟩
    ·obtain ⟨h1',h2'⟩:=hbl b ob e hx
     exact base4.keep b ob h1' nn hb h2'
    ·obtain ⟨h1',h2'⟩:=hbl b ob e hx
     exact base4.slot b ob h1' nn hb h2'
    ·obtain ⟨h1',h2'⟩:=hbl b ob e hx
     rw [z_n (Nat.ne_of_lt (Heap.lt_size e))]
     exact base4.free b ob h1' nn h2'
    ·obtain ⟨h1',h2'⟩:=hbl b ob e hx
     exact base4.there b ob h1' h2'
    ·have q:=base4.tups b xs e
     rw [z_n (z_g q pinD4.2.1)]
     exact q
    ·have q:=base4.frzs b ob u e
     rw [z_n (z_g q pinD4.2.1)]
     exact q
    ·have q:=base4.tbls b pp qq e
     rw [z_n (z_g q pinD4.2.1)]
     exact q
   ·obtain ⟨v,hv⟩:=I2.cell y c e
    have:=hv.lt
    rw [z] at this
    exact absurd this (Nat.not_lt.mpr (show s2.heap.objs.size<=HH.objs.size by lia))
   ·have:=Heap.lt_size (I2.pin p hp).1
    rw [z] at this
    exact absurd this (Nat.not_lt.mpr (show s2.heap.objs.size<=HH.objs.size by lia))
  ·-- one turn
   have d:=T.item Y eProg eW eK eCalm i _ s3 _ H3 X.xe I3 fp3 st3 go
   rw [eA] at d
   refine wpAny_mono d (fun r s4 ⟨u,hr,h4⟩=>?_) fun e s z=>noErr z
   subst hr
   refine wpAny_mono h4 (fun _ s5 ⟨v,H5,I5,r5,y5,st5,fr5⟩=>?_) fun e s z=>noErr z
   have fp5:=fpOk (pins':=[(s2.heap.objs.size,{ cls:=.type "list",data:=.seq its.toArray k })]) fr5 (by simpa using Dnf)
   have I5':=I5.pinned fp5 (T.obj _ _ st5)
   have pg':=hG' _ s5 _ H5 v u _ I5' r5 (hgs v os _ H5 _ hos (step v H5 y5 os hos))
   rw [eProg,eW,eA,eXe] at pg'
   refine wpAny_mono pg' (fun _ s6 ⟨σ6,H6,I6,⟨os6,hos6,e6⟩,q6⟩=>?_) fun e s z=>noErr z
   subst e6
   have t6:=hT' _ s6 _ H6 _ I6 q6
   rw [eProg,eW,eA,eXe] at t6
   refine wpAny_mono t6 (fun b s7 ⟨H7,I7,q7⟩=>?_) fun e s z=>noErr z
   have ntn:∀ {σ':St} {H':Hp} {s':Shared},Inv Y ([(s2.heap.objs.size,{ cls:=.type "list",data:=.seq its.toArray k })]++pinsAt fp s5.heap) σ' H' s'->tn (i+1) s'.heap/\∀ b∈fp,H' b=none:=fun {σ' H' s'} J'=>by
    refine ⟨T.keep _ _ _ st5 fun b hb o e=>(J'.pin (b,o) (List.mem_append_right _ (List.mem_append_right _ (w_w hb e)))).1,fun b hb=>?_⟩
    obtain ⟨o,e,_⟩:=T.obj _ _ st5 b hb
    exact (J'.pin (b,o) (List.mem_append_right _ (List.mem_append_right _ (w_w hb e)))).2.1
   cases b with
   | false =>
    rw [if_neg Bool.false_ne_true] at q7
    obtain ⟨m',hm,w7⟩:=hN _ _ q7
    rw [if_neg Bool.false_ne_true]
    exact ⟨m',hm,i+1,ys,its,k,os6,H7,I7.unpinned,hos6,rv,hys,(ntn I7).1,(ntn I7).2,w7⟩
   | true =>
    rw [if_pos rfl] at q7
    rw [if_pos rfl]
    have e7:=hE' _ s7 _ H7 _ I7 q7
    rw [eProg,eW,eA,eXe] at e7
    refine wpAny_mono e7 (fun uy s8 ⟨y,H8,I8,r8,n8⟩=>?_) fun e s z=>noErr z
    obtain ⟨m',hm,w8⟩:=hN _ _ n8
    have pin8:=I8.pin (s2.heap.objs.size,{ cls:=.type "list",data:=.seq its.toArray k }) (by simp)
    have hlen:ys.length=its.length:=rv.length
    refine wpAny_list_append_plain (hsz:=by rw [List.size_toArray];lia) ⟨k,pin8.1⟩ fun h9 ⟨k9,hl9⟩ hs9=>?_
    have hk9:∀ b o,b≠s2.heap.objs.size->s8.heap.get? b=some o->h9.get? b=some o:=fun b o hb e=>(hs9.2 b hb).trans e
    have I8u:Inv Y (pinsAt fp s5.heap) (os6++capt.map fun j=>(σ[j]?).join) H8 s8:=I8.pins_of fun p hp=>I8.pin p (List.mem_append_right _ (List.mem_append_right _ hp))
    have I9:Inv Y (pinsAt fp s5.heap) (os6++capt.map fun j=>(σ[j]?).join) H8 { s8 with heap:=h9,toks:=s8.toks }:=I8u.turned (it:=s2.heap.objs.size) hk9 pin8.2.1 (by rw [eL];exact Nat.ne_of_lt (show s2.heap.objs.size<HH.objs.size by lia)) (.inl (by rw [eEx];exact List.mem_cons_self))
     (fun y c e z=>by
      rw [ecl] at e
      obtain ⟨v',hv⟩:=I2.cell y c (look y c e)
      have:=hv.lt
      rw [z] at this
      exact absurd this (Nat.lt_irrefl _))
     (fun p hp z=>by
      rw [ePn,List.nil_append] at hp
      exact Dnf (by rw [<-z];exact (q_c hp).1))
    have hl9':h9.get? s2.heap.objs.size=some { cls:=.type "list",data:=.seq (its++[uy]).toArray k9 }:=by
     rw [hl9];simp
    refine ⟨m',hm,i+1,ys++[y],its++[uy],k9,os6,H8,I9.pins_of fun p hp=>?_,hos6,rv.append (.cons r8 .nil),?_,?_,(ntn I8).2,w8⟩
    ·have hp':p=(s2.heap.objs.size,{ cls:=.type "list",data:=.seq (its++[uy]).toArray k9 }):=by simpa using hp
     subst hp'
     exact ⟨hl9',pin8.2.1,pin8.2.2.1,pin8.2.2.2.1,fun v z=>by cases z⟩
    ·rw [List.length_append,List.length_singleton];lia
    ·refine T.keep _ _ _ (ntn I8).1 fun b hb o e=>hk9 b o (fun z=>Dnf (by rw [<-z];exact hb)) e
 rw [eEnv] at loop
 refine codeAny_compStart_list ?_ ?_
 ·exact loop
 ·exact T.self _ 0 _ _ _ st4 loop
theorem v_b{elt iter:Expr}{x:Str}{px:Pos}{ifs:List Expr}{pos:Pos}{wi:TI}{tt:TT}{te:TE}(capt:List Nat)
  (hx0:∀ e s,¬X.xe e s) (hc:X.calm=true) (hi:PI X (.Name x px) iter wi)
  (hT:∀ C s H ex,PTs (cxComp X [x] capt scope C s H ex) ifs tt) (hE:∀ C s H ex,PE (cxComp X [x] capt scope C s H ex) elt te)
  (hk:compOk scope X.env.scope [x] (capt.map fun j=>X.N.getD j "")=true) (hcap:∀ j∈capt,j<X.N.length) (hnd:(x::capt.map fun j=>X.N.getD j "").Nodup)
  (hs:∀ y,foldedSetIterable iter X.env y=pure y:=by intro _;rfl):PE X (.ListComp elt [⟨.Name x px,iter,ifs,0⟩] scope pos) (tComp capt wi tt te):=by
 intro pins s σ H Q I h
 have ok:=compOk.mk hk
 rw [eval_ListComp]
 refine wpAny_comprehension_free (use:=none) (cl:=clOf X.env scope.names []) rfl hs (v_t fun n k hm hf=>?_) ok.kind ok.names (thn (hi pins s σ H _ I h) fun xv s1 h1=>thn h1 fun itv s2 h2=>?_)
 ·obtain ⟨c,e⟩:=I.ok.has n (.inl (ok.free n k hm (by simpa using hf)))
  rw [e];rfl
 ·obtain ⟨it,fp,tn,J,H2,e,I2,T,st2,f2,hW⟩:=h2
  subst e
  refine t_o (RR:=fun acc C=>compPost (model X.prog X.w) X.A X.xe none (EP X pins σ Q) acc C) hx0 hc ok hcap (xs:=[x]) (g:=gName 0) (fun C s H ex=>y_i hnd rfl (.inl (lookup_relabel_local (ok.x x (by simp)))) (.inr (lookup_relabel_local (ok.x x (by simp))))) o_z hT hE I2 T st2 f2 (fun ys H=>∀ l,H l=none->Q (.ref l) (upd H l (.lst ys))) hW.g ?_
  intro D C s' ys H' oc hD fin I' hC ⟨m,hns⟩ hCD hCn hL _ hsz hcl hpn _
  refine ⟨m,hns,fun h' hsb=>⟨.ref D,_,I'.turned (t':=s'.toks) (it:=C) (fun b o hb e=>(hsb.2 b hb).trans e) (by rw [z_n hCD];exact hCn) hL (.inr hsz) hcl hpn,rfl,fin D hD⟩⟩
theorem v_r{elt iter:Expr}{x:Str}{px:Pos}{py:Pos}{ifs:List Expr}{pos spos:Pos}{wi:TI}{tt:TT}{te:TE}{i:Nat}{y:Str}(capt:List Nat)
  (hN:X.N.Nodup) (hiy:X.N[i]? = some y) (hy:Loc X.env.scope y)
  (hx0:∀ e s,¬X.xe e s) (hc:X.calm=true) (hi:PI X (.Name x px) iter wi)
  (hT:∀ C s H ex,PTs (cxComp X [x] capt scope C s H ex) ifs tt) (hE:∀ C s H ex,PE (cxComp X [x] capt scope C s H ex) elt te)
  (hk:compOk scope X.env.scope [x] (capt.map fun j=>X.N.getD j "")=true) (hcap:∀ j∈capt,j<X.N.length) (hnd:(x::capt.map fun j=>X.N.getD j "").Nodup)
  (hsw:swapsWith (.ListComp elt [⟨.Name x px,iter,ifs,0⟩] scope pos) (some (.Name y py)) spos.line X.env=pure true)
  (hs:∀ y,foldedSetIterable iter X.env y=pure y:=by intro _;rfl) (hf:X.fn y=true\/X.env.scope.names.lookup y=some .local:=by first | exact .inl rfl | exact .inr rfl | assumption) :
  PS X (.Assign [.Name y py] (.ListComp elt [⟨.Name x px,iter,ifs,0⟩] scope pos) spos) (tAsg (tComp capt wi tt te) (gName i)):=by
 intro pins s σ H D0 I h
 have ok:=compOk.mk hk
 rw [exec_Assign_Name_used _ _ _ _ hsw]
 refine wpAny_bind (wpAny_standAt (wpAny_bind ?_))
 show wpAny _ X.A (do let _ <-comprehension (.ListComp elt [⟨.Name x px,iter,ifs,0⟩] scope pos) scope X.env _ (newList []) false (eval iter X.env) (some (assign (.Name y py) X.env))) _ _ s
 refine wpAny_bind (wpAny_mono (wpAny_comprehension_free (use:=some (assign (.Name y py) X.env)) (cl:=clOf X.env scope.names []) (Q:=fun _ s'=>SP X pins D0 .next s') rfl hs (v_t fun n k hm hf=>?_) ok.kind ok.names (thn (hi pins s σ H _ I h) fun xv s1 h1=>thn h1 fun itv s2 h2=>?_))
  (fun _ s' hq=>wpAny_pure (wpAny_pure hq)) fun _ _ e=>e)
 ·obtain ⟨c,e⟩:=I.ok.has n (.inl (ok.free n k hm (by simpa using hf)))
  rw [e];rfl
 ·obtain ⟨it,fp,tn,J,H2,e,I2,T,st2,f2,hW⟩:=h2
  subst e
  refine t_o (RR:=fun acc C=>compPost (model X.prog X.w) X.A X.xe (some (assign (.Name y py) X.env)) (fun _ s'=>SP X pins D0 .next s') acc C) hx0 hc ok hcap (xs:=[x]) (g:=gName 0) (fun C s H ex=>y_i hnd rfl (.inl (lookup_relabel_local (ok.x x (by simp)))) (.inr (lookup_relabel_local (ok.x x (by simp))))) o_z hT hE I2 T st2 f2 (fun ys H=>∀ l,H l=none->gName i (.ref l) σ (upd H l (.lst ys)) D0.nx) hW.g ?_
  intro D C s' ys H' oc hD fin I' hC ⟨m,hns⟩ hCD hCn hL hst hsz hcl hpn hnc
  show wpAny _ _ (assign (.Name y py) X.env (.ref D)) _ _ s'
  have hCf:C∉X.fs:=fun z=>by
   rcases I'.ok.stk with e | ⟨e,_⟩
   ·exact hst (by rw [e];exact z)
   ·refine hst ?_
    rw [e]
    unfold frs
    rw [List.filterMap_cons]
    split
    ·exact z
    ·exact List.mem_cons_of_mem _ z
  have Ip:Inv X (pins++[(C,oc)]) σ (upd H' D (.lst ys)) s':=I'.pins_of fun p hp=>(List.mem_append.mp hp).elim (fun z=>I'.pin p (List.mem_append_right _ z)) fun z=>by
   have z':p=(C,oc):=by simpa using z
   subst z'
   exact ⟨hC,by rw [z_n hCD];exact hCn,hL,hCf,hnc⟩
  have pg:=y_i (X:=X) (i:=i) (x:=y) (pos:=py) hN hiy hy hf
  refine thn (pg _ s' σ _ (.ref D) (.ref D) (fun σ' H''=>D0.nx σ' H''/\H''=upd H' D (.lst ys)) Ip rfl ⟨fin D hD,rfl⟩) fun _ s'' ⟨σ',H'',I'',q,eH⟩=>?_
  subst eH
  have pC:=I''.pin (C,oc) (by simp)
  obtain ⟨o,es,ep,ho,r⟩:=hns
  rw [hC] at ho
  cases ho
  refine ⟨m,⟨oc,es,ep,pC.1,r⟩,fun h' hsb=>?_⟩
  have Iu:Inv X pins σ' (upd H' D (.lst ys)) s'':=I''.pins_of fun p hp=>I''.pin p (List.mem_append_right _ (List.mem_append_left _ hp))
  exact ⟨σ',_,Iu.turned (t':=s''.toks) (it:=C) (fun b o hb e=>(hsb.2 b hb).trans e) pC.2.1 hL (.inr hsz) hcl hpn,q⟩
end
open PySem PySem.Spec PyProof.Rows
section
variable {X:Cx}
def bigB:Int:=1645504557321206042154969182557350504982735865633579863348609024
def CDivL(i j:Int):Prop:=0<j/\j<bigB
theorem n_w{n k:Nat}(h:n<2^k)(hk:0<k):n.log2<k:=by
 by_cases h0:n=0
 ·subst h0;simpa using hk
 ·exact (Nat.log2_lt h0).mpr h
theorem y_o:OpR X (binaryOp .FloorDiv) (rI CDivL fun i j=>.int (i/j)):=opI fun i j _ _ _ _ _ hc q=>by
 have h1:(0:Int)<j:=hc.1
 have h2:j<bigB:=hc.2
 refine floordiv_int (by lia) (by rw [Int.fdiv_eq_ediv_of_nonneg i (by lia)];exact q) (.inl (PyProof.noPylong_of_log2 ?_))
 have h3:j.natAbs<2^210:=by
  have e:(2^210:Nat)=1645504557321206042154969182557350504982735865633579863348609024:=by decide
  unfold bigB at h2
  rw [e]
  lia
 exact Nat.lt_of_lt_of_le (n_w h3 (by decide)) (by decide)
theorem x_f{T:String}:CallR X (.builtin "isinstance") (fun xs H Q=>∃ x t b,xs=[x,.ty T]/\TyOf X.K H x t/\PySem.W.kitOne X.K t (.type T)=some b/\Q (.bl b) H):=by
 intro pins s σ H xs us Q I r h
 obtain ⟨x,t,b,rfl,ty,e,q⟩:=h
 obtain ⟨u,w',rfl,rx,rt⟩:=vals2 r
 cases rt
 exact l_l I rx ty e fun tk=>⟨.bl b,H,I.tok _,rfl,q⟩
theorem bools_of{bs:List Bool}:∀ {us:List Value},Vals (bs.map V.bl) us->us=bs.map Value.bool:=by
 induction bs with
 | nil=>intro us r;cases r;rfl
 | cons b bs ih =>
  intro us r
  rw [List.map_cons] at r
  cases r with
  | cons r1 r2 =>
   cases r1
   rw [ih r2,List.map_cons]
theorem call_all:CallR X (.builtin "all") (fun xs H Q=>X.calm=true/\∃ (p:Addr) (bs:List Bool),xs=[.ref p]/\SqL X.K H p (bs.map V.bl)/\Q (.bl (bs.all id)) H):=by
 intro pins s σ H xs us Q I r h
 obtain ⟨hc,p,bs,rfl,hp,q⟩:=h
 obtain ⟨u,rfl,ru⟩:=vals1 r
 cases ru
 obtain ⟨its,rv,pl,hz⟩:=I.list hp
 have e:=bools_of rv
 subst e
 have hl:=pl.isList
 have hlt:p<s.heap.objs.size:=by obtain ⟨_,e,_⟩:=hl;exact Heap.lt_size e
 refine call_all_walk (wpAny_pyIter_list hl ?_)
 refine ⟨s.heap.objs.size,[s.heap.objs.size,p],[s.heap.objs.size],(bs.map Value.bool).toArray.size,_,_,fun i=>(bs[i]?).getD true,rfl,Walks.list (A:=X.A.in1) (I.ok.hd hc) _ p (Nat.ne_of_lt hlt) (bs.map Value.bool).toArray,
  ⟨⟨_,Heap.get?_push_size _ rfl,rfl,rfl⟩,hl.push _⟩,fun i v s' Q' E' hP hQ=>?_,fun h' tk hk=>?_⟩
 ·have hP':(bs.map Value.bool)[i]? = some v:=by simpa using hP
  rw [List.getElem?_map] at hP'
  cases e:bs[i]? with
  | none=>rw [e] at hP';cases hP'
  | some b =>
   rw [e] at hP'
   have ev:Value.bool b=v:=Option.some.inj hP'
   subst ev
   simp only [e,Option.getD_some] at hQ
   exact wpAny_truthy_bool hQ
 ·have e:((List.range (bs.map Value.bool).toArray.size).all fun i=>(bs[i]?).getD true)=bs.all id:=by
   rw [List.size_toArray,List.length_map]
   rw [Bool.eq_iff_iff,List.all_eq_true,List.all_eq_true]
   constructor
   ·intro h b hb
    obtain ⟨i,hi,rfl⟩:=List.mem_iff_getElem.mp hb
    have:=h i (List.mem_range.mpr hi)
    rw [List.getElem?_eq_getElem hi] at this
    exact this
   ·intro h i hi
    have hi':=List.mem_range.mp hi
    rw [List.getElem?_eq_getElem hi']
    exact h _ (List.getElem_mem hi')
  rw [e]
  exact ⟨.bl _,H,I.kept (t':=tk) fun b o eb=>hk b o (fun z=>by rw [List.mem_singleton.mp z] at eb;exact Nat.lt_irrefl _ (Heap.lt_size eb)) (Heap.get?_push_of_some _ eb),rfl,q⟩
end
section
variable {S:V->St} {tt:TT} {te:TE} {H:Hp} {Fin:List V->Hp->Prop}
theorem x_n{lo:Int}{n:Nat}(Pv:Nat->List V->Hp->Prop)(h0:Pv 0 [] H)(hz:∀ i ys H,i<n->Pv i ys H->ys.length<sizeLine)
  (hs:∀ i ys H,i<n->Pv i ys H->tt (S (.int (lo+i))) H fun b H2=>if b=true then te (S (.int (lo+i))) H2 fun y H3=>Pv (i+1) (ys++[y]) H3 else Pv (i+1) ys H2)
  (hd:∀ ys H,Pv n ys H->Fin ys H):CompW (Itr lo n) S tt te H Fin:=by
 refine ⟨fun i m ys H=>m=n-i/\i<=n/\Pv i ys H,⟨n,by simp,Nat.zero_le _,h0⟩,?_⟩
 rintro i m ys H ⟨rfl,hi,p⟩
 by_cases hlt:i<n
 ·refine .inr ⟨hlt,hz i ys H hlt p,Pv (i+1),fun ys' H' p'=>⟨n-(i+1),by lia,rfl,hlt,p'⟩,fun x H' y=>?_⟩
  obtain ⟨e,y⟩:=y
  subst e y
  exact hs i ys _ hlt p
 ·have e:i=n:=by lia
  subst e
  exact .inl ⟨Nat.le_refl _,hd ys H p⟩
theorem u_k{K:PySem.W.Frag}{a:Addr}{xs:List V}(Pv:Nat->List V->Hp->Prop)(h0:Pv 0 [] H)(hl:∀ i ys H,i<=xs.length->Pv i ys H->SqL K H a xs)(hz:∀ i ys H,i<xs.length->Pv i ys H->ys.length<sizeLine)
  (hs:∀ i x ys H,xs[i]? = some x->Pv i ys H->tt (S x) H fun b H2=>if b=true then te (S x) H2 fun y H3=>Pv (i+1) (ys++[y]) H3 else Pv (i+1) ys H2)
  (hd:∀ ys H,Pv xs.length ys H->Fin ys H):CompW (Itl K a) S tt te H Fin:=by
 refine ⟨fun i m ys H=>m=xs.length-i/\i<=xs.length/\Pv i ys H,⟨xs.length,by simp,Nat.zero_le _,h0⟩,?_⟩
 rintro i m ys H ⟨rfl,hi,p⟩
 have q:=hl i ys H hi p
 by_cases hlt:i<xs.length
 ·refine .inr ⟨⟨xs,xs[i],q,by simp [hlt]⟩,hz i ys H hlt p,Pv (i+1),fun ys' H' p'=>⟨xs.length-(i+1),by lia,rfl,hlt,p'⟩,fun x H' y=>?_⟩
  obtain ⟨e,y⟩:=y
  subst e
  exact hs i x ys _ (y xs q) p
 ·have e:i=xs.length:=by lia
  subst e
  exact .inl ⟨⟨xs,q,Nat.le_refl _⟩,hd ys H p⟩
theorem v_y{K:PySem.W.Frag}{a:Addr}{xs:List V}(Pv:Nat->List V->Hp->Prop)(h0:Pv 0 [] H)(hl:∀ i ys H,i<=xs.length->Pv i ys H->SqT K H a xs)(hz:∀ i ys H,i<xs.length->Pv i ys H->ys.length<sizeLine)
  (hs:∀ i x ys H,xs[i]? = some x->Pv i ys H->tt (S x) H fun b H2=>if b=true then te (S x) H2 fun y H3=>Pv (i+1) (ys++[y]) H3 else Pv (i+1) ys H2)
  (hd:∀ ys H,Pv xs.length ys H->Fin ys H):CompW (Itt K a) S tt te H Fin:=by
 refine ⟨fun i m ys H=>m=xs.length-i/\i<=xs.length/\Pv i ys H,⟨xs.length,by simp,Nat.zero_le _,h0⟩,?_⟩
 rintro i m ys H ⟨rfl,hi,p⟩
 have q:=hl i ys H hi p
 by_cases hlt:i<xs.length
 ·refine .inr ⟨⟨xs,xs[i],q,by simp [hlt]⟩,hz i ys H hlt p,Pv (i+1),fun ys' H' p'=>⟨xs.length-(i+1),by lia,rfl,hlt,p'⟩,fun x H' y=>?_⟩
  obtain ⟨e,y⟩:=y
  subst e
  exact hs i x ys _ (y xs q) p
 ·have e:i=xs.length:=by lia
  subst e
  exact .inl ⟨⟨xs,q,Nat.le_refl _⟩,hd ys H p⟩
end
structure TopD(w:World)(K:PySem.W.Frag)(a:Addr)(kvs:List (Str×V)):Prop where
 ex:∃ es n,K.lookup a=some ⟨.type "dict",none,.dict es n,#[]⟩/\PySem.W.KeysLit w.params es.toList/\Paired (fun (p:Str×V) (e:DictEntry)=>(∃ t,e.key = .str p.1 t)/\RelV p.2 e.val) kvs es.toList
 lo:(a == sysModules)=false
theorem n_f{x:Str}:∀ {kvs:List (Str×V)} {l:List DictEntry},Paired (fun (p:Str×V) (e:DictEntry)=>(∃ t,e.key = .str p.1 t)/\RelV p.2 e.val) kvs l ->
  RelO (kvs.lookup x) ((l.find? fun e=>Value.isStrOf x e.key).map (·.val))
 | _,_,.nil=>trivial
 | (k,v)::kvs,e::l,.cons ⟨⟨t,ek⟩,rv⟩ r=>by
  rw [List.lookup_cons,List.find?_cons]
  have hk:Value.isStrOf x e.key=(x == k):=by
   rw [ek]
   show (k == x)=(x == k)
   by_cases hx:x=k
   ·subst hx;rfl
   ·have h1:(x == k)=false:=by simpa using hx
    have h2:(k == x)=false:=by simpa using fun z=>hx (Eq.symm z)
    rw [h1,h2]
  rw [hk]
  cases hx:x == k with
  | true=>exact rv
  | false=>exact n_f r
theorem TopD.find{w:World}{K:PySem.W.Frag}{a:Addr}{kvs:List (Str×V)}(D:TopD w K a kvs)(x:Str):∃ es n,K.lookup a=some ⟨.type "dict",none,.dict es n,#[]⟩/\PySem.W.KeysLit w.params es.toList/\RelO (kvs.lookup x) (findBy Value.isStrOf es x):=by
 obtain ⟨es,n,h1,h2,h3⟩:=D.ex
 refine ⟨es,n,h1,h2,?_⟩
 have q:=n_f (x:=x) h3
 unfold findBy
 rw [<-Array.find?_toList]
 exact q
section
variable {X:Cx} {a:Addr} {kvs:List (Str×V)}
theorem ix_top(D:TopD X.w X.K a kvs):IxR X (fun x y H Q=>∃ z v,x = .ref a/\y = .str z/\kvs.lookup z=some v/\Q v H):=by
 intro value slice pins s σ H x y v u Q I rx ry h hs
 obtain ⟨z,r,rfl,rfl,hz,q⟩:=h
 cases rx
 obtain ⟨t,rfl⟩:=ry
 obtain ⟨es,n,h1,h2,h3⟩:=D.find z
 rw [hz] at h3
 obtain ⟨u,hu,ru⟩:=RelO.some_of h3
 have hm:=PySem.W.mapOf_K (prog:=X.prog) (w:=X.w) I.kIn h1 h2
 exact tail_any hm.typeIs slot_dict_getitem.lookup (wpAny_getItem_of (strKind_is _ _ z t) hm hu ⟨r,H,I.tok _,ru,q⟩) hs
end
end L2
namespace L2
open PySem PySem.Spec PyProof.Rows PySem.SeqAt
mutual
def RdD(K:PySem.W.Frag)(H:Hp):PyData->V->Prop
 | .none,v=>v = .non
 | .bool b,v=>v = .bl b
 | .int i,v=>v = .int i
 | .str x,v=>v = .str x
 | .list ds,v=>∃ p xs,v = .ref p/\SqL K H p xs/\RdDs K H ds xs
 | .tuple ds,v=>∃ p xs,v = .ref p/\SqT K H p xs/\RdDs K H ds xs
 | .dict _,_=>False
def RdDs(K:PySem.W.Frag)(H:Hp):List PyData->List V->Prop
 | [],xs=>xs=[]
 | d::ds,xs=>∃ x r,xs=x::r/\RdD K H d x/\RdDs K H ds r
end
section
variable {K:PySem.W.Frag} {H H':Hp}
theorem RdDs.ints(ns:List Int):RdDs K H (ns.map PyData.int) (ns.map V.int):=by
 induction ns with
 | nil=>unfold RdDs;rfl
 | cons n r ih =>
  show RdDs K H (PyData.int n::r.map PyData.int) (V.int n::r.map V.int)
  unfold RdDs
  exact ⟨_,_,rfl,by unfold RdD;rfl,ih⟩
theorem RdDs.cons{d:PyData}{ds:List PyData}{x:V}{xs:List V}(h:RdD K H d x)(r:RdDs K H ds xs):RdDs K H (d::ds) (x::xs):=by
 unfold RdDs
 exact ⟨x,xs,rfl,h,r⟩
theorem RdDs.nil:RdDs K H [] []:=by unfold RdDs;rfl
theorem RdD.int(i:Int):RdD K H (.int i) (.int i):=by unfold RdD;rfl
theorem RdD.bl(i:Bool):RdD K H (.bool i) (.bl i):=by unfold RdD;rfl
theorem RdD.str(i:Str):RdD K H (.str i) (.str i):=by unfold RdD;rfl
theorem RdD.non:RdD K H .none .non:=by unfold RdD;rfl
theorem RdD.lst{ds:List PyData}{p:Addr}{xs:List V}(h:SqL K H p xs)(r:RdDs K H ds xs):RdD K H (.list ds) (.ref p):=by
 unfold RdD
 exact ⟨p,xs,rfl,h,r⟩
theorem RdD.tup{ds:List PyData}{p:Addr}{xs:List V}(h:SqT K H p xs)(r:RdDs K H ds xs):RdD K H (.tuple ds) (.ref p):=by
 unfold RdD
 exact ⟨p,xs,rfl,h,r⟩
end
def Cmp(n:Nat)(d:PyData):Prop:=d.canLay0=true/\d.depth<=n
theorem Cmp.int{n:Nat}(i:Int):Cmp n (.int i):=⟨by simp [PyData.canLay0],by simp [PyData.depth]⟩
theorem Cmp.none{n:Nat}:Cmp n .none:=⟨by simp [PyData.canLay0],by simp [PyData.depth]⟩
theorem cmpAll{n:Nat}:∀ {ds:List PyData},(∀ d∈ds,Cmp n d)->PyData.canLayAll0 ds=true/\PyData.depthAll ds<=n
 | [],_=>⟨by simp [PyData.canLayAll0],by simp [PyData.depthAll]⟩
 | d::ds,h=>by
  obtain ⟨h1,h2⟩:=h d List.mem_cons_self
  obtain ⟨h3,h4⟩:=cmpAll (ds:=ds) fun e he=>h e (List.mem_cons_of_mem _ he)
  refine ⟨by simp [PyData.canLayAll0,h1,h3],?_⟩
  simp only [PyData.depthAll]
  lia
theorem Cmp.list{n:Nat}{ds:List PyData}(h:∀ d∈ds,Cmp n d):Cmp (n+1) (.list ds):=by
 obtain ⟨h1,h2⟩:=cmpAll h
 exact ⟨by simp [PyData.canLay0,h1],by simp only [PyData.depth];lia⟩
theorem Cmp.tuple{n:Nat}{ds:List PyData}(h:∀ d∈ds,Cmp n d):Cmp (n+1) (.tuple ds):=by
 obtain ⟨h1,h2⟩:=cmpAll h
 exact ⟨by simp [PyData.canLay0,h1],by simp only [PyData.depth];lia⟩
theorem Cmp.mono{n m:Nat}{d:PyData}(h:Cmp n d)(l:n<=m):Cmp m d:=⟨h.1,Nat.le_trans h.2 l⟩
theorem Cmp.ints{n:Nat}(ns:List Int):∀ d∈ns.map PyData.int,Cmp n d:=fun d hd=>by
 obtain ⟨i,_,rfl⟩:=List.mem_map.mp hd
 exact .int i
mutual
theorem o_c:∀ {d:PyData},d.canLay0=true->PyData.eqv d d=true
 | .none,_=>by simp [PyData.eqv]
 | .bool _,_=>by simp [PyData.eqv]
 | .int _,_=>by simp [PyData.eqv]
 | .str _,_=>by simp [PyData.eqv]
 | .list ds,h=>by
  rw [PyData.eqv]
  exact v_a (by simpa [PyData.canLay0] using h)
 | .tuple ds,h=>by
  rw [PyData.eqv]
  exact v_a (by simpa [PyData.canLay0] using h)
 | .dict _,h=>by simp [PyData.canLay0] at h
theorem v_a:∀ {ds:List PyData},PyData.canLayAll0 ds=true->PyData.eqvAll ds ds=true
 | [],_=>by simp [PyData.eqvAll]
 | d::ds,h=>by
  have h':(PyData.canLay0 d&&PyData.canLayAll0 ds)=true:=by simpa [PyData.canLayAll0] using h
  obtain ⟨h1,h2⟩:=Bool.and_eq_true_iff.mp h'
  rw [PyData.eqvAll,o_c h1,v_a h2]
  rfl
end
theorem u_o:∀ (a b:List Int),PyData.eqvAll (a.map PyData.int) (b.map PyData.int)=decide (a=b)
 | [],[]=>by simp [PyData.eqvAll]
 | [],_::_=>by simp [PyData.eqvAll]
 | _::_,[]=>by simp [PyData.eqvAll]
 | x::a,y::b=>by
  show PyData.eqvAll (PyData.int x::a.map PyData.int) (PyData.int y::b.map PyData.int)=_
  rw [PyData.eqvAll,u_o a b,PyData.eqv]
  by_cases h:x=y<;>simp [h]
section
variable {X:Cx} {pins:List (Addr×Obj)} {σ:St} {H:Hp} {s:Shared}
mutual
theorem Inv.reads(I:Inv X pins σ H s):∀ {d:PyData} {x:V} {v:Value},RdD X.K H d x->RelV x v->∃ as,Reads s.heap v d as
 | .none,_,_,h,r=>by unfold RdD at h;subst h;cases r;exact ⟨_,.none⟩
 | .bool b,_,_,h,r=>by unfold RdD at h;subst h;cases r;exact ⟨_,.bool b⟩
 | .int i,_,_,h,r=>by unfold RdD at h;subst h;obtain ⟨t,rfl⟩:=r;exact ⟨_,.int i t⟩
 | .str i,_,_,h,r=>by unfold RdD at h;subst h;obtain ⟨t,rfl⟩:=r;exact ⟨_,.str i t⟩
 | .list ds,_,_,h,r=>by
  unfold RdD at h
  obtain ⟨p,xs,rfl,h2,h3⟩:=h
  cases r
  obtain ⟨its,rv,⟨o,n,e1,e2,e3,e4⟩,_⟩:=I.list h2
  obtain ⟨as,ra⟩:=Inv.readsAll I h3 rv
  exact ⟨_,.list e1 e2 e4 (by simpa using ra)⟩
 | .tuple ds,_,_,h,r=>by
  unfold RdD at h
  obtain ⟨p,xs,rfl,h2,h3⟩:=h
  cases r
  obtain ⟨its,rv,⟨o,e1,e2,n,e4⟩,_⟩:=I.tuple h2
  obtain ⟨as,ra⟩:=Inv.readsAll I h3 rv
  exact ⟨_,.tuple e1 e2 e4 (by simpa using ra)⟩
 | .dict _,_,_,h,_=>by unfold RdD at h;exact h.elim
theorem Inv.readsAll(I:Inv X pins σ H s):∀ {ds:List PyData} {xs:List V} {vs:List Value},RdDs X.K H ds xs->Vals xs vs->∃ as,ReadsAll s.heap vs ds as
 | [],_,_,h,r=>by unfold RdDs at h;subst h;cases r;exact ⟨_,.nil⟩
 | d::ds,_,_,h,r=>by
  unfold RdDs at h
  obtain ⟨x,q,rfl,h2,h3⟩:=h
  cases r with
  | cons r1 r2 =>
   obtain ⟨as,ra⟩:=Inv.reads I h2 r1
   obtain ⟨bs,rb⟩:=Inv.readsAll I h3 r2
   exact ⟨_,.cons ra rb⟩
end
def rEqD(K:PySem.W.Frag)(no:Bool):R2:=fun x y H Q=>∃ dx dy,RdD K H dx x/\RdD K H dy y/\Cmp 64 dx/\Cmp 64 dy/\Q (.bl (no ^^ PyData.eqv dx dy)) H
theorem Cmp.shaped{d:PyData}(h:Cmp 64 d):shaped d=true:=by
 unfold SeqAt.shaped
 rw [h.1,decide_eq_true h.2]
 rfl
theorem u_y(hu:X.A.units+64<cLine):OpR X (compareOp .Eq) (rEqD X.K false):=by
 intro pins s σ H x y v u Q I rx ry h
 obtain ⟨dx,dy,hx,hy,cx,cy,q⟩:=h
 obtain ⟨as,ra⟩:=I.reads hx rx
 obtain ⟨bs,rb⟩:=I.reads hy ry
 rw [Bool.false_xor] at q
 exact compareEq_shaped ra rb cx.shaped cy.shaped hu ⟨.bl _,H,I,rfl,q⟩
end
theorem rEqD.eq{K:PySem.W.Frag}{x y:V}{H:Hp}{Q:VK}{no:Bool}(d:PyData)(hx:RdD K H d x)(hy:RdD K H d y)(c:Cmp 64 d)(q:Q (.bl (!no)) H):rEqD K no x y H Q :=
 ⟨d,d,hx,hy,c,c,by rw [o_c c.1,Bool.xor_true];exact q⟩
open PySem PySem.Spec PyProof.Rows
section
variable {X:Cx} {K:PySem.W.Frag} (h:X.K=K)
include h
theorem o_i:IxR X (rIxL K):=by subst h;exact z_m
theorem l_n:IxR X (rIxT K):=by subst h;exact y_a
theorem m_q:CallR X (.builtin "len") (fun xs H Q=>∃ x n,xs=[x]/\LenV K x H n/\Q (.int n) H):=by subst h;exact y_d
theorem s_t:OpR X (compareOp .NotIn) (rIn K true):=by subst h;exact v_u
end
end L2
namespace L2
open PySem PySem.Spec
theorem z_f{H:Hp}{p:Addr}(h:H p=none)(o:HO):Same H (upd H p o):=fun b u q=>by rw [z_n (z_g q h)];exact q
theorem x_s{H H':Hp}{p:Addr}(s:Same H H')(n:H p=none)(o:HO):Same H (upd H' p o):=fun b u q=>by rw [z_n (z_g q n)];exact s b u q
theorem small{n:Nat}(h:n<=100000):n<=sizeLine:=Nat.le_trans h (by decide)
theorem y_l{n:Nat}(h:n<=100000):n<sizeLine:=Nat.lt_of_le_of_lt h (by decide)
theorem zl0:0<=sizeLine:=by decide
theorem zl1:1<=sizeLine:=by decide
theorem zl2:2<=sizeLine:=by decide
theorem zl4:4<=sizeLine:=by decide
theorem m_o{ns:List Int}{i:Int}(h0:0<=i)(h:i<ns.length):∃ v:Int,atI (ns.map V.int) i=some (.int v)/\v∈ns/\v=ns.getD i.toNat 0:=by
 obtain ⟨k,rfl⟩:=Int.eq_ofNat_of_zero_le h0
 have hk:k<ns.length:=by lia
 refine ⟨ns[k],w_q (by rw [List.getElem?_map,List.getElem?_eq_getElem hk]<;>rfl),List.getElem_mem hk,?_⟩
 rw [Int.toNat_natCast,List.getD_eq_getElem?_getD,List.getElem?_eq_getElem hk]
 rfl
def Drawn(rs:List Int):Prop:=∀ r∈rs,0<=r/\r<1000000
theorem Drawn.at{rs:List Int}(d:Drawn rs){i:Int}(h0:0<=i)(h:i<rs.length):∃ v:Int,atI (rs.map V.int) i=some (.int v)/\0<=v/\v<1000000:=by
 obtain ⟨v,h1,h2,_⟩:=m_o h0 h
 exact ⟨v,h1,d v h2⟩
theorem Drawn.snoc{rs:List Int}(d:Drawn rs){v:Int}(h0:0<=v)(h:v<1000000):Drawn (rs++[v]):=fun r hr=>by
 rcases List.mem_append.mp hr with q | q
 ·exact d r q
 ·rw [List.mem_singleton.mp q]
  exact ⟨h0,h⟩
def n_a(K:PySem.W.Frag):Sp:=fun vs H Q _=>∃ (a:Addr) (ns:List Int) (i n:Int),vs=[.ref a,.int i,.int n]/\SqL K H a (ns.map V.int)/\ns.length<=63/\0<=i/\0<=n/\n<=1000 /\
 ∀ p (rs:List Int) H',H p=none->Same H H'->H' p=some (.lst (rs.map V.int))->(rs.length:Int)=n->Drawn rs->Q (.ref p) H'
def PrsR(H:Hp)(b:Addr)(rs:List Addr)(ps:List (Int×Int)):Prop:=H b=some (.lst (rs.map V.ref))/\Paired (fun r (p:Int×Int)=>H r=some (.tup [.int p.1,.int p.2])) rs ps
theorem w_x{α β:Type}{R S:α->β->Prop}(h:∀ a b,R a b->S a b):∀ {xs:List α} {ys:List β},Paired R xs ys->Paired S xs ys
 | _,_,.nil=>.nil
 | _,_,.cons a b=>.cons (h _ _ a) (w_x h b)
theorem t_u{α β:Type}{R:α->β->Prop}{x:α}{y:β}(h:R x y):∀ {xs:List α} {ys:List β},Paired R xs ys->Paired R (xs++[x]) (ys++[y])
 | _,_,.nil=>.cons h .nil
 | _,_,.cons a b=>.cons a (t_u h b)
theorem PrsR.same{H H':Hp}{b:Addr}{rs:List Addr}{ps:List (Int×Int)}(s:Same H H')(h:PrsR H b rs ps):PrsR H' b rs ps:=⟨s _ _ h.1,w_x (fun r p q=>s _ _ q) h.2⟩
theorem ixN_nat{n k:Nat}(h:k<n):ixN n (k:Int)=some k:=by
 unfold ixN
 rw [if_pos (by lia),if_pos (by lia),Int.toNat_natCast]
theorem y_h{c:Bool}{A B:Prop}(h:c=false)(q:B):if c=true then A else B:=by rw [h];exact q
theorem y_s{c:Bool}{A B:Prop}(h:c=true)(q:A):if c=true then A else B:=by rw [h];exact q
def RowInv(a p:Addr)(i n:Int)(H:Hp)(j:Nat)(σ:St)(H':Hp):Prop :=
 ∃ (cell:Int) (great:Bool) (rest:Int) (rs:List Int) (x y:Option V),σ=[some (.ref a),some (.int i),some (.int n),some (.int cell),some (.int rest),some (.bl great),some (.ref p),x,y]/\0<=rest/\rs.length=j/\Drawn rs/\Same H H'/\H' p=some (.lst (rs.map V.int))
structure IsNet(H:Hp)(p g:Addr)(rs:List Addr)(n:Int)(ps:List (Int×Int)):Prop where
 p:H p=some (.tup [.int n,.ref g])
 g:PrsR H g rs ps
theorem IsNet.same{H H':Hp}{p g:Addr}{rs:List Addr}{n:Int}{ps:List (Int×Int)}(s:Same H H')(h:IsNet H p g rs n ps):IsNet H' p g rs n ps:=⟨s _ _ h.p,h.g.same s⟩
open PySem PySem.Spec PyProof.Rows
mutual
def Dat(H:Hp):PyData->V->Prop
 | .none,v=>v = .non
 | .bool b,v=>v = .bl b
 | .int i,v=>v = .int i
 | .str x,v=>v = .str x
 | .list ds,v=>∃ p xs,v = .ref p/\H p=some (.lst xs)/\Dats H ds xs
 | .tuple ds,v=>∃ p xs,v = .ref p/\H p=some (.tup xs)/\Dats H ds xs
 | .dict _,_=>False
def Dats(H:Hp):List PyData->List V->Prop
 | [],xs=>xs=[]
 | d::ds,xs=>∃ x r,xs=x::r/\Dat H d x/\Dats H ds r
end
section
variable {H H':Hp}
mutual
theorem Dat.rd{K:PySem.W.Frag}:∀ {d:PyData} {v:V},Dat H d v->RdD K H d v
 | .none,_,h=>by unfold Dat at h;subst h;exact .non
 | .bool _,_,h=>by unfold Dat at h;subst h;exact .bl _
 | .int _,_,h=>by unfold Dat at h;subst h;exact .int _
 | .str _,_,h=>by unfold Dat at h;subst h;exact .str _
 | .list ds,_,h=>by
  unfold Dat at h
  obtain ⟨p,xs,rfl,h2,h3⟩:=h
  exact RdD.lst (SqL.of h2) (Dats.rd h3)
 | .tuple ds,_,h=>by
  unfold Dat at h
  obtain ⟨p,xs,rfl,h2,h3⟩:=h
  exact RdD.tup (SqT.of h2) (Dats.rd h3)
 | .dict _,_,h=>by unfold Dat at h;exact h.elim
theorem Dats.rd{K:PySem.W.Frag}:∀ {ds:List PyData} {xs:List V},Dats H ds xs->RdDs K H ds xs
 | [],_,h=>by unfold Dats at h;subst h;exact .nil
 | d::ds,_,h=>by
  unfold Dats at h
  obtain ⟨x,r,rfl,h2,h3⟩:=h
  exact .cons (Dat.rd h2) (Dats.rd h3)
end
theorem Dat.int(i:Int):Dat H (.int i) (.int i):=by unfold Dat;rfl
theorem Dat.tup{ds:List PyData}{p:Addr}{xs:List V}(h:H p=some (.tup xs))(r:Dats H ds xs):Dat H (.tuple ds) (.ref p):=by unfold Dat;exact ⟨p,xs,rfl,h,r⟩
theorem Dats.nil:Dats H [] []:=by unfold Dats;rfl
theorem Dats.cons{d:PyData}{ds:List PyData}{x:V}{xs:List V}(h:Dat H d x)(r:Dats H ds xs):Dats H (d::ds) (x::xs):=by unfold Dats;exact ⟨x,xs,rfl,h,r⟩
end
end L2
namespace L2
open PySem PySem.Spec
end L2
namespace L2
open PySem PySem.Spec PyProof.Rows
end L2
namespace L2
open PySem PySem.Spec
theorem u_z{α β:Type}{R:α->β->Prop}:∀ {xs:List α} {ys:List β} {i:Nat} {x:α},Paired R xs ys->xs[i]? = some x->∃ y,ys[i]? = some y/\R x y
 | _,_,i,x,.nil,h=>by simp at h
 | _,_,0,x,.cons a b,h=>by
  simp at h
  subst h
  exact ⟨_,rfl,a⟩
 | _,_,i+1,x,.cons a b,h=>by
  rw [List.getElem?_cons_succ] at h ⊢
  exact u_z b h
theorem x_w{α:Type}{xs:List α}{i:Nat}{x:α}(h:xs[i]? = some x):xs.take (i+1)=xs.take i++[x]:=by
 obtain ⟨hi,he⟩:=List.getElem?_eq_some_iff.mp h
 rw [List.take_succ_eq_append_getElem hi,he]
open PySem PySem.Spec PyProof.Rows
variable {X:Cx}
theorem q_y:CallR X (.type "range") (fun xs H Q=>∃ n:Int,xs=[.int n]/\∀ p,H p=none->Q (.ref p) (upd H p (.rng 0 n))):=by
 intro pins s σ H xs us Q I r h
 obtain ⟨n,rfl,q⟩:=h
 obtain ⟨u,rfl,rx⟩:=vals1 r
 obtain ⟨t,rfl⟩:=rx
 refine call_range_1 ?_
 exact ⟨.ref s.heap.objs.size,_,I.laid (a:=s.heap.objs.size) (o:=.rng 0 n) (fun _ _ e=>Heap.get?_push_of_some _ e) (Nat.le_refl _) ⟨_,_,_,Heap.get?_push_size _ rfl⟩,rfl,q _ (I.hok.fresh (Nat.le_refl _))⟩
theorem n_v{n:Nat}{acc:Array Value}(h:ItemsOf (fun i v=>∃ t,v=Value.int ((0:Int)+i*1) t) acc n):Vals ((List.range n).map fun i=>V.int (i:Nat)) acc.toList:=by
 obtain ⟨h1,h2⟩:=h
 have hl:acc.toList.length=n:=by rw [Array.length_toList];exact h1
 have go:∀ (l:List Value) (k m:Nat),l.length=m->(∀ j v,l[j]? = some v->∃ t,v=Value.int ((0:Int)+((k+j:Nat):Int)*1) t)->Vals ((List.range' k m).map fun i=>V.int (i:Nat)) l:=by
  intro l
  induction l with
  | nil =>
   intro k m hm _
   subst hm
   exact .nil
  | cons v l ih =>
   intro k m hm hv
   cases m with
   | zero=>cases hm
   | succ m =>
    rw [List.range'_succ,List.map_cons]
    refine .cons ?_ (ih (k+1) m (by simpa using hm) fun j u hj=>?_)
    ·obtain ⟨t,rfl⟩:=hv 0 v rfl
     refine ⟨t,?_⟩
     congr 1
     lia
    ·obtain ⟨t,e⟩:=hv (j+1) u (by simpa using hj)
     exact ⟨t,by rw [e];congr 1;push_cast;lia⟩
 rw [List.range_eq_range']
 refine go acc.toList 0 n hl fun j v hj=>?_
 obtain ⟨t,e⟩:=h2 j v (by simpa using hj)
 exact ⟨t,by rw [e,Nat.zero_add]⟩
theorem s_j(hc:X.calm=true):CallR X (.type "list") (fun xs H Q=>∃ p n,xs=[.ref p]/\H p=some (.rng 0 n)/\0<=n/\n<=10000/\∀ l,H l=none->Q (.ref l) (upd H l (.lst ((List.range n.toNat).map fun i=>V.int (i:Nat))))):=by
 intro pins s σ H xs us Q I r h
 obtain ⟨p,n,rfl,hp,n0,n1,q⟩:=h
 obtain ⟨u,rfl,rx⟩:=vals1 r
 cases rx
 obtain ⟨t,u,v,e⟩:∃ t u v,s.heap.get? p=some { cls:=.type "range",data:=.fields #[.int 0 t,.int n u,.int 1 v] }:=I.hok p _ hp
 have hsz:Builtin.Range.rangeSize 0 n 1=((n.toNat:Nat):Int):=by rw [rangeSize_one];split<;>lia
 refine call_list_range (I.ok.hd hc) e (small_one (by decide) (by decide) (by lia) (by lia)) hsz (Nat.le_trans (show n.toNat<=10000 by lia) (by decide)) fun h' tk acc c' kp e' hi=>?_
 refine ⟨.ref s.heap.objs.size,_,I.laid (a:=s.heap.objs.size) (o:=.lst ((List.range n.toNat).map fun i=>V.int (i:Nat))) kp (Nat.le_refl _) ⟨?_,acc.toList,c',n_v hi,e'⟩,rfl,q _ (I.hok.fresh (Nat.le_refl _))⟩
 rw [List.length_map,List.length_range]
 exact small (by lia)
theorem pe_bmK{K:PySem.W.Frag}{o e:Expr}{es:List Expr}{to:TE}{t:TA}{name:Str}{apos cpos:Pos}{T id:String}{r:V->List V->Hp->VK->Prop}(hK:X.K=K)(pa:PlainAttrs T)(slot:Slot T name id)(hty:typeOf (.builtin id)=pure (.type "method_descriptor"))(hm:MtR X id r)(ho:PE X o to)(ha:PA X (e::es) t)
  (hbase:attributeBase o name X.env (eval o X.env)=eval o X.env:=by rfl)
  (hfew:((backTo cpos (starEach (e::es) X.env)).all (fun x=>!x.1)&&(backToKw cpos (keywordEach [] X.env)).all (fun x=>x.1.isSome)
   && decide ((e::es).length+([]:List Keyword).length+(if ([]:List Keyword).isEmpty then 0 else 1)<30))=true:=by rfl)
  (hline:(apos.endLine == cpos.line)=true:=by rfl) (hs:starEach (e::es) X.env=(false,eval e X.env)::starEach es X.env:=by rfl) (hplain:(backTo cpos (starEach es X.env)).any (·.1)=false:=by rfl) :
  PE X (.Call (.Attribute o name apos) (e::es) [] cpos) (tBM K T r to t):=by
 subst hK
 exact t_a pa slot hty hm ho ha hbase hfew hline hs hplain
open PySem
theorem xor_sum(a b:Nat):(a^^^b)+2*(a&&&b)=a+b:=by
 have o:((a^^^b)|||(a&&&b))=a|||b:=Nat.eq_of_testBit_eq fun i=>by
  rw [Nat.testBit_or,Nat.testBit_or,Nat.testBit_xor,Nat.testBit_and]
  generalize a.testBit i=u;generalize b.testBit i=v
  revert u v;decide
 have n:((a^^^b)&&&(a&&&b))=0:=Nat.eq_of_testBit_eq fun i=>by
  rw [Nat.testBit_and,Nat.testBit_xor,Nat.testBit_and,Nat.zero_testBit]
  generalize a.testBit i=u;generalize b.testBit i=v
  revert u v;decide
 have x:=PyProof.Rows.nat_or_add_and (a^^^b) (a&&&b)
 rw [o,n] at x
 have y:=PyProof.Rows.nat_or_add_and a b
 clear o n
 lia
theorem w_b(a b:Nat):Builtin.bitXor (a:Int) (b:Int)=((a^^^b:Nat):Int):=by
 rw [PyProof.Rows.bitXor_and,PyProof.Rows.bitAnd_pp (by lia) (by lia),Int.toNat_natCast,Int.toNat_natCast]
 have h:=xor_sum a b
 lia
theorem y_u(x:Nat):(x^^^1)/2=x/2:=by
 rw [Nat.xor_div_two]
 exact Nat.xor_zero _
theorem u_m(x:Nat):(x^^^1)%2=1-x%2:=by
 have h:(x^^^1)%2=1↔¬(x%2=1↔1%2=1):=Nat.xor_mod_two_eq_one
 have hx:x%2=0\/x%2=1:=by lia
 have hy:(x^^^1)%2=0\/(x^^^1)%2=1:=by lia
 rcases hx with hx | hx<;>rcases hy with hy | hy<;>simp_all
theorem n_n(x:Nat):x^^^1^^^1=x:=by rw [Nat.xor_assoc,Nat.xor_self,Nat.xor_zero]
theorem n_o(x:Nat):x^^^1≠x:=by have:=u_m x;intro e;rw [e] at this;lia
theorem m_v{k:Nat}:(2*k)^^^1=2*k+1:=by have:=y_u (2*k);have:=u_m (2*k);lia
theorem cx_odd{k:Nat}:(2*k+1)^^^1=2*k:=by have:=y_u (2*k+1);have:=u_m (2*k+1);lia
theorem j_j(x p:Nat)(h:p<2):(x^^^p)/2=x/2:=by
 have:p=0\/p=1:=by lia
 rcases this with rfl | rfl
 ·rw [Nat.xor_zero]
 ·exact y_u x
theorem o_e{L:List Nat}{k j v:Nat}(h:k<L.length):(L.set k v).getD j 0=if j=k then v else L.getD j 0:=by
 rw [List.getD_eq_getElem?_getD,List.getElem?_set,List.getD_eq_getElem?_getD]
 by_cases e:k=j
 ·subst e;rw [if_pos rfl,if_pos h,if_pos rfl];rfl
 ·rw [if_neg e,if_neg (fun h=>e h.symm)]
structure Uf(n:Nat)(L:List Nat)(R:Nat->Nat):Prop where
 len:L.length=n
 ok:∀ k,k<n->(L.getD k 0=2*k/\R (2*k)=2*k/\R (2*k+1)=2*k+1)\/(L.getD k 0/2<k/\R (2*k)=R (L.getD k 0)/\R (2*k+1)=R (L.getD k 0^^^1))
section
variable {n:Nat} {L:List Nat} {R:Nat->Nat}
theorem Uf.step(u:Uf n L R){e:Nat}(h:e/2<n):(L.getD (e/2) 0=2*(e/2)/\R e=e)\/(L.getD (e/2) 0/2<e/2/\R e=R (L.getD (e/2) 0^^^(e%2))):=by
 have he:e%2=0\/e%2=1:=by lia
 rcases u.ok (e/2) h with ⟨h1,h2,h3⟩ | ⟨h1,h2,h3⟩
 ·refine .inl ⟨h1,?_⟩
  rcases he with he | he
  ·rw [show 2*(e/2)=e by lia] at h2;exact h2
  ·rw [show 2*(e/2)+1=e by lia] at h3;exact h3
 ·refine .inr ⟨h1,?_⟩
  rcases he with he | he
  ·rw [show 2*(e/2)=e by lia] at h2;rw [he,Nat.xor_zero];exact h2
  ·rw [show 2*(e/2)+1=e by lia] at h3;rw [he];exact h3
theorem Uf.all(u:Uf n L R):∀ k,k<n->∀ e,e/2=k->R e/2<=k/\L.getD (R e/2) 0=2*(R e/2)/\R (e^^^1)=R e^^^1:=by
 intro k
 induction k using Nat.strongRecOn with
 | _ k ih =>
  intro hk e he
  have h1:=u.step (e:=e) (by lia)
  have h2:=u.step (e:=e^^^1) (by rw [y_u];lia)
  rw [y_u,u_m] at h2
  rcases h1 with ⟨a1,a2⟩ | ⟨a1,a2⟩
  ·rcases h2 with ⟨b1,b2⟩ | ⟨b1,b2⟩
   ·rw [a2,b2]
    exact ⟨by lia,a1,rfl⟩
   ·lia
  ·rcases h2 with ⟨b1,b2⟩ | ⟨b1,b2⟩
   ·lia
   ·generalize hv:L.getD (e/2) 0=v at a1 a2 b1 b2
    have hp:e%2<2:=by lia
    have:=ih (v/2) (by lia) (by lia) (v^^^(e%2)) (j_j v _ hp)
    rw [a2,b2]
    refine ⟨by lia,this.2.1,?_⟩
    rw [<-this.2.2]
    congr 1
    have:e%2=0\/e%2=1:=by lia
    rcases this with h | h<;>rw [h]
    ·rw [Nat.xor_zero]
    ·rw [n_n,Nat.xor_zero]
theorem Uf.le(u:Uf n L R){e:Nat}(h:e/2<n):R e/2<=e/2:=(u.all _ h e rfl).1
theorem Uf.cx(u:Uf n L R){e:Nat}(h:e/2<n):R (e^^^1)=R e^^^1:=(u.all _ h e rfl).2.2
theorem Uf.rr(u:Uf n L R){e:Nat}(h:e/2<n):R (R e)=R e:=by
 have h1:=u.all _ h e rfl
 rcases u.step (e:=R e) (by lia) with h2 | h2
 ·exact h2.2
 ·lia
theorem Uf.lt(u:Uf n L R){e:Nat}(h:e/2<n)(nr:¬L.getD (e/2) 0/2=e/2):R e/2<e/2/\L.getD (e/2) 0/2<e/2/\R e=R (L.getD (e/2) 0^^^(e%2)):=by
 rcases u.step h with h1 | h1
 ·lia
 ·have hp:e%2<2:=by lia
  have h3:=j_j (L.getD (e/2) 0) _ hp
  have h2:=u.le (e:=L.getD (e/2) 0^^^(e%2)) (by lia)
  rw [<-h1.2] at h2
  exact ⟨by lia,h1⟩
theorem Uf.here(u:Uf n L R){e:Nat}(h:e/2<n)(r:L.getD (e/2) 0/2=e/2):R e=e:=by
 rcases u.step h with h1 | h1
 ·exact h1.2
 ·lia
theorem Uf.press(u:Uf n L R){w:Nat}(hw:w/2<n)(nr:R w/2<w/2):Uf n (L.set (w/2) (R w^^^(w%2))) R:=by
 refine ⟨by rw [List.length_set];exact u.len,fun k hk=>?_⟩
 rw [o_e (by rw [u.len];exact hw)]
 by_cases e:k=w/2
 ·rw [if_pos e]
  have h1:=u.rr hw
  have h2:=u.cx hw
  have h3:=u.cx (e:=R w) (by lia)
  rw [h1] at h3
  have hp:w%2=0\/w%2=1:=by lia
  rcases hp with hp | hp
  ·have e2:2*k=w:=by lia
   rw [hp,Nat.xor_zero,e2,show w+1=w^^^1 by rw [<-e2,m_v],h1,h2,h3]
   exact .inr ⟨by lia,rfl,rfl⟩
  ·have e2:2*k+1=w:=by lia
   rw [hp,n_n,e2,show 2*k=w^^^1 by rw [<-e2,cx_odd],h1,h2,h3,y_u]
   exact .inr ⟨by lia,rfl,rfl⟩
 ·rw [if_neg e]
  exact u.ok k hk
def jn(R:Nat->Nat)(lo hi:Nat)(e:Nat):Nat:=if R e=hi then lo else if R e=hi^^^1 then lo^^^1 else R e
theorem Uf.join(u:Uf n L R){lo hi:Nat}(h1:R lo=lo)(h2:R hi=hi)(hl:lo/2<hi/2)(hn:hi/2<n):Uf n (L.set (hi/2) (lo^^^(hi%2))) (jn R lo hi):=by
 have hd:=y_u hi
 have hld:=y_u lo
 have h3:=u.cx (e:=lo) (by lia)
 have h4:=u.cx (e:=hi) (by lia)
 rw [h1] at h3
 rw [h2] at h4
 have n1:lo≠hi:=by lia
 have n2:lo≠hi^^^1:=by lia
 have n3:lo^^^1≠hi:=by lia
 have n4:lo^^^1≠hi^^^1:=by lia
 have q1:jn R lo hi lo=lo:=by unfold jn;rw [h1,if_neg n1,if_neg n2]
 have q2:jn R lo hi (lo^^^1)=lo^^^1:=by unfold jn;rw [h3,if_neg n3,if_neg n4]
 have q3:jn R lo hi hi=lo:=by unfold jn;rw [if_pos h2]
 have q4:jn R lo hi (hi^^^1)=lo^^^1:=by unfold jn;rw [h4,if_neg (n_o hi),if_pos rfl]
 refine ⟨by rw [List.length_set];exact u.len,fun k hk=>?_⟩
 rw [o_e (by rw [u.len];exact hn)]
 by_cases e:k=hi/2
 ·rw [if_pos e]
  have hp:hi%2=0\/hi%2=1:=by lia
  rcases hp with hp | hp
  ·have e2:2*k=hi:=by lia
   rw [hp,Nat.xor_zero,e2,show hi+1=hi^^^1 by rw [<-e2,m_v],q1,q2,q3,q4]
   exact .inr ⟨by lia,rfl,rfl⟩
  ·have e2:2*k+1=hi:=by lia
   rw [hp,n_n,e2,show 2*k=hi^^^1 by rw [<-e2,cx_odd],q1,q2,q3,q4,hld]
   exact .inr ⟨by lia,rfl,rfl⟩
 ·rw [if_neg e]
  have cong:∀ a b,R a=R b->jn R lo hi a=jn R lo hi b:=fun a b h=>by unfold jn;rw [h]
  rcases u.ok k hk with ⟨a1,a2,a3⟩ | ⟨a1,a2,a3⟩
  ·refine .inl ⟨a1,?_,?_⟩
   ·unfold jn;rw [a2,if_neg (by lia),if_neg (by lia)]
   ·unfold jn;rw [a3,if_neg (by lia),if_neg (by lia)]
  ·exact .inr ⟨a1,cong _ _ a2,cong _ _ a3⟩
theorem Uf.init(n:Nat):Uf n ((List.range n).map fun k=>2*k) id:=by
 refine ⟨by rw [List.length_map,List.length_range],fun k hk=>.inl ⟨?_,rfl,rfl⟩⟩
 rw [List.getD_eq_getElem?_getD,List.getElem?_map,List.getElem?_range hk]
 rfl
end
theorem r_y{v:V}:([(("lesser" : Str),v)]:List (Str×V)).lookup ("lesser" : Str)=some v:=by simp [List.lookup]
theorem t_l{v:V}{m:Str}(h:(m == ("lesser" : Str))=false):([(("lesser" : Str),v)]:List (Str×V)).lookup m=none:=by simp [List.lookup,h]
def z_h(L:List Nat):List V:=L.map fun k=>V.int (k:Nat)
theorem z_i(L:List Nat):(z_h L).length=L.length:=List.length_map _
def ClsAt(C:Addr)(H:Hp)(o l:Addr)(n:Nat)(R:Nat->Nat):Prop:=(∃ dx,H o=some (.ins C dx [("lesser",.ref l)]))/\∃ L:List Nat,H l=some (.lst (z_h L))/\Uf n L R/\n<=4200
def Ch(l:Addr)(H H':Hp):Prop:=∀ b o,b≠l->H b=some o->H' b=some o
theorem Ch.refl{l:Addr}{H:Hp}:Ch l H H:=fun _ _ _ e=>e
theorem Ch.trans{l:Addr}{H H1 H2:Hp}(a:Ch l H H1)(b:Ch l H1 H2):Ch l H H2:=fun c o n e=>b c o n (a c o n e)
theorem Same.ch{l:Addr}{H H':Hp}(s:Same H H'):Ch l H H':=fun c o _ e=>s c o e
theorem Ch.put{l:Addr}{H:Hp}(o:HO):Ch l H (upd H l o):=fun b o' n e=>by rw [z_n n];exact e
theorem Ch.same{l:Addr}{H H1 H2:Hp}(n:H l=none)(a:Same H H1)(b:Ch l H1 H2):Same H H2:=fun c o e=>b c o (z_g e n) (a c o e)
theorem ClsAt.same{C o l:Addr}{H H':Hp}{n:Nat}{R:Nat->Nat}(c:ClsAt C H o l n R)(s:Same H H'):ClsAt C H' o l n R:=by
 obtain ⟨⟨dx,h1⟩,L,h2,u,h3⟩:=c
 exact ⟨⟨dx,s _ _ h1⟩,L,s _ _ h2,u,h3⟩
theorem ClsAt.ne{C o l:Addr}{H:Hp}{n:Nat}{R:Nat->Nat}(c:ClsAt C H o l n R):o≠l:=by
 obtain ⟨⟨dx,h1⟩,L,h2,u,h3⟩:=c
 intro e
 rw [e,h2] at h1
 cases h1
theorem at_nats{L:List Nat}{c:Nat}(h:c/2<L.length):atI (z_h L) ((c:Int)/2)=some (.int ((L.getD (c/2) 0:Nat):Int)):=by
 rw [show (c:Int)/2=((c/2:Nat):Int) by lia]
 refine w_q ?_
 unfold z_h
 rw [List.getElem?_map,List.getD_eq_getElem?_getD,List.getElem?_eq_getElem h]
 rfl
theorem q_a(L:List Nat)(k v:Nat):(z_h L).set k (.int (v:Nat))=z_h (L.set k v):=by
 unfold z_h
 rw [List.map_set]
def q_n(C:Addr):Sp:=fun vs H Q _=>∃ (o dx:Addr) (n:Nat),vs=[.ref o,.int (n:Int)]/\H o=some (.ins C dx [])/\n<=4200/\∀ l H',H l=none->Ch o H H'->ClsAt C H' o l n id->Q .non H'
def x_o(C:Addr):Sp:=fun vs H Q _=>∃ (o l:Addr) (n:Nat) (R:Nat->Nat) (e:Nat),vs=[.ref o,.int (e:Int)]/\ClsAt C H o l n R/\e/2<n/\∀ H',Ch l H H'->ClsAt C H' o l n R->Q (.int (R e:Nat)) H'
def q_o(C : Addr) : Sp := fun vs H Q _ => ∃ (o l : Addr) (n : Nat) (R : Nat -> Nat) (a b : Nat), vs = [.ref o, .int (a : Int), .int (b : Int)] /\ ClsAt C H o l n R /\ a / 2 < n /\ b / 2 < n /\
  ((R a = R b /\ ∀ H', Ch l H H' -> ClsAt C H' o l n R -> Q (.bl true) H') \/ (R a = R b ^^^ 1 /\ ∀ H', Ch l H H' -> ClsAt C H' o l n R -> Q (.bl false) H') \/
   (R a ≠ R b /\ R a ≠ R b ^^^ 1 /\ ∀ H', Ch l H H' -> ClsAt C H' o l n (jn R (min (R a) (R b)) (max (R a) (R b))) -> Q (.bl true) H'))
open PySem
theorem o_h{L:List Nat}{w:Nat}(h:w/2<L.length):ixN (z_h L).length ((w:Int)/2)=some (w/2):=by
 rw [z_i,show (w:Int)/2=((w/2:Nat):Int) by lia]
 exact ixN_nat h
theorem l_x{H H1:Hp}{o dx C:Addr}(ho:H o=none)(hdx:H dx=none)(ch:Ch o (upd (upd H dx (.own o)) o (.ins C dx [])) H1):Same H H1:=fun b w e=>by
 have n1:b≠o:=z_g e ho
 have n2:b≠dx:=z_g e hdx
 refine ch b w n1 ?_
 rw [z_n n1,z_n n2]
 exact e
theorem l_w{H:Hp}{o dx l:Addr}{a b:HO}(h:(upd (upd H dx a) o b) l=none):H l=none:=by
 by_cases e1:l=o
 ·rw [e1,z_c] at h;cases h
 ·by_cases e2:l=dx
  ·rw [z_n e1,e2,z_c] at h;cases h
  ·rw [z_n e1,z_n e2] at h;exact h
theorem nats_at{ws:List Nat}{k:Nat}(h:k<ws.length):atI (z_h ws) (k:Int)=some (.int (ws[k]:Nat)):=w_q (by unfold z_h;rw [List.getElem?_map,List.getElem?_eq_getElem h];rfl)
open PySem PySem.Spec PyProof.Rows
def Lb(n:Nat)(Ls:List Nat)(R:Nat->Nat):Prop:=Ls.length=2*n/\∀ a b,a<2*n->b<2*n->(Ls.getD a 0=Ls.getD b 0↔R a=R b)
theorem Lb.start(n:Nat):Lb n (List.range (2*n)) id:=by
 have e:∀ a,a<2*n->(List.range (2*n)).getD a 0=a:=fun a h=>by rw [List.getD_eq_getElem?_getD,List.getElem?_range h];rfl
 refine ⟨List.length_range,fun a b ha hb=>?_⟩
 rw [e a ha,e b hb]
 exact Iff.rfl
theorem Uf.least{n:Nat}{L:List Nat}{R:Nat->Nat}(u:Uf n L R){e j:Nat}(he:e/2<n)(hj:j/2<n)(h:R j=R e):R e<=j:=by
 have h1:=u.le hj
 rw [h] at h1
 have h2:=u.all _ he e rfl
 by_cases q:R e/2=j/2
 ·have h3:L.getD (j/2) 0=2*(j/2):=by rw [<-q];exact h2.2.1
  have h4:=u.here hj (by lia)
  lia
 ·lia
def jl(Ls:List Nat)(one other:Nat):List Nat:=Ls.map fun x=>if x=Ls.getD (other^^^1) 0 then Ls.getD (one^^^1) 0 else if x=Ls.getD other 0 then Ls.getD one 0 else x
theorem jl_get{Ls:List Nat}{one other a:Nat}(h:a<Ls.length):(jl Ls one other).getD a 0=if Ls.getD a 0=Ls.getD (other^^^1) 0 then Ls.getD (one^^^1) 0 else if Ls.getD a 0=Ls.getD other 0 then Ls.getD one 0 else Ls.getD a 0:=by
 unfold jl
 rw [List.getD_eq_getElem?_getD,List.getElem?_map,List.getElem?_eq_getElem h]
 have e:Ls.getD a 0=Ls[a]:=by rw [List.getD_eq_getElem?_getD,List.getElem?_eq_getElem h];rfl
 rw [e]
 rfl
theorem l_z{A A1 B B1 x y:Nat}(h1:A≠A1)(h2:B≠B1)(h3:A≠B)(h4:A≠B1)(h5:A1≠B)(h6:A1≠B1) :
  ((if x=B1 then A1 else if x=B then A else x)=(if y=B1 then A1 else if y=B then A else y))↔((if x=A then B else if x=A1 then B1 else x)=(if y=A then B else if y=A1 then B1 else y)):=by
 constructor
 ·intro h
  repeat' split at h
  all_goals (repeat' split)
  all_goals lia
 ·intro h
  repeat' split at h
  all_goals (repeat' split)
  all_goals lia
theorem Lb.jl{n:Nat}{L Ls:List Nat}{R:Nat->Nat}(u:Uf n L R)(h:Lb n Ls R){one other:Nat}(h1:one<2*n)(h2:other<2*n)(hne:R one≠R other^^^1) :
  (R one=R other->Lb n (jl Ls one other) R)/\(R one≠R other->Lb n (jl Ls one other) (jn R (min (R one) (R other)) (max (R one) (R other)))):=by
 have d1:=y_u one
 have d2:=y_u other
 have c1:=u.cx (e:=one) (by lia)
 have c2:=u.cx (e:=other) (by lia)
 have l1:one^^^1<2*n:=by lia
 have l2:other^^^1<2*n:=by lia
 have key:∀ a,a<2*n->∃ k,k<2*n/\(L2.jl Ls one other).getD a 0=Ls.getD k 0/\R k=if R a=R other^^^1 then R one^^^1 else if R a=R other then R one else R a:=fun a ha=>by
  rw [jl_get (by rw [h.1];exact ha)]
  by_cases q1:R a=R other^^^1
  ·rw [if_pos ((h.2 _ _ ha l2).mpr (by rw [c2];exact q1)),if_pos q1]
   exact ⟨_,l1,rfl,c1⟩
  ·rw [if_neg (fun q=>q1 (by rw [<-c2];exact (h.2 _ _ ha l2).mp q)),if_neg q1]
   by_cases q2:R a=R other
   ·rw [if_pos ((h.2 _ _ ha h2).mpr q2),if_pos q2]
    exact ⟨_,h1,rfl,rfl⟩
   ·rw [if_neg (fun q=>q2 ((h.2 _ _ ha h2).mp q)),if_neg q2]
    exact ⟨_,ha,rfl,rfl⟩
 have hlen:(L2.jl Ls one other).length=2*n:=by unfold L2.jl;rw [List.length_map];exact h.1
 refine ⟨fun hs=>⟨hlen,fun a b ha hb=>?_⟩,fun hs=>⟨hlen,fun a b ha hb=>?_⟩⟩
 ·obtain ⟨ka,la,ea,ra⟩:=key a ha
  obtain ⟨kb,lb,eb,rb⟩:=key b hb
  rw [ea,eb,h.2 _ _ la lb,ra,rb,hs]
  have:∀ z:Nat,(if z=R other^^^1 then R other^^^1 else if z=R other then R other else z)=z:=fun z=>by split<;>(try split)<;>lia
  rw [this,this]
 ·obtain ⟨ka,la,ea,ra⟩:=key a ha
  obtain ⟨kb,lb,eb,rb⟩:=key b hb
  rw [ea,eb,h.2 _ _ la lb,ra,rb]
  have x1:=n_o (R one)
  have x2:=n_o (R other)
  have x3:R one^^^1≠R other:=fun q=>hne (by rw [<-q,n_n])
  have x4:R one^^^1≠R other^^^1:=fun q=>hs (by have:=congrArg (· ^^^ 1) q;simp only [n_n] at this;exact this)
  unfold jn
  rcases Nat.lt_or_gt_of_ne hs with q | q
  ·rw [Nat.min_eq_left (by lia),Nat.max_eq_right (by lia)]
   generalize R one^^^1=A1 at *
   generalize R other^^^1=B1 at *
   have sw:∀ z:Nat,(if z=B1 then A1 else if z=R other then R one else z)=if z=R other then R one else if z=B1 then A1 else z:=fun z=>by split<;>split<;>(try split)<;>lia
   rw [sw,sw]
  ·rw [Nat.min_eq_right (by lia),Nat.max_eq_left (by lia)]
   exact l_z (fun e=>x1 e.symm) (fun e=>x2 e.symm) hs hne x3 x4
theorem Lb.none{n:Nat}{L Ls:List Nat}{R:Nat->Nat}(u:Uf n L R)(h:Lb n Ls R){one other:Nat}(h1:one<2*n)(h2:other<2*n):Ls.getD one 0=Ls.getD (other^^^1) 0↔R one=R other^^^1:=by
 have d2:=y_u other
 rw [h.2 _ _ h1 (by lia),u.cx (by lia)]
theorem y_n{Ls:List Nat}{k:Nat}(h:k<Ls.length):atI (z_h Ls) (k:Int)=some (.int (Ls.getD k 0:Nat)):=by
 rw [nats_at h,List.getD_eq_getElem?_getD,List.getElem?_eq_getElem h]
 rfl
theorem j_k{Ls:List Nat}{i:Nat}(h:i<Ls.length):Ls.take (i+1)=Ls.take i++[Ls.getD i 0]:=by
 rw [List.take_add_one,List.getElem?_eq_getElem h,List.getD_eq_getElem?_getD,List.getElem?_eq_getElem h]
 rfl
theorem y_t(Ls:List Nat)(k:Nat):z_h (Ls++[k])=z_h Ls++[.int (k:Nat)]:=by unfold z_h;rw [List.map_append];rfl
theorem x_b{Ls:List Nat}{i:Nat}{v:V}(h:(z_h Ls)[i]? = some v):i<Ls.length/\v = .int (Ls.getD i 0:Nat):=by
 unfold z_h at h
 rw [List.getElem?_map] at h
 by_cases q:i<Ls.length
 ·rw [List.getElem?_eq_getElem q] at h
  refine ⟨q,?_⟩
  rw [List.getD_eq_getElem?_getD,List.getElem?_eq_getElem q]
  exact (Option.some.inj h).symm
 ·rw [List.getElem?_eq_none (by lia)] at h
  cases h
theorem r_u{x y:Nat}(h:x≠y):¬((Sum.inl (x:Int):Key) = .inl (y:Int)):=fun e=>by
 injection e with e
 have e':(x:Int)=(y:Int):=e
 lia
theorem two_get{a b:Nat}{va vb:V}(x:Nat):valV (mergeK [] [((.inl (a:Int):Key),va),(.inl (b:Int),vb)]) (.inl (x:Int))=if x=b then some vb else if x=a then some va else none:=by
 have e:mergeK [] [((.inl (a:Int):Key),va),(.inl (b:Int),vb)]=putK (putK [] (.inl (a:Int)) va) (.inl (b:Int)) vb:=rfl
 rw [e,w_z,w_z]
 by_cases h1:x=b
 ·subst h1;rw [if_pos rfl,if_pos rfl]
 ·rw [if_neg (r_u h1),if_neg h1]
  by_cases h2:x=a
  ·subst h2;rw [if_pos rfl,if_pos rfl]
  ·rw [if_neg (r_u h2),if_neg h2]
   rfl
def t_i:Sp:=fun vs H Q _=>∃ (p:Addr) (Ls:List Nat) (one other:Nat),vs=[.ref p,.int (one:Int),.int (other:Int)]/\H p=some (.lst (z_h Ls))/\Ls.length<=200/\one<Ls.length/\other<Ls.length/\one^^^1<Ls.length/\other^^^1<Ls.length /\
 (Ls.getD one 0=Ls.getD (other^^^1) 0->Q .non H)/\(Ls.getD one 0≠Ls.getD (other^^^1) 0->∀ q H',H q=none->Same H H'->H' q=some (.lst (z_h (jl Ls one other)))->Q (.ref q) H')
structure LamAt(mg:Str->Option Value)(base:Heap)(c P:Addr):Prop where
 hd:PySem.W.CodeHd base c P
 bm:∃ bm ob,mg "__builtins__" = some (.ref bm)/\bm≠builtinsNs/\base.get? bm=some ob/\ob.cls = .type "module" /\ ob.dict=some builtinsNs/\ob.data = .plain
section
variable {X:Cx} {pins:List (Addr×Obj)} {σ:St} {H:Hp} {s:Shared}
theorem Inv.grown{Pa c:Addr}{pos:Pos}{qual:Str}{h':Heap}{t':Nat}{ps vs:Array Value}{oc:Obj}{tq:Tok}(I:Inv X pins σ H s)(hP:H Pa=some (.tbl pos qual))(hx:Heap.ExtBut Pa s.heap h')
  (hge:s.heap.objs.size<=c) (hc:h'.get? c=some oc) (hd:oc.data = .fields vs) (hv:vs[1]? = some (.str qual tq)) (htab:h'.get? Pa=some { cls:=.none,data:=.fields ps }) (ht:TriplesOk ps.toList)
  (ha:codeAmong pos ps.toList=some (.ref c)):Inv X pins σ (upd H c (.frz oc (.own Pa))) { s with heap:=h',toks:=t' }:=by
 have hn:H c=none:=I.hok.fresh hge
 have nP:∀ b,H b=none->b≠Pa:=fun b n z=>by rw [z,hP] at n;cases n
 refine I.un ⟨fun b o e n _ _=>hx b o (nP b n) e,fun b o e n _ _=>⟨o.slots,hx b o (nP b n) e⟩,fun b o e n _=>?_,fun b o e _=>?_,fun b xs e=>?_,fun b o u e=>?_,fun b p q e=>?_⟩ fun b u e=>?_
 ·rw [z_n (Nat.ne_of_lt (Nat.lt_of_lt_of_le (Heap.lt_size e) hge))]
  exact n
 ·by_cases hb:b=Pa
  ·subst hb
   exact ⟨_,htab⟩
  ·exact ⟨o,hx b o hb e⟩
 ·rw [z_n (z_g e hn)]
  exact e
 ·rw [z_n (z_g e hn)]
  exact e
 ·rw [z_n (z_g e hn)]
  exact e
 ·by_cases hbc:b=c
  ·subst hbc
   rw [z_c] at e
   cases e
   exact ⟨hc,oc,hc⟩
  ·rw [z_n hbc] at e
   by_cases hb:b=Pa
   ·subst hb
    rw [hP] at e
    cases e
    exact ⟨ps,htab,ht,.inr ⟨c,oc,vs,tq,ha,z_c,hd,hv⟩⟩
   ·refine (I.hok b u e).stay (fun d v hd q=>hx d v ?_ q) (fun d q=>by rw [z_n (z_g q hn)];exact q) (fun d xs q=>by rw [z_n (z_g q hn)];exact q) fun d ob xs q=>by rw [z_n (z_g q hn)];exact q
    rcases hd with z | z
    ·rw [z]
     exact hb
    ·intro y
     rw [y,hP] at z
     cases z
end
end L2
namespace L2
open PySem PySem.Spec PyProof.Rows
theorem Fun.okC{P:Program}{w:World}{K:PySem.W.Frag}{mg:Str->Option Value}{base:Heap}{x qual:Str}{st:Stmt}{f:Addr}{fd:FuncData}{N ps:List Str}{k:Nat}{sp:Sp}{cdv:Value}(F:Fun K x qual st f fd)(hc:fd.code=cdv)(S:FnScope N ps (z_p st))(len:∀ vs H Q E,sp vs H Q E->vs.length=ps.length)
  (hbody:∀ (A:Around) (outer:List Env) (s:Shared) (H:Hp) (vs:List V) (Q:VK) (E:XK),Room k (A.deeper (envOfC qual (z_p st) s.heap.objs.size f cdv))->sp vs H Q E ->
   ∃ t,PSs (cxOf CX0 P w K mg base N qual (z_p st) f cdv A outer s H E).nox (x_i st) t/\t { nx:=fun _ H'=>Q .non H',rt:=Q } (start N vs) H):FnOk P w K mg base CX0 (k+1) f fd ps sp:=by
 obtain ⟨oc,od,kV,doc,pm,an,cdv',ct,osl,rfl,lk,hcd⟩:=F.ex
 obtain rfl:cdv'=cdv:=hc
 refine fn_of lk hcd S len fun A outer s H vs Q E hr hsp=>?_
 obtain ⟨t,h,q⟩:=hbody A outer s H vs Q E hr hsp
 exact ⟨t,h.nox,q⟩
abbrev Tab4:=Addr×Addr×Pos×Str
def IsTab(h:Heap)(b:Addr):Prop:=(∃ c,PySem.W.CodeHd h c b)/\h.get? b=some (tabObj #[])
def tabH(tabs:List Tab4):Hp:=fun b=>(tabs.find? fun t=>t.2.1 == b).map fun t=>.tbl t.2.2.1 t.2.2.2
theorem p_r:∀ {tabs:List Tab4},(tabs.map (·.2.1)).Nodup->∀ t∈tabs,tabH tabs t.2.1=some (.tbl t.2.2.1 t.2.2.2)
 | [],_,t,h=>nomatch h
 | u::r,nd,t,h=>by
  rw [List.map_cons,List.nodup_cons] at nd
  unfold tabH
  rw [List.find?_cons]
  rcases List.mem_cons.mp h with rfl | h
  ·simp
  ·have:(u.2.1 == t.2.1)=false:=by
    simp only [beq_eq_false_iff_ne,ne_eq]
    intro z
    exact nd.1 (z▸List.mem_map_of_mem (f:=fun t:Tab4=>t.2.1) h)
   rw [this]
   exact p_r nd.2 t h
theorem tabH_of{tabs:List Tab4}{b:Addr}{u:HO}(h:tabH tabs b=some u):∃ t∈tabs,t.2.1=b/\u = .tbl t.2.2.1 t.2.2.2:=by
 unfold tabH at h
 obtain ⟨t,h1,h2⟩:=Option.map_eq_some_iff.mp h
 exact ⟨t,List.mem_of_find?_eq_some h1,eq_of_beq (List.find?_some (p:=fun t:Tab4=>t.2.1 == b) h1),h2.symm⟩
theorem l_r{P:Program}{w:World}{K:PySem.W.Frag}{mg mb:Str->Option Value}{CX:CXT}{k:Nat}{fa a:Addr}{fd:FuncData}{x:Str}{sp:Sp}{s₁:Shared}{vs:List Value}{ns:List Int}{tabs:List Tab4}
  (KX:K.In s₁.heap) (hns:s₁.heap.Ns mainGlobals mg) (hb:s₁.heap.Ns builtinsNs mb) (hbb:∀ x:Str,x ≠ "__name__" -> mb x=bootBuiltins x) (hlim:s₁.heap.NoLimit) (hg:s₁.gens = #[])
  (ha:s₁.heap.get? a=some { cls:=.type "list",data:=.seq vs.toArray }) (hi:IntsAre vs ns) (hl:ns.length<=sizeLine) (hr:Room k callerA)
  (hT:∀ t∈tabs,PySem.W.CodeHd s₁.heap t.1 t.2.1/\s₁.heap.get? t.2.1=some (tabObj #[])) (hNd:(tabs.map (·.2.1)).Nodup) (hNo:noTabs K=true)
  (hbm:∃ bm ob,mg "__builtins__" = some (.ref bm)/\bm≠builtinsNs/\s₁.heap.get? bm=some ob/\ob.cls = .type "module" /\ ob.dict=some builtinsNs/\ob.data = .plain)
  (F:∀ base:Heap,K.In base->base.Ns mainGlobals mg->(∀ t∈tabs,LamAt mg base t.1 t.2.1)->FnOk P w K mg base CX k fa fd [x] sp) (hbind:∀ (s:Shared) (u:Value),BindsTo s fd ⟨[u],[]⟩ [(x,u)])
  (hsp:∀ H:Hp,(∀ t∈tabs,H t.2.1=some (.tbl t.2.2.1 t.2.2.2))->SqL K H a (ns.map V.int)->sp [.ref a] H (fun v _=>v = .bl true) fun _ _ _=>False)
  (hCX:∀ H e s',CX [] H s₁ (fun _ _ _=>False) e s'->False) :
  codeAny (model P w) callerA (.call (.ref fa) ⟨[.ref a],[]⟩) (fun r s'=>r = .ok (.ret (.bool true))/\OldK s₁.heap s'.heap/\s'.os=s₁.os/\AllBare s'.gens) s₁:=by
 have rv:=v_o hi
 have lenV:=hi.length
 have core:∀ H:Hp,(∀ b u,H b=some u->(b=a/\K.lookup a=none/\∃ o xs,u = .frz o (.lst xs))\/(IsTab s₁.heap b/\∃ p q,u = .tbl p q))->(∀ t∈tabs,H t.2.1=some (.tbl t.2.2.1 t.2.2.2))->SqL K H a (ns.map V.int)->HOk P w H s₁.heap ->
   codeAny (model P w) callerA (.call (.ref fa) ⟨[.ref a],[]⟩) (fun r s'=>r = .ok (.ret (.bool true))/\OldK s₁.heap s'.heap/\s'.os=s₁.os/\AllBare s'.gens) s₁:=by
  intro H hO hTb hS hok
  have base_of:∀ {b:Addr} {o:Obj},s₁.heap.get? b=some o->H b=none->(hidT s₁.heap H).get? b=some o:=fun e n=>hidT_get e n
  have noO:∀ {b:Addr} {o:Obj},s₁.heap.get? b=some o->(∀ xs n,o.data ≠ .seq xs n)->o≠tabObj #[]->H b=none:=fun {b o} e d1 d2=>by
   cases q:H b with
   | none=>rfl
   | some u =>
    rcases hO b u q with ⟨rfl,_⟩ | ⟨⟨_,z⟩,_⟩
    ·rw [ha] at e
     cases e
     exact absurd rfl (d1 _ _)
    ·rw [z] at e
     cases e
     exact absurd rfl d2
  have nsK:∀ {b:Addr} {m:Str->Option Value},s₁.heap.Ns b m->(hidT s₁.heap H).Ns b m:=fun {b m} ⟨o,es,ep,e,d,r⟩=>⟨o,es,ep,base_of e (noO e (fun _ _ z=>by rw [d] at z;cases z) (fun z=>by rw [z] at d;cases d)),d,r⟩
  have hKb:K.In (hidT s₁.heap H):=fun b o e=>base_of (KX b o e) (by
   cases q:H b with
   | none=>rfl
   | some u =>
    rcases hO b u q with ⟨rfl,z,_⟩ | ⟨⟨_,z⟩,_⟩
    ·rw [z] at e
     cases e
    ·have e2:=KX b o e
     rw [z] at e2
     cases e2
     exact absurd (show false=true from List.all_eq_true.mp hNo (b,_) (PySem.W.mem_of_lookupK e)) Bool.false_ne_true)
  have hM:Mod K mg (hidT s₁.heap H):=⟨hKb,nsK hns,⟨mb,nsK hb,hbb⟩,let ⟨mc,h1,h2⟩:=hlim;⟨mc,nsK h1,h2⟩⟩
  have e0:Env0 P w K mg (hidT s₁.heap H) callerA [] s₁ H:=⟨rfl,rfl,hM,fun b o e=>of_hidT e,Nat.le_of_eq (l_i _ _),trivial,fun b hb=>absurd (show b∈([]:List Addr) from hb) (by simp),hok,.of_eq hg⟩
  have hLam:∀ t∈tabs,LamAt mg (hidT s₁.heap H) t.1 t.2.1:=fun t ht=>by
   obtain ⟨o,vs,file,tf,flags,tg,inF,text,tt,e1,r1,r2,rest⟩:=(hT t ht).1
   obtain ⟨bm,ob,b1,b2,b3,b4,b5,b6⟩:=hbm
   exact ⟨⟨o,vs,file,tf,flags,tg,inF,text,tt,base_of e1 (noO e1 (fun _ _ z=>by rw [r2] at z;cases z) (fun z=>by rw [z] at r1;cases r1)),r1,r2,rest⟩,bm,ob,b1,b2,base_of b3 (noO b3 (fun _ _ z=>by rw [b6] at z;cases z) (fun z=>by rw [z] at b4;cases b4)),b4,b5,b6⟩
  refine codeAny_mono ((F _ hKb (nsK hns) hLam).run callerA [] s₁ H ⟨[.ref a],[]⟩ [.ref a] [.ref a] _ _ hr e0 (hbind s₁ (.ref a)) (.cons rfl .nil) (hsp H hTb hS)) fun r s' h=>?_
  cases r with
  | error e=>exact (hCX H e s' h).elim
  | ok fl =>
   cases fl with
   | next=>exact False.elim h
   | brk=>exact False.elim h
   | cont=>exact False.elim h
   | ret u =>
    obtain ⟨v,H',os,bare,un,hok',r',q⟩:=h
    have q':v = .bl true:=q
    subst q'
    obtain rfl:u=Value.bool true:=r'
    refine ⟨rfl,⟨fun b o e=>?_,fun b o e=>un.there b o e (by simp)⟩,os,bare⟩
    cases q:H b with
    | none=>exact .inl (un.keep b o e q (by intro z;exact absurd (show b∈([]:List Addr) from z) (by simp)) (by simp))
    | some u =>
     rcases hO b u q with ⟨_,_,ob,xs,rfl⟩ | ⟨⟨⟨c,hc⟩,z⟩,p,q2,rfl⟩
     ·have z2:=un.frzs b ob _ q
      obtain ⟨e1,_⟩:=hok b _ q
      obtain ⟨e2,_⟩:=hok' b _ z2
      rw [e] at e1
      cases e1
      exact .inl e2
     ·obtain ⟨ps,e2,_⟩:=hok' b _ (un.tbls b p q2 q)
      have e1:=z
      rw [e] at z
      cases z
      exact .inr (.inl ⟨(hc.tab e1).isCodeTable,rfl,#[],ps,rfl,by rw [e2];simp⟩)
 have tabOk:∀ b u,tabH tabs b=some u->IsTab s₁.heap b/\∃ p q,u = .tbl p q:=fun b u e=>by
  obtain ⟨t,ht,rfl,rfl⟩:=tabH_of e
  exact ⟨⟨⟨_,(hT t ht).1⟩,(hT t ht).2⟩,_,_,rfl⟩
 have tabHok:∀ {H:Hp} {b:Addr} {u:HO},tabH tabs b=some u->ObjOk P w H s₁.heap b u:=fun {H b u} e=>by
  obtain ⟨⟨_,z⟩,p,q,rfl⟩:=tabOk b u e
  exact ⟨#[],z,trivial,.inl rfl⟩
 cases hk:K.lookup a with
 | some o =>
  have e:=KX a o hk
  rw [ha] at e
  cases e
  exact core (tabH tabs) (fun b u e=>.inr (tabOk b u e)) (p_r hNd) (.inr ⟨_,vs.toArray,_,hk,rfl,rfl,rfl,by rw [List.size_toArray,lenV];exact hl,by simpa using rv⟩) (fun b u e=>tabHok e)
 | none =>
  have nt:∀ t∈tabs,t.2.1≠a:=fun t ht z=>by
   have:=(hT t ht).2
   rw [z,ha] at this
   cases this
  refine core (fun b=>if b=a then some (.frz { cls:=.type "list",data:=.seq vs.toArray } (.lst (ns.map V.int))) else tabH tabs b) (fun b u e=>?_) (fun t ht=>(if_neg (nt t ht)).trans (p_r hNd t ht)) (.inl (.inr ⟨{ cls:=.type "list",data:=.seq vs.toArray },if_pos rfl⟩)) (fun b u e=>?_)
  ·by_cases hb:b=a
   ·have e':=(if_pos hb).symm.trans e
    cases e'
    exact .inl ⟨hb,hk,_,_,rfl⟩
   ·exact .inr (tabOk b u ((if_neg hb).symm.trans e))
  ·by_cases hb:b=a
   ·have e':=(if_pos hb).symm.trans e
    cases e'
    subst hb
    exact ⟨ha,by rw [List.length_map];exact hl,vs,_,rv,ha⟩
   ·exact tabHok ((if_neg hb).symm.trans e)
theorem walk_ofT{l:PySem.W.OpenLaw}{n k:Nat}{q:Program}{loose:List Str}{XP:(Str->Option Value)->Heap->Prop}{YP:World->Heap->Prop}{d:DefRec}{K:Params->PySem.W.Frag}{x:Str}
  (hn:l.most=some n) (hn2:n<=sizeLine) (hdf:d.params.defaults=[]) (hr:Room k callerA)
  (hY:∀ (w:World) (h:Heap),YP w h->(K w.params).In h)
  (F:∀ (w:World) (mg mb:Str->Option Value) (ls:List Str) (mean:ExcName->Option Value) (fa:Addr) (h:Heap),(K w.params).In h->h.Ns mainGlobals mg->Top q ls mean mg mb h->mg d.name=some (.ref fa) ->
   ∃ (fd:FuncData) (tabs:List Tab4) (sp:Sp),(∀ (s:Shared) (u:Value),BindsTo s fd ⟨[u],[]⟩ [(x,u)])/\(∀ t∈tabs,PySem.W.CodeHd h t.1 t.2.1/\h.get? t.2.1=some (tabObj #[]))/\(tabs.map (·.2.1)).Nodup/\noTabs (K w.params)=true /\
    (∀ base:Heap,(K w.params).In base->base.Ns mainGlobals mg->(∀ t∈tabs,LamAt mg base t.1 t.2.1)->FnOk l.prog w (K w.params) mg base CX0 k fa fd [x] sp) /\
    ∀ (H:Hp) (a:Addr) (ns:List Int),ns.length<=n->(∀ t∈tabs,H t.2.1=some (.tbl t.2.2.1 t.2.2.2))->SqL (K w.params) H a (ns.map V.int)->sp [.ref a] H (fun v _=>v = .bl true) fun _ _ _=>False) :
  PySem.W.WalkO q loose XP YP l.row.toRowW d [] (fun f vs=>PySem.call f vs):=by
 refine Att.attach_call hn hdf fun w s₀ s₁ mg mb fa o pm cd doc a vs ns G Y ho hd hcd hmg hobj hints hlen hg=>?_
 have KX:=hY w _ Y
 obtain ⟨fd,tabs,sp,hb,hT,hNd,hNo,hF,hsp⟩:=F w mg mb _ _ fa _ KX G.T.g G.T hmg
 exact l_r KX G.T.g G.T.b G.T.builtins G.T.nolimit hg hobj hints (Nat.le_trans hlen hn2) hr hT hNd hNo G.T.bmain hF hb (fun H h1 h2=>hsp H a ns hlen h1 h2) fun _ _ _ z=>z
section
variable {X:Cx} {pins:List (Addr×Obj)} {σ:St} {H:Hp} {s:Shared}
def IsCd(H:Hp)(c:Addr)(qual:Str):Prop:=∃ oc u vs tq,H c=some (.frz oc u)/\oc.data = .fields vs/\vs[1]? = some (.str qual tq)
theorem IsCd.same{H H':Hp}{c:Addr}{qual:Str}(x:IsCd H c qual)(u:Same H H'):IsCd H' c qual:=by
 obtain ⟨oc,w,vs,tq,a,b⟩:=x
 exact ⟨oc,w,vs,tq,u _ _ a,b⟩
def tCallV(P:Program)(w:World)(K:PySem.W.Frag)(mg:Str->Option Value)(base:Heap)(A:Around)(i:Nat)(t:TA):TE:=fun σ H Q=>∃ f,σ[i]? = some (some (.ref f))/\∃ fo:Obj,(K.lookup f=some fo\/∃ u,H f=some (.frz fo u))/\(∃ fd,fo.data = .func fd) /\
 t σ H fun vs H1=>(K.lookup f=some fo\/∃ u,H1 f=some (.frz fo u))/\∃ k fd ps sp,FnOk P w K mg base CX0 k f fd ps sp/\Room k A/\Binds K fd ps []/\sp vs H1 Q E0
theorem o_s{i:Nat}{x:Str}{p pos:Pos}{e:Expr}{es:List Expr}{t:TA}(hN:X.N[i]? = some x)(hv:Vis X.env.scope x)(ha:PA X (e::es) t)(hd:(x == ("__debug__" : Str))=false:=by decide)(hcd:(x == ("__classdict__" : Str))=false:=by decide)
  (he:starEach (e::es) X.env=(false,eval e X.env)::starEach es X.env:=by rfl) (hpl:(backTo pos (starEach es X.env)).any (·.1)=false:=by rfl):PE X (.Call (.Name x p) (e::es) [] pos) (tCallV X.prog X.w X.K X.mg X.base X.A i t):=by
 intro pins s σ H Q I h
 obtain ⟨f,hσ,fo,h0,⟨fd0,hfd⟩,h⟩:=h
 have at_:∀ {H:Hp} {s:Shared},Inv X pins σ H s->(X.K.lookup f=some fo\/∃ u,H f=some (.frz fo u))->(PySem.W.Frag.In [(f,fo)] s.heap):=fun {H s} I h0=>by
  have hg:s.heap.get? f=some fo:=by
   rcases h0 with h0 | ⟨u,h0⟩
   ·exact I.kIn _ _ h0
   ·exact (I.hok f _ h0).1
  intro a o e
  rw [List.lookup_cons] at e
  cases c:(a == f) with
  | true =>
   rw [c] at e
   cases e
   rw [eq_of_beq c]
   exact hg
  | false=>rw [c] at e;cases e
 have hkeep:keepIn [(f,fo)] (.ref f)=true:=by
  obtain ⟨oc,od,dt,sl⟩:=fo
  have hfd':dt = .func fd0:=hfd
  subst hfd'
  unfold keepIn
  simp
 refine wpAny_Call_Name_kw (thn (pe_var hN hv hd hcd pins s σ H (fun v H'=>v = .ref f/\H'=H) I ⟨_,hσ,rfl,rfl⟩) fun u s1 ⟨v,H',I1,r,hv',hH⟩=>?_)
 subst hv' hH
 cases r
 refine callWith_K (K:=[(f,fo)]) (h₀:=s1.heap) (at_ I1 h0) hkeep (thn (ha pos pins s1 σ _ _ I1 h) fun us s2 ⟨vs,H1,I2,r,q⟩=>?_) he hpl
 obtain ⟨h2,k,fd,ps,sp,F,hr,hb,q⟩:=q
 exact ⟨at_ I2 h2,k_v (dvs:=[]) (ds:=[]) F hr hb .nil pass0 I2 r (by rw [List.append_nil];exact q)⟩
end
def cloCx(P:Program)(w:World)(K:PySem.W.Frag)(mg:Str->Option Value)(base:Heap)(N:List Str)(qual:Str)(scope:Scope)(f:Addr)(cd:Value)(clos:List (Str×Addr))(A:Around)(outer:List Env)(s:Shared)(H:Hp):Cx where
 prog:=P
 w:=w
 K:=K
 mg:=mg
 base:=base
 A:=A.deeper (envX qual scope s.heap.objs.size f cd clos)
 N:=N
 s₀:=s
 H₀:=H
 env:=envX qual scope s.heap.objs.size f cd clos
 outer:=outer
 stack:=envX qual scope s.heap.objs.size f cd clos::outer
 ex:=[]
 calm:=true
 fn:=fun _=>false
 pn:=[]
 xe:=fun _ _=>False
section
variable {X:Cx}
theorem pe_fnV{x:Str}{p:Pos}{f:Addr}(hg:Gl X x)(hm:X.mg x=some (.ref f))(hdb:(x == ("__debug__" : Str))=false:=by decide):PE X (.Name x p) (tC (.ref f)):=fun pins s σ H Q I h=>s_r I hg hm ⟨.ref f,H,I,rfl,h⟩ hdb
end
end L2
namespace L2
open PySem PySem.Spec PyProof.Rows
end L2
namespace L2
open PySem PySem.Spec PyProof.Rows
end L2
namespace L2
open PySem PySem.Spec PyProof.Rows
def rCatE:R2:=fun x y H Q=>∃ a b xs ys,x = .ref a/\y = .ref b/\H a=some (.tup xs)/\H b=some (.tup ys)/\xs.length+ys.length<=sizeLine/\∀ p H',Same H H'->H' p=some (.tup (xs++ys))->Q (.ref p) H'
theorem op_catE{X:Cx}:OpR X (binaryOp .Add) rCatE:=by
 intro pins s σ H x y v u Q I rx ry h
 obtain ⟨a,b,xs,ys,rfl,rfl,ha,hb,hz,q⟩:=h
 by_cases he:xs=[]
 ·subst he
  cases rx
  cases ry
  obtain ⟨its,r1,p1,_⟩:=I.tuple (SqT.of ha)
  obtain ⟨its2,r2,p2,_⟩:=I.tuple (SqT.of hb)
  cases r1
  obtain ⟨⟨cls,dd,data,sl⟩,ho,hc,n,hd⟩:=id p1
  obtain ⟨⟨cls2,dd2,data2,sl2⟩,ho2,hc2,n2,hd2⟩:=id p2
  simp only at hc hd hc2 hd2
  subst hc hd hc2 hd2
  exact concat_meets ⟨_,ho,rfl⟩ ⟨_,ho2,rfl⟩ noFill_tuple_add seq_tuple_add PySem.F.slot_tuple_add PySem.F.entry_tuple_add (PySem.F.args_tuple_add_2 _ _)
   (tuple_addW0 a b _ _ n n2 dd dd2 sl sl2 (by simp)) ⟨ho,ho2,⟨.ref b,H,I,rfl,q b H (Same.refl H) hb⟩⟩
 ·exact op_catT pins s σ H _ _ v u Q I rx ry ⟨a,b,xs,ys,rfl,rfl,SqT.of ha,SqT.of hb,he,hz,fun e=>q a H (Same.refl H) (by rw [e,List.append_nil];exact ha),fun _ p hp=>q p _ (z_f hp _) z_c⟩
end L2
namespace L2
open PySem
end L2
namespace L2
open PySem
end L2
namespace L2
open PySem PySem.Spec PyProof.Rows
theorem ext_tup(D T:Addr)(xs ys:Array Value)(k j:Nat)(dd:Option Addr)(sl:Array (Option Value))(h0:¬(!xs.isEmpty&&Builtin.List.listTooLong (xs.size+ys.size))=true)(h1:xs.size<=sizeLine)(h2:xs.size+ys.size<=sizeLine+1) :
  Meets (Builtin.«list.extend» ⟨[.ref D,.ref T],[]⟩) (fun _ R s=>s.heap.get? D=some { cls:=.type "list",dict:=none,data:=.seq xs k,slots:=#[] }/\s.heap.get? T=some { cls:=.type "tuple",dict:=dd,data:=.seq ys j,slots:=sl } /\
   R (.ok (.ret Value.none)) { s with heap:=s.heap.update D (Obj.mapSeq fun x=>x++ys),toks:=s.toks }) :=
 .of_wp fun prog w A R s h=>by
  obtain ⟨hp,g,d,tk,os⟩:=s
  obtain ⟨hD,hT,h⟩:=h
  have f1:=AutoSeq1.idx_int
  have f2:=AutoSeq1.sub_tuple_tuple
  have f3:=AutoSeq1.sub_list_list
  have f4:=AutoSeq1.sub_tuple_list
  have f5:=AutoSeq1.sub_list_tuple
  have hz':(xs++ys).size<=sizeLine+1:=by rw [Array.size_append];exact h2
  wp_walk using (wpAny_updateSeq hD rfl (hz:=h1) (_hz':=hz')),wpAny_loadPart' hD,wpAny_loadPart' hT
  exact ⟨_,rfl,h⟩
def rExtendT:V->List V->Hp->VK->Prop:=fun x vs H Q=>∃ l b xs zs,x = .ref l/\vs=[.ref b]/\H l=some (.lst xs)/\H b=some (.tup zs)/\xs.length+zs.length<=sizeLine/\Q .non (upd H l (.lst (xs++zs)))
theorem m_a{X:Cx}:MtM X "list.extend" rExtendT:=by
 intro pins s σ H x vs v us Q I rx rv h
 obtain ⟨l,b,xs,zs,rfl,rfl,hH,hB,hz,q⟩:=h
 cases rx
 obtain ⟨u,rfl,ru⟩:=rv.one
 cases ru
 obtain ⟨z,its,n,r,hl,e⟩:=I.lstM hH
 obtain ⟨its2,r2,p2,_⟩:=I.tuple (SqT.of hB)
 have hl2:=r2.length
 obtain ⟨⟨cls,dd,data,sl⟩,ho,hc,n2,hd⟩:=id p2
 simp only at hc hd
 subst hc hd
 have hsz:its.toArray.size+its2.toArray.size<=sizeLine:=by rw [List.size_toArray,List.size_toArray];lia
 have hlong:¬(!its.toArray.isEmpty&&Builtin.List.listTooLong (its.toArray.size+its2.toArray.size))=true:=by
  rw [notLongL hsz,Bool.and_false];exact Bool.false_ne_true
 refine call_meets PySem.F.slot_list_extend ⟨_,e,rfl⟩ PySem.F.entry_list_extend (PySem.F.args_list_extend_2 _ _)
  (ext_tup l b its.toArray its2.toArray n n2 dd sl hlong (by rw [List.size_toArray];lia) (by lia)) ⟨e,ho,?_⟩
 refine ⟨.non,_,I.lset (its':=its++its2) hH e (by simp) (r.append r2) ?_,rfl,q⟩
 rw [List.length_append];lia
end L2
namespace HT
open PySem PyProof.Rows
section
variable {prog:Program} {w:World} {A:Around} {s:Shared} {E:Value->Shared->Prop}
theorem getItem_tuple_whole{t sl:Addr}{items:Array Value}{vl vu:Value}{lo hi:Option Int}{Q:Value->Shared->Prop}(ht:IsTup s.heap t items)(hs:s.heap.IsSliceOf sl vl vu .none)(pl:IsPart vl lo)(pu:IsPart vu hi)
  (hw:sIx items.size 0 lo=0/\sIx items.size items.size hi=items.size) (h:Q (.ref t) s):wpAny (model prog w) A (getItem (.ref t) (.ref sl)) Q E s:=by
 obtain ⟨os,hos,hcs,hds⟩:=id hs
 have hTs:s.TypeIs (.ref sl) "slice" := ⟨os,hos,hcs⟩
 unfold getItem
 try with_reducible refine wpAny_holding ?_
 first | refine wpAny_bind (wpAny_pure ?_) | skip
 refine wpAny_bind (wpAny_sequenceKey ht.typeIs (by decide) ?_)
 refine wpAny_bind (wpAny_callSpecial?_slot (name:=Str.ofString "__getitem__") ht.typeIs PyProof.Rows.slot_tuple_getitem
  (wpAny_call_entry PyProof.Rows.slot_tuple_getitem ht.typeIs entry_tuple_getitem ?_ (args_tuple_getitem _ _)))
 show wpAny _ _ (Builtin.Tuple.tupleItemsOf (.ref t) >>= _) _ _ s
 refine wpAny_bind (tupleItemsOf_ ht ?_)
 refine wpAny_bind (wpAny_typeOf hTs ?_)
 rw [if_pos (by decide)]
 refine wpAny_bind (w_p hs pl pu ?_)
 have hyes:((((sIx items.size 0 lo:Nat):Int) == 0&&(1:Int) == 1&&(sIx items.size items.size hi-sIx items.size 0 lo) == items.size)=true):=by
  rw [hw.1,hw.2]
  simp
 show wpAny _ _ (if (((sIx items.size 0 lo:Nat):Int) == 0&&(1:Int) == 1&&(sIx items.size items.size hi-sIx items.size 0 lo) == items.size)=true then _ else _) _ _ s
 rw [if_pos hyes]
 refine wpAny_bind (m:=Builtin.Tuple.tupleIsExact _) (wpAny_bind (wpAny_typeOf ht.typeIs (wpAny_pure ?_)))
 rw [if_pos (by decide)]
 exact wpAny_bind (wpAny_rule (wpAny_pure ⟨_,rfl,wpAny_pure h⟩))
end
end HT
namespace L2
open PySem PySem.Spec PyProof.Rows
def rSlE:V->Option Int->Option Int->Hp->VK->Prop:=fun x lo hi H Q=>∃ a xs,x = .ref a/\H a=some (.tup xs)/\∀ p H',Same H H'->H' p=some (.tup (cutV xs lo hi))->Q (.ref p) H'
theorem j_c{X:Cx}:SlR X rSlE:=by
 intro pins s σ H x v vl vu lo hi sl Q I rx hs pl pu h
 obtain ⟨a,xs,rfl,hx,q⟩:=h
 by_cases hw:HT.sIx xs.length 0 lo=0/\HT.sIx xs.length xs.length hi=xs.length
 ·cases rx
  obtain ⟨its,r,ht,hz⟩:=I.tuple (SqT.of hx)
  have hlen:its.toArray.size=xs.length:=by rw [List.size_toArray];exact r.length.symm
  refine ⟨"tuple",_,PyProof.Rows.slot_tuple_getitem.lookup,ht.typeIs,?_⟩
  refine HT.getItem_tuple_whole ht hs pl pu (by rw [hlen];exact hw) ?_
  refine ⟨.ref a,H,I,rfl,q a H (Same.refl H) ?_⟩
  have:cutV xs lo hi=xs:=by
   unfold cutV
   rw [hw.1,hw.2]
   simp
  rw [this]
  exact hx
 ·exact sl_tup pins s σ H _ v vl vu lo hi sl Q I rx hs pl pu ⟨a,xs,rfl,SqT.of hx,hw,fun p hp=>q p _ (z_f hp _) z_c⟩
open PySem
def Msk(m:Nat):Prop:=m=7\/m=31\/m=127
theorem k_a(x m:Nat):x%(m+1)<=m:=Nat.le_of_lt_succ (Nat.mod_lt _ (Nat.succ_pos _))
def lp(m:Nat):Nat->Nat×Nat->Nat×Nat
 | 0,x=>x
 | n+1,x=>lp m n (SetTable.leap m x.1 x.2)
theorem r_z(m:Nat):∀ (a b:Nat) (x:Nat×Nat),lp m (a+b) x=lp m b (lp m a x)
 | 0,b,x=>by rw [Nat.zero_add];rfl
 | a+1,b,x=>by rw [Nat.add_right_comm];exact r_z m a b _
theorem l_v(m:Nat):∀ (n:Nat) (x:Nat×Nat),(lp m n x).2=x.2/32^n
 | 0,x=>by show x.2=_;simp
 | n+1,x=>by
  show (lp m n _).2=_
  rw [l_v m n]
  show x.2/32/32^n=_
  rw [Nat.div_div_eq_div_mul,Nat.pow_succ,Nat.mul_comm]
theorem lp_le(m:Nat):∀ (n:Nat) (x:Nat×Nat),x.1<=m->(lp m n x).1<=m
 | 0,x,h=>h
 | n+1,x,h=>lp_le m n _ (k_a _ _)
def orbL(m:Nat):Nat->Nat->List Nat
 | 0,_=>[]
 | n+1,i=>i::orbL m n ((i*5+1)%(m+1))
theorem k_k(m:Nat):∀ (n i x:Nat),x∈orbL m n i->∃ q,q<n/\lp m q (i,0)=(x,0)
 | 0,i,x,h=>nomatch h
 | n+1,i,x,h=>by
  rcases List.mem_cons.mp h with rfl | h
  ·exact ⟨0,Nat.succ_pos _,rfl⟩
  ·obtain ⟨q,h1,h2⟩:=k_k m n _ x h
   refine ⟨q+1,by lia,?_⟩
   show lp m q (SetTable.leap m i 0)=_
   rw [show SetTable.leap m i 0=((i*5+1)%(m+1),0) by unfold SetTable.leap;simp]
   exact h2
theorem orb_all{m:Nat}(hm:Msk m):(List.range (m+1)).all (fun j=>(orbL m (m+1) 0).contains j)=true/\lp m (m+1) (0,0)=(0,0):=by
 rcases hm with rfl | rfl | rfl<;>exact ⟨by decide +kernel,by decide +kernel⟩
theorem cyc{m i j:Nat}(hm:Msk m)(hi:i<=m)(hj:j<=m):∃ q,q<=m/\lp m q (i,0)=(j,0):=by
 obtain ⟨h1,h2⟩:=orb_all hm
 have get:∀ x,x<=m->∃ q,q<m+1/\lp m q (0,0)=(x,0):=fun x hx=>by
  have:=List.all_eq_true.mp h1 x (List.mem_range.mpr (by lia))
  exact k_k m (m+1) 0 x (List.contains_iff_mem.mp this)
 obtain ⟨a,ha,ea⟩:=get i hi
 obtain ⟨b,hb,eb⟩:=get j hj
 by_cases c:a<=b
 ·refine ⟨b-a,by lia,?_⟩
  rw [<-ea,<-r_z,show a+(b-a)=b by lia,eb]
 ·refine ⟨m+1+b-a,by lia,?_⟩
  rw [<-ea,<-r_z,show a+(m+1+b-a)=m+1+b by lia,r_z,h2,eb]
theorem heads{m i p j:Nat}(hm:Msk m)(hi:i<=m)(hp:p<2^64)(hj:j<=m):∃ q,q<=13+m/\(lp m q (i,p)).1=j:=by
 have e2:(lp m 13 (i,p)).2=0:=by
  rw [l_v]
  exact Nat.div_eq_of_lt (Nat.lt_of_lt_of_le hp (by decide))
 obtain ⟨q,h1,h2⟩:=cyc hm (lp_le m 13 (i,p) hi) hj
 refine ⟨13+q,by lia,?_⟩
 rw [r_z,show lp m 13 (i,p)=((lp m 13 (i,p)).1,0) from Prod.ext rfl e2,h2]
def adv(t:SetTable):Nat->SetTable.Probe->SetTable.Probe
 | 0,p=>p
 | n+1,p=>adv t n (t.advance p)
theorem m_i(t:SetTable):∀ (a b:Nat) (p:SetTable.Probe),adv t (a+b) p=adv t b (adv t a p)
 | 0,b,p=>by rw [Nat.zero_add];rfl
 | a+1,b,p=>by rw [Nat.add_right_comm];exact m_i t a b _
def hd(t:SetTable)(x:Nat×Nat)(d:Option Nat):SetTable.Probe:={ j:=x.1,more:=SetTable.runEnd t.mask x.1-x.1,i:=x.1,perturb:=x.2,dummy:=d }
theorem run_le(m i:Nat):SetTable.runEnd m i-i<=9:=by
 unfold SetTable.runEnd
 split<;>lia
theorem m_j(t:SetTable):∀ (k:Nat) (p:SetTable.Probe),p.more=k->adv t (k+1) p=hd t (SetTable.leap t.mask p.i p.perturb) p.dummy
 | 0,p,h=>by
  show t.advance p=_
  unfold SetTable.advance
  rw [if_neg (by lia)]
  rfl
 | k+1,p,h=>by
  show adv t (k+1) (t.advance p)=_
  have e:t.advance p={ p with j:=p.j+1,more:=p.more-1 }:=by
   unfold SetTable.advance
   rw [if_pos (by lia)]
  rw [e]
  exact m_j t k _ (by show p.more-1=k;lia)
theorem r_g(t:SetTable)(d:Option Nat):∀ (q:Nat) (x:Nat×Nat),∃ n,n<=10*q/\adv t n (hd t x d)=hd t (lp t.mask q x) d
 | 0,x=>⟨0,Nat.le_refl _,rfl⟩
 | q+1,x=>by
  obtain ⟨n,h1,h2⟩:=r_g t d q (SetTable.leap t.mask x.1 x.2)
  have e:=m_j t _ (hd t x d) rfl
  have:=run_le t.mask x.1
  refine ⟨(hd t x d).more+1+n,?_,?_⟩
  ·show SetTable.runEnd t.mask x.1-x.1+1+n<=_
   lia
  ·rw [m_i,e]
   exact h2
theorem s_a{t:SetTable}(hd:t.dummies = #[])(j:Nat):t.slot j = .empty\/∃ i,t.slot j = .live i/\t.place[i]? = some j:=by
 unfold SetTable.slot
 dsimp only
 split
 ·rename_i h
  exact .inr ⟨_,rfl,eq_of_beq h⟩
 ·left
  rw [if_neg]
  rw [hd]
  unfold SetTable.has
  simp
theorem m_f{t:SetTable}(hd:t.dummies = #[]){j:Nat}(h:j∉t.place.toList):t.slot j = .empty:=by
 rcases s_a hd j with e | ⟨i,_,e⟩
 ·exact e
 ·exfalso
  rw [<-Array.getElem?_toList] at e
  exact h (List.mem_of_getElem? e)
theorem u_d{xs ys:List Nat}(h:xs.Nodup)(hs:∀ x∈xs,x∈ys):xs.length<=ys.length:=by
 induction xs generalizing ys with
 | nil=>exact Nat.zero_le _
 | cons x xs ih =>
  have hx:=hs x List.mem_cons_self
  have h1:=ih (ys:=ys.erase x) (List.nodup_cons.mp h).2 fun y hy=>(List.mem_erase_of_ne (show y≠x from fun e=>(List.nodup_cons.mp h).1 (by rw [<-e];exact hy))).mpr (hs y (List.mem_cons_of_mem _ hy))
  have h2:=List.length_erase_of_mem hx
  have h3:0<ys.length:=List.length_pos_of_mem hx
  rw [List.length_cons]
  lia
theorem n_q{xs:List Nat}{m:Nat}(h:xs.length<=m):∃ j,j<=m/\j∉xs:=by
 by_cases c:∃ j,j<=m/\j∉xs
 ·exact c
 ·exfalso
  have:=u_d (xs:=List.range (m+1)) (ys:=xs) List.nodup_range fun x hx=>by
   by_cases e:x∈xs
   ·exact e
   ·exact absurd ⟨x,by have:=List.mem_range.mp hx;lia,e⟩ c
  rw [List.length_range] at this
  lia
theorem m_p(h:Int):SetTable.bits h<2^64:=by
 unfold SetTable.bits
 have:=Int.emod_lt_of_pos h (show (0:Int)<2^64 by decide)
 lia
structure Tb(t:SetTable)(n:Nat):Prop where
 msk:Msk t.mask
 dum:t.dummies = #[]
 size:t.place.size=n
 room:n*5<t.mask*3
theorem Tb.start{t:SetTable}{n:Nat}(T:Tb t n)(h:Int):∃ k,k<10*SetTable.turns t.mask/\t.slot (adv t k (t.probeStart h)).j = .empty:=by
 have hr:=T.room
 have hs:=T.size
 obtain ⟨j,h1,h2⟩:=n_q (xs:=t.place.toList) (m:=t.mask) (by rw [Array.length_toList];lia)
 obtain ⟨q,h3,h4⟩:=heads T.msk (i:=SetTable.bits h%(t.mask+1)) (k_a _ _) (m_p h) h1
 obtain ⟨k,h5,h6⟩:=r_g t none q (SetTable.bits h%(t.mask+1),SetTable.bits h)
 refine ⟨k,by unfold SetTable.turns;lia,?_⟩
 have e:t.probeStart h=hd t (SetTable.bits h%(t.mask+1),SetTable.bits h) none:=rfl
 rw [e,h6]
 show t.slot (lp t.mask q _).1 = .empty
 rw [h4]
 exact m_f T.dum h2
theorem w_k(t:SetTable)(p:SetTable.Probe):(t.advance p).dummy=p.dummy:=by
 unfold SetTable.advance
 split<;>rfl
theorem o_u{t:SetTable}{hashAt:Nat->Int}{h:Int}(hd:t.dummies = #[]):∀ (n fuel:Nat) (p:SetTable.Probe),t.slot (adv t n p).j = .empty->n<fuel ->
  (∃ j,SetTable.probe.go t hashAt h fuel p=some (.empty j p.dummy))\/∃ j i q m,SetTable.probe.go t hashAt h fuel p=some (.candidate j i q)/\t.slot j = .live i/\t.place[i]? = some j/\m<n/\t.slot (adv t m q).j = .empty/\q.dummy=p.dummy
 | n,0,p,_,hf=>absurd hf (Nat.not_lt_zero _)
 | n,fuel+1,p,he,hf=>by
  unfold SetTable.probe.go
  rcases s_a hd p.j with e | ⟨i,e,hpi⟩
  ·left
   rw [e]
   exact ⟨_,rfl⟩
  ·rw [e]
   dsimp only
   match n,he,hf with
   | 0,he,_=>rw [show adv t 0 p=p from rfl,e] at he;cases he
   | n+1,he,hf =>
    have he':t.slot (adv t n (t.advance p)).j = .empty:=he
    by_cases c:(hashAt i == h)=true
    ·rw [if_pos c]
     exact .inr ⟨_,_,_,n,rfl,e,hpi,Nat.lt_succ_self _,he',w_k t p⟩
    ·rw [if_neg c]
     rcases o_u hd n fuel (t.advance p) he' (by lia) with ⟨j,h1⟩ | ⟨j,i',q,m,h1,h2,h3,h4,h5,h6⟩
     ·exact .inl ⟨j,by rw [h1,w_k]⟩
     ·exact .inr ⟨j,i',q,m,h1,h2,h3,by lia,h5,by rw [h6,w_k]⟩
theorem k_t{t:SetTable}{hashAt:Nat->Int}{h:Int}(hd:t.dummies = #[]){n:Nat}{p:SetTable.Probe}(he:t.slot (adv t n p).j = .empty)(hn:n<10*SetTable.turns t.mask)(hp:p.dummy=none) :
  (∃ j,t.probe hashAt h p=some (.empty j none))\/∃ j i q m,t.probe hashAt h p=some (.candidate j i q)/\t.slot j = .live i/\t.place[i]? = some j/\m<n/\t.slot (adv t m q).j = .empty/\q.dummy=none:=by
 rcases o_u (hashAt:=hashAt) (h:=h) hd n _ p he hn with ⟨j,h1⟩ | ⟨j,i,q,m,h1,h2,h3,h4,h5,h6⟩
 ·exact .inl ⟨j,by rw [hp] at h1;exact h1⟩
 ·exact .inr ⟨j,i,q,m,h1,h2,h3,h4,h5,by rw [h6,hp]⟩
theorem r_s{m:Nat}{owner:Array (Option Nat)}:∀ (q fuel i p:Nat),owner[(lp m q (i,p)).1]? = some none->q<fuel->∃ j,SetTable.layClean.free m owner fuel i p=some j/\owner[j]? = some none
 | q,0,i,p,_,h=>absurd h (Nat.not_lt_zero _)
 | q,fuel+1,i,p,he,hf=>by
  unfold SetTable.layClean.free
  cases e:(List.range (SetTable.runEnd m i+1-i)).find? fun k=>(owner.getD (i+k) (some 0)).isNone with
  | some k =>
   dsimp only
   refine ⟨_,rfl,?_⟩
   have:=List.find?_some e
   rw [Array.getD_eq_getD_getElem?] at this
   cases e2:owner[i+k]? with
   | none=>rw [e2] at this;cases this
   | some v =>
    rw [e2] at this
    cases v with
    | none=>rfl
    | some x=>cases this
  | none =>
   dsimp only
   match q,he,hf with
   | 0,he,_ =>
    exfalso
    have he':owner[i]? = some none:=he
    have h1:=List.find?_eq_none.mp e 0 (List.mem_range.mpr (by unfold SetTable.runEnd;split<;>lia))
    rw [Nat.add_zero,Array.getD_eq_getD_getElem?,he'] at h1
    exact h1 rfl
   | q+1,he,hf=>exact r_s q fuel _ _ he (by lia)
structure Own(m:Nat)(owner:Array (Option Nat))(k:Nat):Prop where
 size:owner.size=m+1
 cnt:owner.toList.countP Option.isSome=k
 low:∀ x,some x∈owner.toList->x<k
theorem Own.next{m k:Nat}{owner:Array (Option Nat)}(hm:Msk m)(O:Own m owner k)(hk:k<=m)(h:Int):∃ j,SetTable.layClean.free m owner (SetTable.turns m) (SetTable.bits h%(m+1)) (SetTable.bits h)=some j/\Own m (owner.setIfInBounds j (some k)) (k+1):=by
 have hsz:=O.size
 have hc:=O.cnt
 obtain ⟨j,h1,h2⟩:∃ j:Nat,owner[j]? = some none/\j<=m:=by
  by_cases c:∀ v∈owner.toList,Option.isSome v=true
  ·exfalso
   have:=List.countP_eq_length.mpr c
   rw [Array.length_toList] at this
   lia
  ·obtain ⟨v,hv⟩:=Classical.not_forall.mp c
   have hv2:v∈owner.toList/\v=none:=by
    refine ⟨Classical.byContradiction fun z=>hv fun y=>absurd y z,?_⟩
    cases v with
    | none=>rfl
    | some x=>exact absurd (fun _=>rfl) hv
   obtain ⟨h1,rfl⟩:=hv2
   obtain ⟨j,hj⟩:=List.getElem?_of_mem h1
   have:=(List.getElem?_eq_some_iff.mp hj).1
   rw [Array.length_toList] at this
   rw [Array.getElem?_toList] at hj
   exact ⟨j,hj,by lia⟩
 obtain ⟨q,h3,h4⟩:=heads hm (i:=SetTable.bits h%(m+1)) (k_a _ _) (m_p h) h2
 obtain ⟨j',h5,h6⟩:=r_s (m:=m) (owner:=owner) q (SetTable.turns m) _ _ (by rw [h4];exact h1) (by unfold SetTable.turns;lia)
 refine ⟨j',h5,?_⟩
 obtain ⟨hj',e'⟩:=Array.getElem?_eq_some_iff.mp h6
 refine ⟨by rw [Array.size_setIfInBounds];exact hsz,?_,fun x hx=>?_⟩
 ·rw [Array.toList_setIfInBounds,List.countP_set (by rw [Array.length_toList];exact hj'),hc]
  have:owner.toList[j']'(by rw [Array.length_toList];exact hj')=none:=by rw [Array.getElem_toList];exact e'
  rw [this]
  rfl
 ·rw [Array.toList_setIfInBounds] at hx
  rcases List.mem_or_eq_of_mem_set hx with h | h
  ·have:=O.low x h
   lia
  ·cases h
   exact Nat.lt_succ_self _
theorem o_d{m:Nat}(hm:Msk m):∀ (hs:List Int) (owner:Array (Option Nat)) (k:Nat),Own m owner k->k+hs.length<=m+1 ->
  ∃ ow,hs.foldl (fun acc h=>do
   let (owner,k) <-acc
   let j <-SetTable.layClean.free m owner (SetTable.turns m) (SetTable.bits h%(m+1)) (SetTable.bits h)
   pure (owner.setIfInBounds j (some k),k+1)) (some (owner,k))=some (ow,k+hs.length)/\Own m ow (k+hs.length)
 | [],owner,k,O,_=>⟨owner,rfl,O⟩
 | h::hs,owner,k,O,hl=>by
  rw [List.length_cons] at hl
  obtain ⟨j,h1,O1⟩:=O.next hm (by lia) h
  obtain ⟨ow,h2,O2⟩:=o_d hm hs _ _ O1 (by lia)
  refine ⟨ow,?_,by rw [List.length_cons,show k+(hs.length+1)=k+1+hs.length by lia];exact O2⟩
  rw [List.foldl_cons,List.length_cons,show k+(hs.length+1)=k+1+hs.length by lia,<-h2]
  congr 1
  show (SetTable.layClean.free m owner (SetTable.turns m) (SetTable.bits h%(m+1)) (SetTable.bits h) >>= _)=_
  rw [h1]
  rfl
theorem o_r(m:Nat):Own m (Array.replicate (m+1) none) 0:=by
 refine ⟨Array.size_replicate,?_,fun x hx=>?_⟩
 ·rw [Array.toList_replicate,List.countP_replicate]
  rfl
 ·rw [Array.toList_replicate] at hx
  have:=List.eq_of_mem_replicate hx
  cases this
theorem s_q{m:Nat}(hm:Msk m)(hs:Array Int)(hl:hs.size<=m+1):∃ ow,SetTable.layClean m hs=some ow/\Own m ow hs.size:=by
 obtain ⟨ow,h1,h2⟩:=o_d hm hs.toList _ 0 (o_r m) (by rw [Array.length_toList];lia)
 rw [Nat.zero_add,Array.length_toList] at h2
 refine ⟨ow,?_,h2⟩
 unfold SetTable.layClean
 rw [<-Array.foldl_toList]
 rw [h1]
 rfl
theorem o_j(L:List (Option Nat)):∀ n,n<=L.length->((List.range n).filterMap fun j=>((L[j]?).getD none).map (j,·)).length=(L.take n).countP Option.isSome
 | 0,_=>rfl
 | n+1,h=>by
  have hn:n<L.length:=by lia
  rw [List.range_succ,List.filterMap_append,List.length_append,o_j L n (by lia),List.take_add_one,List.getElem?_eq_getElem hn,List.countP_append]
  congr 1
  rw [List.filterMap_cons,List.getElem?_eq_getElem hn]
  cases L[n]<;>rfl
theorem l_q{m finger moves:Nat}{led plain:Bool}(hm:Msk m)(hs:Array Int)(hl:hs.size<=m+1) :
  ∃ t order,SetTable.laid m finger moves led plain hs=some (t,order)/\t.mask=m/\t.dummies = #[]/\t.place.size=hs.size/\order.size=hs.size/\∀ x∈order.toList,x<hs.size:=by
 obtain ⟨ow,h1,O⟩:=s_q hm hs hl
 have e:((List.range (m+1)).filterMap fun j=>(ow.getD j none).map (j,·)).length=hs.size:=by
  have h:=o_j ow.toList (m+1) (by rw [Array.length_toList,O.size];exact Nat.le_refl _)
  rw [List.take_of_length_le (by rw [Array.length_toList,O.size];exact Nat.le_refl _),O.cnt] at h
  rw [<-h]
  congr 2
  funext j
  rw [Array.getD_eq_getD_getElem?,Array.getElem?_toList]
 refine ⟨_,_,by unfold SetTable.laid;rw [h1];rfl,rfl,rfl,?_,?_,fun x hx=>?_⟩
 ·rw [List.size_toArray,List.length_map]
  exact e
 ·rw [List.size_toArray,List.length_map]
  exact e
 ·rw [List.toList_toArray] at hx
  obtain ⟨z,hz,rfl⟩:=List.mem_map.mp hx
  obtain ⟨j,_,h2⟩:=List.mem_filterMap.mp hz
  obtain ⟨v,h3,rfl⟩:=Option.map_eq_some_iff.mp h2
  refine O.low v ?_
  rw [Array.getD_eq_getD_getElem?] at h3
  cases e2:ow[j]? with
  | none=>rw [e2] at h3;cases h3
  | some y =>
   rw [e2] at h3
   have:y=some v:=h3
   rw [this,<-Array.getElem?_toList] at e2
   exact List.mem_of_getElem? e2
section
variable {prog:Program} {w:World} {K:Type} [DecidableEq K] {knd:KeyKind prog w K}
def Ext(h h':Heap):Prop:=∀ b o,h.get? b=some o->h'.get? b=some o
variable {A:Around} {E:Value->Shared->Prop} {s:Shared}
theorem k_u{h:Heap}{a:Addr}{o:Obj}{es:Array (Int×Value)}{ep:Nat}{t:SetTable}(ho:h.get? a=some o)(hd:o.data = .set es ep t)(es':Array (Int×Value))(t':SetTable) :
  (h.update a (Obj.putSet es' t')).get? a=some { o with data:=.set es' (ep+1) t' }:=by
 have:=Heap.get?_update_self (Obj.putSet es' t') ho (by rw [putSet_of es' t' hd];rfl)
 rw [putSet_of es' t' hd] at this
 exact this
theorem s_f{α:Type}{ks:List α}{i:Nat}(d:α)(h:i<ks.length):ks.take (i+1)=ks.take i++[ks.getD i d]:=by
 rw [List.take_add_one,List.getElem?_eq_getElem h,List.getD_eq_getElem?_getD,List.getElem?_eq_getElem h]
 rfl
def mtSet(led:Bool):Obj:={ cls:=.type "set",dict:=none,data:=.set #[] 0 (.fresh 0 0 led) }
def withSet(s:Shared)(led:Bool):Shared:={ s with heap:=s.heap.push (mtSet led) }
theorem x_p(s:Shared)(led:Bool):(withSet s led).heap.get? s.heap.objs.size=some (mtSet led):=Heap.get?_push_size _ rfl
theorem w_m{s:Shared}{led:Bool}{b:Addr}{o:Obj}(e:s.heap.get? b=some o):(withSet s led).heap.get? b=some o:=Heap.get?_push_of_some _ e
theorem v_w(s:Shared)(led:Bool):(withSet s led).heap.objs.size=s.heap.objs.size+1:=Heap.size_push _ _
theorem v_i{h:Heap}{a:Addr}(q:h.objs.size<=a):h.get? a=none:=by
 cases e:h.get? a with
 | none=>rfl
 | some o=>exact absurd (Heap.lt_size e) (Nat.not_lt.mpr q)
end
end L2
namespace L2
open PySem PySem.Spec PyProof.Rows
end L2
namespace L2
open PySem PySem.Spec PyProof.Rows
section
variable {prog:Program} {w:World} {K:Type} [DecidableEq K] {knd:KeyKind prog w K} {A:Around} {E:Value->Shared->Prop} {s:Shared}
theorem t_h{h h':Heap}{S:Addr}{n:Nat}{f:K->Bool}(x:Heap.SetOf knd h S f n)(e:∀ o,h.get? S=some o->h'.get? S=some o):Heap.SetOf knd h' S f n:=by
 obtain ⟨o,es,ep,t,ho,r⟩:=x
 exact ⟨o,es,ep,t,e _ ho,r⟩
theorem setOf_eq{h:Heap}{S:Addr}{n:Nat}{f g:K->Bool}(x:Heap.SetOf knd h S f n)(e:∀ k,f k=g k):Heap.SetOf knd h S g n:=by
 rw [<-funext e]
 exact x
end
def SAtT(a:Addr)(n:Nat)(h:Heap):Prop:=n<4000/\∃ o es ep t,h.get? a=some o/\o.ExactSet/\o.data = .set es ep t/\t.fits es.size=true/\es.size=n
def STO(a:Addr)(n:Nat):HO:=.ext (SAtT a n)
theorem k_x{a:Addr}{n:Nat}:∀ h1 h2:Heap,SAtT a n h1->(∀ o,h1.get? a=some o->h2.get? a=some o)->SAtT a n h2:=fun h1 h2 u k=>by
 obtain ⟨z,o,es,ep,t,e,q⟩:=u
 exact ⟨z,o,es,ep,t,k _ e,q⟩
def tLenT(xs:List V)(H:Hp)(Q:VK):Prop:=∃ (a:Addr) (n:Nat),xs=[.ref a]/\H a=some (STO a n)/\Q (.int n) H
theorem n_j{X:Cx}:CallR X (.builtin "len") tLenT:=by
 intro pins s σ H xs us Q I r h
 obtain ⟨a,n,rfl,hp,q⟩:=h
 obtain ⟨u,rfl,ru⟩:=vals1 r
 cases ru
 obtain ⟨⟨z,o,es,ep,t,h1,h2,h3,h4,h5⟩,_⟩:=(show ObjOk X.prog X.w H s.heap a (STO a n) from I.hok a _ hp)
 refine Calls.call_function_entry kind_len plain_len entry_len (args_len1 _) (wpAny_len_body_set h1 h2 h3 h4 ?_ ?_)
 ·rw [h5]
  exact Int.lt_of_le_of_lt (Int.ofNat_le.mpr (Nat.le_of_lt z)) (by decide)
 ·exact ⟨.int n,H,(I.tok _).tok _,⟨_,by rw [h5]⟩,q⟩
end L2
namespace L2
open PySem PySem.Spec PyProof.Rows
section
variable {prog:Program} {w:World} {K:Type} [DecidableEq K] {knd:KeyKind prog w K} {A:Around} {E:Value->Shared->Prop} {s:Shared}
def ucn(ks:List K)(d0:K):Nat->Nat
 | 0=>0
 | i+1=>if ks.getD i d0∈ks.take i then ucn ks d0 i else ucn ks d0 i+1
theorem q_v(ks:List K)(d0:K):∀ i,ucn ks d0 i<=i
 | 0=>Nat.le_refl _
 | i+1=>by
  have:=q_v ks d0 i
  unfold ucn
  split<;>lia
theorem loopI{R:Result->Shared->Prop}{I:Addr}{fp wr:List Addr}{G:Array GenState->Array GenState->Prop}{n:Nat}{P:Nat->Value->Prop}{St:Nat->Shared->Prop}
  (W:WalksS prog w A.in1 I fp wr G n P St) (S:Addr) (far:S∉fp) (ks:List K) (d0:K) (hl:ks.length=n) (hn:n<4000) (h0:Heap)
  (ky:∀ i v,P i v->knd.is (ks.getD i d0) v=true/\v.scannable=true) (h0S:h0.get? S=none) (h0w:∀ b∈wr,h0.get? b=none) (uz:A.units+2<cLine) :
  ∀ (left i:Nat) (z:Shared),i+left=n->St i z->Ext h0 z.heap->Heap.SetOf knd z.heap S (fun k=>decide (k∈ks.take i)) (ucn ks d0 i) ->
   (∀ y,Moved (S::wr) G z y->Heap.SetOf knd y.heap S (fun k=>decide (k∈ks)) (ucn ks d0 n)->R (.ok (.ret .none)) y) ->
   codeAny (model prog w) A (.builtin "set.update.loop" ⟨[.ref S,.ref I],[]⟩) R z
 | 0,i,z,e,wi,ex,si,out=>by
  obtain rfl:i=n:=e
  have nw:S∉wr:=fun q=>far (W.sub S q)
  refine codeAny_builtin PyProof.Rows.F.entry_set_update_loop ?_
  rw [Around.under_plainId PyProof.Rows.F.plain_set_update_loop _]
  show wpAny _ A.in1 (pyNext (.ref I) >>= _) _ _ z
  refine wpAny_bind (W.done z _ _ wi fun y mv=>?_)
  rw [<-hl,List.take_length] at si
  rw [<-hl] at out
  exact wpAny_pure (out y (mv.mono fun b=>List.mem_cons_of_mem _) (t_h si fun o q=>mv.heap S o nw q))
 | left+1,i,z,e,wi,ex,si,out=>by
  have nw:S∉wr:=fun q=>far (W.sub S q)
  have il:i<ks.length:=by lia
  refine codeAny_builtin PyProof.Rows.F.entry_set_update_loop ?_
  rw [Around.under_plainId PyProof.Rows.F.plain_set_update_loop _]
  show wpAny _ A.in1 (pyNext (.ref I) >>= _) _ _ z
  refine wpAny_bind (W.item i z _ _ (by lia) wi fun v y pv wj mv=>?_)
  obtain ⟨kb,sb⟩:=ky i v pv
  have sy:=t_h si (h':=y.heap) fun o q=>mv.heap S o nw q
  have ey:Ext h0 y.heap:=fun c o q=>mv.heap c o (fun hc=>by rw [h0w c hc] at q;cases q) (ex c o q)
  show wpAny _ A.in1 (holding [v] (setAdd S v) >>= _) _ _ y
  refine wpAny_bind (wpAny_holding ?_)
  unfold setAdd
  refine wpAny_holding (wpAny_bind (knd.pyHash kb ?_))
  refine wpAny_setAddHashed_of (s:={ y with toks:=y.toks+1 }) kb sb sy (Nat.lt_trans (show ucn ks d0 i+1<4001 by have:=q_v ks d0 i;lia) (by decide)) fun hn' only sn=>?_
  have sn:Heap.SetOf knd hn' S (fun k=>decide (k∈ks.take (i+1))) (ucn ks d0 (i+1)):=by
   have eu:ucn ks d0 (i+1)=if decide (ks.getD i d0∈ks.take i)=true then ucn ks d0 i else ucn ks d0 i+1:=by
    show (if ks.getD i d0∈ks.take i then ucn ks d0 i else ucn ks d0 i+1)=_
    by_cases c:ks.getD i d0∈ks.take i
    ·rw [if_pos c,if_pos (decide_eq_true c)]
    ·rw [if_neg c,if_neg (fun h=>c (of_decide_eq_true h))]
   rw [eu]
   refine setOf_eq sn fun k=>?_
   rw [s_f d0 il]
   by_cases h1:k∈ks.take i
   ·simp [h1]
   ·by_cases h2:k=ks.getD i d0
    ·simp [h2]
    ·simp [h1,h2]
  have oth:∀ {c:Addr} {o:Obj},c≠S->y.heap.get? c=some o->hn'.get? c=some o:=fun {c o} nc q=>by rw [only.2 c nc];exact q
  refine wpAny_pure ⟨plainId_quiet PyProof.Rows.F.plain_set_update_loop _,loopI W S far ks d0 hl hn h0 ky h0S h0w uz left (i+1) _ (by lia) (W.frame _ y _ _ wj (Nat.le_add_right _ _) fun c hc o q=>oth (fun z=>far (z▸hc)) q) (fun c o q=>oth (fun z=>by rw [z,h0S] at q;cases q) (ey c o q)) sn fun x mx sx=>?_⟩
  exact out x (Moved.trans W.gtrans ((mv.mono fun b=>List.mem_cons_of_mem _).then_heap (Nat.le_add_right _ _) fun c o hc q=>oth (fun z=>hc (z▸List.mem_cons_self)) q) mx) sx
set_option maxHeartbeats 3200000 in
theorem l_e{B:Around}{l:Addr}{items:Array Value}{ks:List K}{d0:K}{led:Bool}{F:Fin->Shared->Prop}(calm:B.handled=none)(uz:B.units+4<cLine)(at_l:s.heap.IsList l items)(same:ks.length=items.size)(few:items.size<4000)
  (ky:∀ i v,items[i]? = some v->knd.is (ks.getD i d0) v=true/\v.scannable=true)
  (out:∀ (h':Heap) (tk:Nat),s.toks<=tk->Heap.SetOf knd h' s.heap.objs.size (fun k=>decide (k∈ks)) (ucn ks d0 items.size)->Ext s.heap h'->F (.done (.ret .none)) { s with heap:=h',toks:=tk }) :
  wpAny (model prog w) B (Builtin.«set.__init__» ⟨[.ref s.heap.objs.size,.ref l],[]⟩) F E (withSet s led):=by
 have lt_l:l<s.heap.objs.size:=by obtain ⟨o,e,_⟩:=at_l;exact Heap.lt_size e
 have at_l1:(withSet s led).heap.IsList l items:=at_l.push _
 obtain ⟨⟨c,d,dt,sl⟩,e_l,e_c,n_l,e_d⟩:=at_l1
 have e_c:c = .type "list" := e_c
 have e_d:dt = .seq items n_l:=e_d
 subst e_c e_d
 have n1:=PySem.F.sub_list_set
 have n2:=PySem.F.sub_list_frozenset
 have n3:(Value.type "list" == Value.type "dict")=false:=by decide
 have e_S:=x_p s led
 unfold mtSet at e_S
 unfold Builtin.«set.__init__» noKeywords Builtin.Frozenset.updateFrom
 generalize eIt:pyIter=It
 wp_walk
 subst eIt
 have at_l1:(withSet s led).heap.IsList l items:=at_l.push _
 refine wpAny_pyIter_list at_l1 (wpAny_bind (wpAny_runValue ?_))
 have sz:=v_w s led
 have calm1:B.in1.handled=none:=by simp [calm]
 have l_it:l≠(withSet s led).heap.objs.size:=by rw [sz];exact Nat.ne_of_lt (Nat.lt_succ_of_lt lt_l)
 have far:s.heap.objs.size∉[(withSet s led).heap.objs.size,l]:=by
  rw [sz]
  simp only [List.mem_cons,List.not_mem_nil,or_false,not_or]
  exact ⟨Nat.ne_of_lt (Nat.lt_succ_self _),Nat.ne_of_gt lt_l⟩
 refine loopI (knd:=knd) (Walks.list calm1 _ l l_it items).toS s.heap.objs.size far ks d0 same few s.heap ky (v_i (Nat.le_refl _)) (fun b q=>?_) (by lia) items.size 0 _ (Nat.zero_add _) ⟨⟨_,Heap.get?_push_size _ rfl,rfl,rfl⟩,at_l1.push _⟩ (fun b o q=>Heap.get?_push_of_some _ (w_m q))
  ⟨mtSet led,#[],0,_,Heap.get?_push_of_some _ (x_p s led),⟨rfl,rfl,rfl⟩,rfl,(fun e q=>by simp at q),(fun k=>by simp),by decide,rfl,rfl⟩ fun y mv sy=>?_
 ·rw [List.mem_singleton.mp q,sz]
  exact v_i (Nat.le_succ _)
 ·have tk:=mv.toks
  have kp:Ext s.heap y.heap:=fun b o q=>by
   have lb:=Heap.lt_size q
   refine mv.heap b o ?_ (Heap.get?_push_of_some _ (w_m q))
   rw [sz]
   simp only [List.mem_cons,List.not_mem_nil,or_false,not_or]
   exact ⟨Nat.ne_of_lt lb,Nat.ne_of_lt (Nat.lt_succ_of_lt lb)⟩
  obtain ⟨hy,gy,dy,ty,oy⟩:=y
  cases (show gy=s.gens from mv.gens)
  cases (show dy=s.drawn from mv.drawn)
  cases (show oy=s.os from mv.os)
  exact wpAny_pure (wpAny_pure (out hy ty tk sy kp))
set_option maxHeartbeats 3200000 in
theorem s_k{l:Addr}{items:Array Value}{ks:List K}{d0:K}{Q:Value->Shared->Prop}(calm:A.handled=none)(uz:A.units+8<cLine)(at_l:s.heap.IsList l items)(same:ks.length=items.size)(few:items.size<4000)
  (ky:∀ i v,items[i]? = some v->knd.is (ks.getD i d0) v=true/\v.scannable=true)
  (out:∀ (h':Heap) (tk:Nat),s.toks<=tk->Heap.SetOf knd h' s.heap.objs.size (fun k=>decide (k∈ks)) (ucn ks d0 items.size)->Ext s.heap h'->Q (.ref s.heap.objs.size) { s with heap:=h',toks:=tk }) :
  wpAny (model prog w) A (call (.type "set") [.ref l]) Q E s:=by
 obtain ⟨c0,cs,m0⟩:=PySem.F.called_set.mro
 have m1:=PySem.F.called_set.made
 have m2:=PySem.F.called_set.sub
 have m3:=PySem.F.called_set.notType
 have m4:=PySem.F.called_set.canCreate
 have m5:=PySem.F.typeCall_set_1 (.ref l)
 refine wpAny_call (codeAny_of_tree (show wpAny _ _ (callAny (.type "set") _) _ _ _ from wpAny_pure ⟨Code.quiet_builtin _ (by decide +kernel),codeAny_builtin PySem.F.entry_type_call ?_⟩))
 rw [Around.under_plain (weight_type_call_type "set" [.ref l] []) rfl]
 repeat (any_goals (first | assumption | wp_step))
 refine codeAny_mono (code_set_new_1 (.ref l) (E:=E) (Q₁:=fun x z=>∃ led,x = .ref s.heap.objs.size/\z=withSet s led) fun led=>⟨led,rfl,rfl⟩) fun r z got=>?_
 match r,got with
 | .error _,got=>exact got
 | .ok (.ret _),⟨led,e1,e2⟩ =>
  subst e1 e2
  have ty:Shared.TypeIs (withSet s led) (.ref s.heap.objs.size) "set" := ⟨_,x_p s led,rfl⟩
  have m6:=PySem.F.called_set.init.lookup
  have m7:=PySem.F.called_set.init.bind (.ref s.heap.objs.size)
  repeat (any_goals (first | assumption | wp_step))
  refine codeAny_mono (codeAny_call_builtin (R:=wants (fun x y=>x = .none/\∃ h' tk,s.toks<=tk/\y={ s with heap:=h',toks:=tk }/\Heap.SetOf knd h' s.heap.objs.size (fun k=>decide (k∈ks)) (ucn ks d0 items.size)/\Ext s.heap h') E) PySem.F.called_set.init.plain PySem.F.entry_set_init
   (check_set_init_1 ty (l_e (d0:=d0) (by simp [calm]) (show A.units+1+1+4<cLine by lia) at_l same few ky fun h' tk a b c=>⟨rfl,h',tk,a,rfl,b,c⟩))) fun r2 y got2=>?_
  match r2,got2 with
  | .error _,got2=>exact got2
  | .ok (.ret _),⟨e3,h',tk,a,e4,b,c⟩ =>
   subst e3 e4
   repeat (any_goals (first | assumption | wp_step))
   exact out h' tk a b c
end
def ucI(ks:List Int):Nat:=ucn (ks.map (Sum.inl:Int->Key)) (.inr "") ks.length
def tSetI(xs:List V)(H:Hp)(Q:VK):Prop:=∃ (p:Addr) (ks:List Int),xs=[.ref p]/\H p=some (.lst (ks.map V.int))/\ks.length<4000/\∀ a,H a=none->Q (.ref a) (upd H a (STO a (ucI ks)))
theorem r_e:∀ {ks:List Int} {its:List Value},Vals (ks.map V.int) its->∀ (i:Nat) (v:Value),its[i]? = some v->∃ x,ks[i]? = some x/\RelV (.int x) v
 | [],_,h,i,v,hv=>by cases h;simp at hv
 | r::rs,_,h,i,v,hv=>by
  rw [List.map_cons] at h
  cases h with
  | cons h1 h2 =>
   cases i with
   | zero =>
    have e:=Option.some.inj hv
    subst e
    exact ⟨r,rfl,h1⟩
   | succ i=>exact r_e h2 i v hv
theorem m_r{X:Cx}(hc:X.calm=true)(hu:X.A.units+64<cLine):CallR X (.type "set") tSetI:=by
 intro pins s σ H xs us Q I r h
 obtain ⟨p,ks,rfl,hp,hl,q⟩:=h
 obtain ⟨u,rfl,ru⟩:=vals1 r
 cases ru
 obtain ⟨its,rv,pl,hz⟩:=I.list (SqL.of hp)
 have hlen:its.length=ks.length:=by rw [<-rv.length,List.length_map]
 refine s_k (knd:=mixKind X.prog X.w) (ks:=ks.map Sum.inl) (d0:=.inr "") (I.ok.hd hc) (by lia) pl.isList (by rw [List.size_toArray,hlen,List.length_map]) (by rw [List.size_toArray,hlen];exact hl) (fun i v hv=>?_) fun h' tk hto hS hk=>?_
 ·have hv':its[i]? = some v:=by simpa using hv
  obtain ⟨x,hx,hr⟩:=r_e rv i v hv'
  obtain ⟨t,rfl⟩:=hr
  rw [List.getD_eq_getElem?_getD,List.getElem?_map,hx]
  exact ⟨u_q (k:=.inl x) ⟨t,rfl⟩,rfl⟩
 ·have hsz:its.toArray.size=ks.length:=by rw [List.size_toArray,hlen]
  rw [hsz] at hS
  obtain ⟨o,es,ep,t,h1,h2,h3,_,_,_,h4,h5⟩:=hS
  have hle:=q_v (ks.map (Sum.inl:Int->Key)) (.inr "") ks.length
  exact ⟨.ref s.heap.objs.size,_,I.laid (a:=s.heap.objs.size) (o:=STO s.heap.objs.size (ucI ks)) hk (Nat.le_refl _) ⟨⟨Nat.lt_of_le_of_lt hle hl,o,es,ep,t,h1,h2,h3,h4,h5⟩,⟨o,h1⟩,k_x⟩,rfl,q _ (I.hok.fresh (Nat.le_refl _))⟩
open PySem PySem.Spec PyProof.Rows
end L2
namespace L2
open PySem PySem.Spec PyProof.Rows PySem.SeqAt MeetsSeq MeetsSeq2 MeetsSeq3
open AutoSeq1 (wpAny_loadPart')
end L2
namespace L2
open PySem PySem.Spec PyProof.Rows PySem.SeqAt MeetsSeq MeetsSeq2 MeetsSeq3
open AutoSeq1 (wpAny_loadPart')
open PySem PySem.Spec PyProof.Rows
open PySem
theorem q_b{α:Type}[DecidableEq α]:∀ {xs ys:List α},xs.Nodup->(∀ x∈xs,x∈ys)->xs.length<=ys.length
 | [],_,_,_=>Nat.zero_le _
 | x::xs,ys,h,hs=>by
  have hx:=hs x List.mem_cons_self
  have h1:=q_b (xs:=xs) (ys:=ys.erase x) (List.nodup_cons.mp h).2 fun y hy=>(List.mem_erase_of_ne (show y≠x from fun e=>(List.nodup_cons.mp h).1 (by rw [<-e];exact hy))).mpr (hs y (List.mem_cons_of_mem _ hy))
  have h2:=List.length_erase_of_mem hx
  have h3:0<ys.length:=List.length_pos_of_mem hx
  rw [List.length_cons]
  lia
section
variable {X:Cx}
theorem eqU_at{x:V}:∀ {xs:List V} {us:List Value},Vals xs us->xs.all flatV=true->∀ m (hm:m<us.length) y,xs[m]? = some y->eqU x us[m]=eqV y x
 | _,_,.nil,_,m,hm,_,_=>absurd hm (Nat.not_lt_zero _)
 | a::xs,u::us,.cons r t,f,0,_,y,hy=>by
  rw [List.all_cons,Bool.and_eq_true] at f
  cases hy
  exact l_d r f.1
 | a::xs,u::us,.cons r t,f,m+1,hm,y,hy=>by
  rw [List.all_cons,Bool.and_eq_true] at f
  exact eqU_at t f.2 m (Nat.lt_of_succ_lt_succ hm) y hy
def rIndex:V->List V->Hp->VK->Prop:=fun x vs H Q=>∃ (l:Addr) (ns:List Nat) (k j:Nat),x = .ref l/\vs=[.int (k:Int)]/\H l=some (.lst (ns.map fun n:Nat=>V.int (n:Int)))/\ns.length<=100000/\ns[j]? = some k/\(∀ m,m<j->ns[m]? ≠ some k)/\Q (.int (j:Int)) H
theorem mt_index:MtM X "list.index" rIndex:=by
 intro pins s σ H x vs v us Q I rx rv h
 obtain ⟨l,ns,k,j,rfl,rfl,hH,hn,hj,hno,q⟩:=h
 cases rx
 obtain ⟨u,rfl,ru⟩:=rv.one
 obtain ⟨z,its,n,r,hl,e⟩:=I.lstM hH
 have fl:(ns.map fun n:Nat=>V.int (n:Int)).all flatV=true:=by
  rw [List.all_eq_true]
  intro y hy
  obtain ⟨a,_,rfl⟩:=List.mem_map.mp hy
  rfl
 rw [List.length_map] at hl
 have hjl:=(List.getElem?_eq_some_iff.mp hj).1
 have at_:∀ m (hm:m<its.length) (a:Nat),ns[m]? = some a->eqU (.int (k:Int)) its[m]=decide (a=k):=fun m hm a ha=>by
  rw [eqU_at r fl m hm (.int (a:Int)) (by rw [List.getElem?_map,ha];rfl)]
  show decide ((a:Int)=(k:Int))=decide (a=k)
  exact decide_eq_decide.mpr (by lia)
 refine call_meets F.slot_list_index ⟨_,e,rfl⟩ F.entry_list_index (F.args_list_index_2 _ _) (PySem.SeqAt.list_indexAt l its.toArray n none #[] u (eqU (.int (k:Int))) j (by rw [List.size_toArray];lia) (by lia) ?_ ?_) ⟨e,fun y hy=>w_v ru rfl r fl y (by simpa using hy),?_⟩
 ·rw [List.getElem_toArray,at_ j (by lia) k hj,decide_eq_true rfl]
 ·intro m hm hmj
  rw [List.size_toArray] at hm
  rw [List.getElem_toArray,at_ m hm ns[m] (List.getElem?_eq_getElem (by lia))]
  exact decide_eq_false fun c=>hno m hmj (by rw [List.getElem?_eq_getElem (by lia),c])
 ·exact ⟨.int (j:Int),H,I.tok _,⟨_,rfl⟩,q⟩
end
end L2
namespace L2
open PySem
end L2
namespace L2
open PySem
def GtO(L:Nat)(gs:List (Nat×Nat)):Prop:=∀ (k:Nat) (p:Nat×Nat),gs[k]? = some p->p.1<2*(1+L+k)/\p.2<2*(1+L+k)
def Dst(R:Nat->Nat)(ls:List Nat):Prop:=(∀ e∈ls,R e/2≠0)/\(ls.map fun e=>R e/2).Nodup
instance (R:Nat->Nat) (ls:List Nat):Decidable (Dst R ls):=inferInstanceAs (Decidable (_/\_))
theorem xor1(x:Nat):(x^^^1)/2=x/2/\x^^^1≠x/\(x^^^1)^^^1=x:=by
 refine ⟨y_u x,n_o x,n_n x⟩
def gI(gs:List (Nat×Nat)):List (Int×Int):=gs.map fun p=>((p.1:Int),(p.2:Int))
def belN(L:Nat)(gs:List (Nat×Nat))(e:Nat):List Nat:=if e%2=1 then [e-1] else match gs[e/2-L-1]? with
 | some p=>[p.1,p.2]
 | none=>[]
section
variable {X:Cx} {a:Addr} {kvs:List (Str×V)}
theorem q_h(D:TopD X.w X.K a kvs):OpR X (compareOp .NotIn) (fun x y H Q=>∃ z,x = .str z/\y = .ref a/\Q (.bl (!(kvs.lookup z).isSome)) H):=by
 intro pins s σ H x y v u Q I rx ry h
 obtain ⟨z,rfl,rfl,q⟩:=h
 obtain ⟨t,rfl⟩:=rx
 cases ry
 obtain ⟨es,n,h1,h2,h3⟩:=D.find z
 refine wpAny_notIn_of (PySem.strKind_is _ _ z t) D.lo (PySem.W.mapOf_K (prog:=X.prog) I.kIn h1 h2) ?_
 have e:(kvs.lookup z).isSome=(findBy Value.isStrOf es z).isSome:=h3.isSome_eq
 rw [<-e]
 exact ⟨.bl _,H,I.tok _,rfl,q⟩
end
theorem Ch.fr{l a:Addr}{H J:Hp}{o:HO}(c:Ch l H J)(h:H a=none):Ch l H (upd J a o):=fun b u n e=>by
 rw [z_n (z_g e h)]
 exact c b u n e
theorem ClsAt.up{C o l a:Addr}{J:Hp}{n:Nat}{R:Nat->Nat}(c:ClsAt C J o l n R)(n1:o≠a)(n2:l≠a)(x:HO):ClsAt C (upd J a x) o l n R:=by
 obtain ⟨⟨dx,h1⟩,L,h2,u,h3⟩:=c
 exact ⟨⟨dx,by rw [z_n n1];exact h1⟩,L,by rw [z_n n2];exact h2,u,h3⟩
theorem ClsAt.lst{C o l:Addr}{J:Hp}{n:Nat}{R:Nat->Nat}(c:ClsAt C J o l n R):(∃ L,J l=some (.lst (z_h L)))/\∃ x,J o=some x:=by
 obtain ⟨⟨dx,h1⟩,L,h2,u,h3⟩:=c
 exact ⟨⟨L,h2⟩,_,h1⟩
theorem x_k{H:Hp}{a l:Addr}{xs ys:List V}(h:H a=some (.tup xs))(hl:H l=some (.lst ys)):a≠l:=fun e=>by rw [e,hl] at h;cases h
theorem IsNet.chl{H J:Hp}{net g l:Addr}{rs:List Addr}{n:Int}{ps:List (Int×Int)}{ys:List V}(h:IsNet H net g rs n ps)(c:Ch l H J)(ngl:g≠l)(hl:H l=some (.lst ys)):IsNet J net g rs n ps :=
 ⟨c _ _ (x_k h.p hl) h.p,c _ _ ngl h.g.1,w_x (fun r p e=>c _ _ (x_k e hl) e) h.g.2⟩
theorem w_d(L:List Nat):z_h L=(L.map fun k:Nat=>(k:Int)).map V.int:=by unfold z_h;rw [List.map_map];rfl
theorem sort_nat{ns:List Int}{gs:List Nat}(h:ns.Perm (gs.map fun k:Nat=>(k:Int)))(hp:ns.Pairwise (· <= ·)):∃ sg:List Nat,ns=sg.map (fun k:Nat=>(k:Int))/\sg.Perm gs/\sg.Pairwise (· <= ·):=by
 have e:ns=(ns.map Int.toNat).map fun k:Nat=>(k:Int):=by
  rw [List.map_map]
  refine (List.map_id ns).symm.trans (List.map_congr_left fun x hx=>?_)
  obtain ⟨k,_,rfl⟩:=List.mem_map.mp (h.mem_iff.mp hx)
  show ((k:Nat):Int)=(((k:Nat):Int).toNat:Int)
  lia
 refine ⟨ns.map Int.toNat,e,?_,?_⟩
 ·have:=h.map Int.toNat
  rw [List.map_map] at this
  refine this.trans ?_
  have e2:gs.map (Int.toNat ∘ fun k:Nat=>(k:Int))=gs:=(List.map_congr_left fun x _=>show ((x:Nat):Int).toNat=x by lia).trans (List.map_id gs)
  rw [e2]
 ·exact List.pairwise_map.mpr (hp.imp fun h=>Int.toNat_le_toNat h)
theorem last_ex{α:Type}{l:List α}(h:l≠[]):∃ i x,l=i++[x]:=⟨l.dropLast,l.getLast h,(List.dropLast_concat_getLast h).symm⟩
structure FndI(giv:Nat->Option Nat)(L a b:Nat)(S0:List Nat)(gs:List (Nat×Nat))(S gts wt:List Nat):Prop where
 nd:S.Nodup
 hs:∀ e∈S,e∈S0
 hw:∀ e∈wt,e∈S0
 gn:gts.Nodup
 gi:∀ e,e∈gts↔e∈S/\giv e=none/\L<e/2
 cl:∀ e∈gts,∀ d∈belN L gs e,d∈S\/d∈wt
 ca:a∈S\/a∈wt
 cb:b∈S\/b∈wt
 wl:wt.length<=2+2*S.length
section
variable {giv:Nat->Option Nat} {L n a b:Nat} {gs:List (Nat×Nat)} {S0 S gts wt:List Nat} {e:Nat}
theorem p_y(hG:GtO L gs)(hn:n=1+L+gs.length)(he:e<2*n)(hl:L<e/2):(∀ d∈belN L gs e,d<e)/\(belN L gs e).length<=2:=by
 unfold belN
 by_cases c:e%2=1
 ·rw [if_pos c]
  exact ⟨(fun d hd=>by rw [List.mem_singleton.mp hd];lia),Nat.le_succ _⟩
 ·rw [if_neg c]
  cases hp:gs[e/2-L-1]? with
  | none=>exact ⟨(fun d hd=>nomatch hd),Nat.zero_le _⟩
  | some p =>
   obtain ⟨h1,h2⟩:=hG _ _ hp
   refine ⟨fun d hd=>?_,Nat.le_refl _⟩
   have hd':d=p.1\/d=p.2:=by simpa using hd
   rcases hd' with rfl | rfl<;>lia
theorem FndI.old(h:FndI giv L a b S0 gs S gts (wt++[e]))(he:e∈S):FndI giv L a b S0 gs S gts wt:=by
 have sub:∀ d,d∈S\/d∈wt++[e]->d∈S\/d∈wt:=fun d hd=>by
  rcases hd with hd | hd
  ·exact .inl hd
  ·rcases List.mem_append.mp hd with hd | hd
   ·exact .inr hd
   ·rw [List.mem_singleton.mp hd];exact .inl he
 have hl:=h.wl
 rw [List.length_append] at hl
 exact ⟨h.nd,h.hs,fun d hd=>h.hw d (List.mem_append_left _ hd),h.gn,h.gi,fun x hx d hd=>sub d (h.cl x hx d hd),sub a h.ca,sub b h.cb,by lia⟩
theorem FndI.plain(h:FndI giv L a b S0 gs S gts (wt++[e]))(he:e∉S)(hg:¬(giv e=none/\L<e/2)):FndI giv L a b S0 gs (S++[e]) gts wt:=by
 have sub:∀ d,d∈S\/d∈wt++[e]->d∈S++[e]\/d∈wt:=fun d hd=>by
  rcases hd with hd | hd
  ·exact .inl (List.mem_append_left _ hd)
  ·rcases List.mem_append.mp hd with hd | hd
   ·exact .inr hd
   ·exact .inl (List.mem_append_right _ hd)
 have hl:=h.wl
 rw [List.length_append] at hl
 refine ⟨List.pairwise_append.mpr ⟨h.nd,List.pairwise_singleton _ _,fun x hx y hy z=>he (by rw [<-List.mem_singleton.mp hy,<-z];exact hx)⟩,fun d hd=>?_,fun d hd=>h.hw d (List.mem_append_left _ hd),h.gn,fun x=>?_,fun x hx d hd=>sub d (h.cl x hx d hd),sub a h.ca,sub b h.cb,by rw [List.length_append];lia⟩
 ·rcases List.mem_append.mp hd with hd | hd
  ·exact h.hs d hd
  ·exact h.hw d (List.mem_append_right _ hd)
 ·rw [h.gi x]
  constructor
  ·exact fun q=>⟨List.mem_append_left _ q.1,q.2⟩
  ·rintro ⟨q1,q2⟩
   refine ⟨?_,q2⟩
   rcases List.mem_append.mp q1 with q | q
   ·exact q
   ·rw [List.mem_singleton.mp q] at q2
    exact absurd q2 hg
theorem FndI.gate(h:FndI giv L a b S0 gs S gts (wt++[e]))(hG:GtO L gs)(hn:n=1+L+gs.length)(hen:e<2*n)(h0:∀ d∈belN L gs e,d∈S0)(he:e∉S)(hg:giv e=none)(hl:L<e/2):FndI giv L a b S0 gs (S++[e]) (gts++[e]) (wt++belN L gs e):=by
 have he2:=h.hw e (List.mem_append_right _ (List.mem_singleton.mpr rfl))
 obtain ⟨hb1,hb2⟩:=p_y hG hn hen hl
 have sub:∀ d,d∈S\/d∈wt++[e]->d∈S++[e]\/d∈wt++belN L gs e:=fun d hd=>by
  rcases hd with hd | hd
  ·exact .inl (List.mem_append_left _ hd)
  ·rcases List.mem_append.mp hd with hd | hd
   ·exact .inr (List.mem_append_left _ hd)
   ·exact .inl (List.mem_append_right _ hd)
 have hlw:=h.wl
 rw [List.length_append] at hlw
 have hge:e∉gts:=fun q=>he ((h.gi e).mp q).1
 refine ⟨List.pairwise_append.mpr ⟨h.nd,List.pairwise_singleton _ _,fun x hx y hy z=>he (by rw [<-List.mem_singleton.mp hy,<-z];exact hx)⟩,fun d hd=>?_,fun d hd=>?_,List.pairwise_append.mpr ⟨h.gn,List.pairwise_singleton _ _,fun x hx y hy z=>hge (by rw [<-List.mem_singleton.mp hy,<-z];exact hx)⟩,fun x=>?_,fun x hx d hd=>?_,sub a h.ca,sub b h.cb,by rw [List.length_append,List.length_append];have:[e].length=1:=rfl;lia⟩
 ·rcases List.mem_append.mp hd with hd | hd
  ·exact h.hs d hd
  ·rw [List.mem_singleton.mp hd];exact he2
 ·rcases List.mem_append.mp hd with hd | hd
  ·exact h.hw d (List.mem_append_left _ hd)
  ·exact h0 d hd
 ·rw [List.mem_append,List.mem_append,List.mem_singleton,h.gi x]
  constructor
  ·rintro (⟨q1,q2⟩ | rfl)
   ·exact ⟨.inl q1,q2⟩
   ·exact ⟨.inr rfl,hg,hl⟩
  ·rintro ⟨q1,q2⟩
   rcases q1 with q1 | q1
   ·exact .inl ⟨q1,q2⟩
   ·exact .inr q1
 ·rcases List.mem_append.mp hx with hx | hx
  ·exact sub d (h.cl x hx d hd)
  ·rw [List.mem_singleton.mp hx] at hd
   exact .inr (List.mem_append_right _ hd)
end
theorem r_d{sg:List Nat}(h:sg.Pairwise (· <= ·)){i e d:Nat}(he:sg[i]? = some e)(hd:d∈sg)(lt:d<e):d∈sg.take i:=by
 obtain ⟨j,hj⟩:=List.getElem?_of_mem hd
 have hi:=(List.getElem?_eq_some_iff.mp he).1
 have hjl:=(List.getElem?_eq_some_iff.mp hj).1
 have e1:sg[i]=e:=(List.getElem?_eq_some_iff.mp he).2
 have e2:sg[j]=d:=(List.getElem?_eq_some_iff.mp hj).2
 have hji:j<i:=by
  by_cases c:j<i
  ·exact c
  ·exfalso
   by_cases c2:i=j
   ·subst c2
    lia
   ·have:=List.pairwise_iff_getElem.mp h i j hi hjl (by lia)
    lia
 exact List.mem_take_iff_getElem.mpr ⟨j,by lia,e2⟩
theorem take_not{sg:List Nat}(nd:sg.Nodup){i e:Nat}(he:sg[i]? = some e):e∉sg.take i:=fun h=>by
 obtain ⟨j,hj,e2⟩:=List.mem_take_iff_getElem.mp h
 have hi:=(List.getElem?_eq_some_iff.mp he).1
 have:=(List.getElem?_inj (show j<sg.length by lia) nd).mp ((List.getElem?_eq_some_iff.mpr ⟨by lia,e2⟩:sg[j]? = some e).trans he.symm)
 lia
theorem s_o(z:Nat):∀ ws:List Nat,inV (V.int (z:Int)) (z_h ws)=decide (z∈ws)
 | []=>rfl
 | a::ws=>by
  have ih:=s_o z ws
  unfold inV at ih ⊢
  show (eqV (.int (a:Int)) (.int (z:Int)) || (z_h ws).any fun y=>eqV y (.int (z:Int)))=_
  rw [ih]
  by_cases h:a=z
  ·subst h
   simp [eqV]
  ·have h':¬z=a:=fun e=>h e.symm
   have h2:¬(a:Int)=(z:Int):=by lia
   simp [eqV,h',h2]
theorem v_g:∀ ws:List Nat,(z_h ws).all flatV=true
 | []=>rfl
 | a::ws=>by
  show (true&&(z_h ws).all flatV)=true
  rw [v_g ws]
  rfl
theorem j_m{K:Type}[DecidableEq K]{ks:List K}{d0:K}:∀ {i:Nat},i<=ks.length->(ucn ks d0 i=i↔(ks.take i).Nodup)
 | 0,_=>by simp [ucn]
 | i+1,h=>by
  have ih:=j_m (ks:=ks) (d0:=d0) (i:=i) (by lia)
  have le:=q_v ks d0 i
  have hg:ks[i]? = some (ks.getD i d0):=by rw [List.getD_eq_getElem?_getD,List.getElem?_eq_getElem (by lia)];rfl
  rw [x_w hg]
  unfold ucn
  by_cases c:ks.getD i d0∈ks.take i
  ·rw [if_pos c]
   constructor
   ·intro e;lia
   ·intro nd
    exact absurd rfl ((List.pairwise_append.mp nd).2.2 _ c _ (List.mem_singleton.mpr rfl))
  ·rw [if_neg c]
   constructor
   ·intro e
    exact List.pairwise_append.mpr ⟨ih.mp (by lia),List.pairwise_singleton _ _,fun x hx y hy z=>c (by rw [<-List.mem_singleton.mp hy,<-z];exact hx)⟩
   ·intro nd
    have:=ih.mpr (List.pairwise_append.mp nd).1
    lia
theorem ucI_iff{ks:List Nat}:ucI (ks.map fun k:Nat=>(k:Int))=ks.length↔ks.Nodup:=by
 unfold ucI
 have h:=j_m (ks:=(ks.map fun k:Nat=>(k:Int)).map (Sum.inl:Int->Key)) (d0:=.inr "") (i:=ks.length) (by rw [List.length_map,List.length_map];exact Nat.le_refl _)
 rw [List.length_map,h,List.take_of_length_le (by rw [List.length_map,List.length_map];exact Nat.le_refl _),List.map_map]
 unfold List.Nodup
 rw [List.pairwise_map]
 constructor
 ·exact fun h=>h.imp fun {a b} x e=>x (by rw [e])
 ·exact fun h=>h.imp fun {a b} x e=>x (by
   have e':(Sum.inl ((a:Nat):Int):Key) = .inl ((b:Nat):Int):=e
   injection e' with e'
   have:(a:Int)=(b:Int):=e'
   lia)
theorem q_u{S S0:List Nat}(nd:S.Nodup)(h:∀ e∈S,e∈S0):S.length<=S0.length:=q_b nd (ys:=S0) h
end L2
namespace L2
open PySem PyProof.Rows
def gallopP:Bool->Keyed->Array Keyed->Nat->Nat->Nat->StateT SortSt Sem (Option Nat):=sortPriv% PySem.Builtin.gallop
section
variable {prog:Program} {w:World} {A:Around} {E:Value->Shared->Prop} {s:Shared}
theorem r_f{st:SortSt}{a b:Int}{t u:Tok}{p q:Value}{Q:Option Bool->SortSt->Prop}(hk:kindOf st=oneType')
  (h:Q (some (decide (a<b))) st):wpS (model prog w) A E s (lt' (.int a t,p) (.int b u,q)) Q st:=by
 rw [lt'_eq]
 refine wpS_bind (wpS_get ?_)
 rw [hk,keyLt'_oneType]
 exact wpS_bind (wpS_lift (wpAny_attempt (oneLt_int ⟨rfl,wpS_pure h⟩)))
theorem z_l{st:SortSt}{arr:Array Keyed}{i:Nat}{x:Keyed}{Q:Keyed->SortSt->Prop}(h:arr[i]? = some x)(hq:Q x st) :
  wpS (model prog w) A E s (elem' arr i) Q st:=by
 rw [elem'_eq,h];exact wpS_pure hq
theorem y_v{arr:Array Keyed}(h0:IntKeys arr){i:Nat}(hi:i<arr.size):∃ t q,arr[i]? = some (.int (K arr i) t,q):=by
 obtain ⟨n,t,hn⟩:=h0 arr[i] (by simp)
 refine ⟨t,arr[i].2,?_⟩
 rw [Array.getElem?_eq_getElem hi]
 have:K arr i=n:=by unfold K;rw [Array.getElem?_eq_getElem hi];show numOf arr[i].1=n;rw [hn];rfl
 rw [this,<-hn]
def bey(left:Bool)(k:Int)(arr:Array Keyed)(i:Nat):Bool:=if left then decide (K arr i<k) else !decide (k<K arr i)
theorem t_j{st:SortSt}{left:Bool}{k:Int}{t:Tok}{p:Value}{arr:Array Keyed}{i:Nat}{Q:Option Bool->SortSt->Prop}(hk:kindOf st=oneType')(h0:IntKeys arr)(hi:i<arr.size)
  (h:Q (some (bey left k arr i)) st) :
  wpS (model prog w) A E s (elem' arr i >>= fun x=>if left=true then lt' x (.int k t,p) else (lt' (.int k t,p) x >>= fun r=>pure (r.map (fun x=>!x)))) Q st:=by
 obtain ⟨u,q,e⟩:=y_v h0 hi
 refine wpS_bind (z_l e ?_)
 cases left with
 | true=>exact r_f hk h
 | false=>exact wpS_bind (r_f hk (wpS_pure h))
def GI(left:Bool)(k:Int)(arr:Array Keyed)(base n lo hi:Nat):Prop :=
 lo<=hi/\hi<=n/\(∀ i,i<lo->bey left k arr (base+i)=true)/\(∀ i,hi<=i->i<n->bey left k arr (base+i)=false)
theorem y_b{st:SortSt}{left:Bool}{k:Int}{t:Tok}{p:Value}{arr:Array Keyed}{base n hint:Nat}{Q:Option Nat->SortSt->Prop}
  (hk:kindOf st=oneType') (h0:IntKeys arr) (hn:base+n<=arr.size) (hh:hint<n)
  (hd:∀ i j,i<=j->j<n->bey left k arr (base+j)=true->bey left k arr (base+i)=true)
  (h:∀ m,m<=n->(∀ i,i<m->bey left k arr (base+i)=true)->(∀ i,m<=i->i<n->bey left k arr (base+i)=false)->Q (some m) st) :
  wpS (model prog w) A E s (gallopP left (.int k t,p) arr base n hint) Q st:=by
 have hd':∀ i j,i<=j->j<n->bey left k arr (base+i)=false->bey left k arr (base+j)=false:=fun i j h1 h2 e=>by
  cases e2:bey left k arr (base+j) with
  | false=>rfl
  | true=>rw [hd i j h1 h2 e2] at e;exact absurd e (by decide)
 unfold gallopP
 refine wpS_bind (t_j hk h0 (by lia) ?_)
 dsimp only
 cases eh:bey left k arr (base+hint) with
 | true =>
  rw [if_pos rfl]
  refine wpS_bind (wpS_mono (Q:=fun c st'=>∃ a b,c=(none,a,b)/\st'=st/\a<b/\hint+a<n/\bey left k arr (base+(hint+a))=true/\(n<=hint+b\/bey left k arr (base+(hint+b))=false))
   (wpS_forRange (I:=fun x c st'=>∃ a b,c=(none,a,b)/\st'=st/\a<b/\x<b/\hint+a<n/\bey left k arr (base+(hint+a))=true)
    ?step ?fin ⟨0,1,rfl,rfl,by lia,by lia,by lia,eh⟩) ?post)
  case fin =>
   rintro c st' ⟨a,b,rfl,rfl,h1,h2,h3,h4⟩
   exact ⟨a,b,rfl,rfl,h1,h3,h4,.inl (by lia)⟩
  case step =>
   rintro x c st' _ hx ⟨a,b,rfl,rfl,h1,h2,h3,h4⟩
   dsimp only
   by_cases hc:b≥n-hint
   ·rw [if_pos hc]
    exact wpS_pure ⟨a,b,rfl,rfl,h1,h3,h4,.inl (by lia)⟩
   ·rw [if_neg hc]
    refine wpS_bind (t_j hk h0 (by lia) ?_)
    dsimp only
    cases eb:bey left k arr (base+(hint+b)) with
    | true=>exact wpS_pure ⟨b,2*b+1,rfl,rfl,by lia,by lia,by lia,eb⟩
    | false=>exact wpS_pure ⟨a,b,rfl,rfl,h1,h3,h4,.inr eb⟩
  case post =>
   rintro c st' ⟨a,b,rfl,rfl,h1,h3,h4,h5⟩
   dsimp only
   refine wpS_bind (wpS_mono (Q:=fun c st2=>∃ m,c=(none,m,m)/\st2=st'/\GI left k arr base n m m)
    (wpS_forRange (I:=fun x c st2=>∃ lo hi,c=(none,lo,hi)/\st2=st'/\hi-lo+x<=n/\GI left k arr base n lo hi)
     ?zst5 ?fin5 ⟨_,_,rfl,rfl,?gd5,?gi5⟩) ?post5)
   case gd5=>lia
   case gi5 =>
    refine ⟨by lia,by lia,fun i hi=>hd i _ (by lia) h3 h4,fun i h6 h7=>?_⟩
    rcases h5 with h5 | h5
    ·lia
    ·exact hd' _ i (by lia) h7 h5
   case post5 =>
    rintro c st' ⟨m,rfl,rfl,_,hm,a,b⟩
    exact wpS_pure (h m hm a b)
   case fin5 =>
    rintro c st' ⟨lo,hi,rfl,rfl,d,g⟩
    have:lo=hi:=by have:=g.1;lia
    subst this
    exact ⟨lo,rfl,rfl,g⟩
   case zst5 =>
    rintro x c st' _ hx ⟨lo,hi,rfl,rfl,d,g⟩
    dsimp only
    by_cases hc:lo≥hi
    ·rw [if_pos hc]
     have:lo=hi:=by have:=g.1;lia
     subst this
     exact wpS_pure ⟨lo,rfl,rfl,g⟩
    ·rw [if_neg hc]
     obtain ⟨a,b,e,f⟩:=g
     refine wpS_bind (t_j hk h0 (by lia) ?_)
     dsimp only
     cases eb:bey left k arr (base+(lo+(hi-lo)/2)) with
     | true=>exact wpS_pure ⟨_,_,rfl,rfl,by lia,by lia,b,fun i hi'=>hd i _ (by lia) (by lia) eb,f⟩
     | false=>exact wpS_pure ⟨_,_,rfl,rfl,by lia,by lia,by lia,e,fun i h3 h4=>hd' _ i h3 h4 eb⟩
 | false =>
  rw [if_neg (by decide)]
  refine wpS_bind (wpS_mono (Q:=fun c st'=>∃ a b,c=(none,a,b)/\st'=st/\a<b/\a<=hint/\bey left k arr (base+(hint-a))=false/\(hint<b\/bey left k arr (base+(hint-b))=true))
   (wpS_forRange (I:=fun x c st'=>∃ a b,c=(none,a,b)/\st'=st/\a<b/\x<b/\a<=hint/\bey left k arr (base+(hint-a))=false)
    ?zst4 ?fin4 ⟨0,1,rfl,rfl,by lia,by lia,by lia,eh⟩) ?post4)
  case fin4 =>
   rintro c st' ⟨a,b,rfl,rfl,h1,h2,h3,h4⟩
   exact ⟨a,b,rfl,rfl,h1,h3,h4,.inl (by lia)⟩
  case zst4 =>
   rintro x c st' _ hx ⟨a,b,rfl,rfl,h1,h2,h3,h4⟩
   dsimp only
   by_cases hc:b≥hint+1
   ·rw [if_pos hc]
    exact wpS_pure ⟨a,b,rfl,rfl,h1,h3,h4,.inl (by lia)⟩
   ·rw [if_neg hc]
    refine wpS_bind (t_j hk h0 (by lia) ?_)
    dsimp only
    cases eb:bey left k arr (base+(hint-b)) with
    | true=>exact wpS_pure ⟨a,b,rfl,rfl,h1,h3,h4,.inr eb⟩
    | false=>exact wpS_pure ⟨b,2*b+1,rfl,rfl,by lia,by lia,by lia,eb⟩
  case post4 =>
   rintro c st' ⟨a,b,rfl,rfl,h1,h3,h4,h5⟩
   dsimp only
   refine wpS_bind (wpS_mono (Q:=fun c st2=>∃ m,c=(none,m,m)/\st2=st'/\GI left k arr base n m m)
    (wpS_forRange (I:=fun x c st2=>∃ lo hi,c=(none,lo,hi)/\st2=st'/\hi-lo+x<=n/\GI left k arr base n lo hi)
     ?zst6 ?fin6 ⟨_,_,rfl,rfl,?gd6,?gi6⟩) ?post6)
   case gd6=>lia
   case gi6 =>
    refine ⟨by lia,by lia,fun i hi=>?_,fun i h6 h7=>hd' _ i (by lia) h7 h4⟩
    rcases h5 with h5 | h5
    ·lia
    ·exact hd i _ (by lia) (by lia) h5
   case post6 =>
    rintro c st' ⟨m,rfl,rfl,_,hm,a,b⟩
    exact wpS_pure (h m hm a b)
   case fin6 =>
    rintro c st' ⟨lo,hi,rfl,rfl,d,g⟩
    have:lo=hi:=by have:=g.1;lia
    subst this
    exact ⟨lo,rfl,rfl,g⟩
   case zst6 =>
    rintro x c st' _ hx ⟨lo,hi,rfl,rfl,d,g⟩
    dsimp only
    by_cases hc:lo≥hi
    ·rw [if_pos hc]
     have:lo=hi:=by have:=g.1;lia
     subst this
     exact wpS_pure ⟨lo,rfl,rfl,g⟩
    ·rw [if_neg hc]
     obtain ⟨a,b,e,f⟩:=g
     refine wpS_bind (t_j hk h0 (by lia) ?_)
     dsimp only
     cases eb:bey left k arr (base+(lo+(hi-lo)/2)) with
     | true=>exact wpS_pure ⟨_,_,rfl,rfl,by lia,by lia,b,fun i hi'=>hd i _ (by lia) (by lia) eb,f⟩
     | false=>exact wpS_pure ⟨_,_,rfl,rfl,by lia,by lia,by lia,e,fun i h3 h4=>hd' _ i h3 h4 eb⟩
end
end L2
namespace L2
open PySem PyProof.Rows
theorem K_push{xs:Array Keyed}{x:Keyed}(i:Nat):K (xs.push x) i=if i=xs.size then numOf x.1 else K xs i:=by
 unfold K
 rw [Array.getElem?_push]
 by_cases h:i=xs.size
 ·rw [if_pos h,if_pos h]
 ·rw [if_neg h,if_neg h]
structure Mg(a b out:Array Keyed)(ia ib:Nat):Prop where
 la:ia<=a.size
 lb:ib<=b.size
 sz:out.size=ia+ib
 pm:out.toList.Perm (a.toList.take ia++b.toList.take ib)
 so:SortedTo out out.size
 ba:∀ i j,i<out.size->ia<=j->j<a.size->K out i<=K a j
 bb:∀ i j,i<out.size->ib<=j->j<b.size->K out i<=K b j
theorem K_of{a:Array Keyed}{i:Nat}{x:Keyed}(h:a[i]? = some x):numOf x.1=K a i:=by unfold K;rw [h]
theorem take_one{a:Array Keyed}{i:Nat}{x:Keyed}(h:a[i]? = some x):a.toList.take (i+1)=a.toList.take i++[x]:=by
 rw [List.take_add_one,Array.getElem?_toList,h];rfl
variable {a b out:Array Keyed} {ia ib:Nat}
theorem Mg.pushA(M:Mg a b out ia ib)(sa:SortedTo a a.size){x:Keyed}(hx:a[ia]? = some x)(hb:∀ j,ib<=j->j<b.size->K a ia<=K b j):Mg a b (out.push x) (ia+1) ib:=by
 have hlt:ia<a.size:=(Array.getElem?_eq_some_iff.mp hx).1
 have e:=K_of hx
 refine ⟨hlt,M.lb,by rw [Array.size_push,M.sz];lia,?_,?_,?_,?_⟩
 ·rw [Array.toList_push,take_one hx]
  exact (M.pm.append_right _).trans (by rw [List.append_assoc,List.append_assoc];exact (List.perm_append_comm).append_left _)
 ·intro i j hij hj
  rw [Array.size_push] at hj
  rw [K_push,K_push]
  split<;>split
  ·exact Int.le_refl _
  ·lia
  ·rw [e];exact M.ba i ia (by lia) (Nat.le_refl _) hlt
  ·exact M.so i j hij (by lia)
 ·intro i j hi hj hj2
  rw [Array.size_push] at hi
  rw [K_push]
  split
  ·rw [e];exact sa _ _ (by lia) hj2
  ·exact M.ba i j (by lia) (by lia) hj2
 ·intro i j hi hj hj2
  rw [Array.size_push] at hi
  rw [K_push]
  split
  ·rw [e];exact hb j hj hj2
  ·exact M.bb i j (by lia) hj hj2
theorem Mg.swap(M:Mg a b out ia ib):Mg b a out ib ia :=
 ⟨M.lb,M.la,by rw [M.sz];lia,M.pm.trans List.perm_append_comm,M.so,M.bb,M.ba⟩
theorem Mg.pushB(M:Mg a b out ia ib)(sb:SortedTo b b.size){x:Keyed}(hx:b[ib]? = some x)(ha:∀ j,ia<=j->j<a.size->K b ib<=K a j):Mg a b (out.push x) ia (ib+1) :=
 (M.swap.pushA sb hx ha).swap
theorem Mg.appA(M:Mg a b out ia ib)(sa:SortedTo a a.size):∀ {k:Nat},ia+k<=a.size->(∀ i j,i<k->ib<=j->j<b.size->K a (ia+i)<=K b j)->Mg a b (out++a.extract ia (ia+k)) (ia+k) ib
 | 0,_,_=>by
  have:a.extract ia (ia+0) = #[]:=by simp;lia
  rw [this,Array.append_empty];exact M
 | k+1,hk,hb=>by
  have I:=Mg.appA M sa (k:=k) (by lia) fun i j h1=>hb i j (by lia)
  have hx:a[ia+k]? = some a[ia+k]:=Array.getElem?_eq_getElem (by lia)
  have e:out++a.extract ia (ia+(k+1))=(out++a.extract ia (ia+k)).push a[ia+k]:=by
   rw [<-Array.append_push,show ia+(k+1)=ia+k+1 from rfl,Array.push_extract_getElem (by lia)]
   rw [Nat.min_eq_left (by lia)]
  rw [e]
  exact I.pushA sa hx fun j h1 h2=>hb k j (by lia) h1 h2
theorem Mg.appB(M:Mg a b out ia ib)(sb:SortedTo b b.size){k:Nat}(hk:ib+k<=b.size)(ha:∀ i j,i<k->ia<=j->j<a.size->K b (ib+i)<=K a j):Mg a b (out++b.extract ib (ib+k)) ia (ib+k) :=
 (M.swap.appA sb hk ha).swap
def Mrg(a b m:Array Keyed):Prop:=m.toList.Perm (a.toList++b.toList)/\SortedTo m m.size
theorem Mg.full(M:Mg a b out a.size b.size):Mrg a b out :=
 ⟨by have:=M.pm;rwa [<-Array.length_toList,<-Array.length_toList,List.take_length,List.take_length] at this,M.so⟩
theorem Mg.done(M:Mg a b out ia ib)(sa:SortedTo a a.size)(hb:ib=b.size):Mrg a b (out++a.extract ia a.size++b.extract ib b.size):=by
 subst hb
 have M2:=M.appA sa (k:=a.size-ia) (by have:=M.la;lia) fun i j _ h1 h2=>by lia
 rw [show ia+(a.size-ia)=a.size by have:=M.la;lia] at M2
 have:b.extract b.size b.size = #[]:=by simp
 rw [this,Array.append_empty]
 exact M2.full
theorem Mg.lastA(M:Mg a b out ia ib)(sa:SortedTo a a.size)(sb:SortedTo b b.size)(hl:ia+1=a.size)(hb:K b (b.size-1)<=K a (a.size-1)) :
  Mrg a b (out++b.extract ib b.size++a.extract ia a.size):=by
 have M2:=M.appB sb (k:=b.size-ib) (by have:=M.lb;lia) fun i j h0 h1 h2=>by
  have:j=a.size-1:=by lia
  rw [this];exact Int.le_trans (sb _ _ (by lia) (by lia)) hb
 rw [show ib+(b.size-ib)=b.size by have:=M.lb;lia] at M2
 have M3:=M2.appA sa (k:=a.size-ia) (by lia) fun i j _ h1 h2=>by lia
 rw [show ia+(a.size-ia)=a.size by lia] at M3
 exact M3.full
end L2
namespace L2
open PySem PyProof.Rows
structure SB(z:Array Keyed)(st:SortSt):Prop where
 pm:(arrOf st).Perm z
 kd:kindOf st=oneType'
 fl:failedOf st=none
structure OffS(lo hi:Nat)(st st':SortSt):Prop where
 k:∀ i,i<lo\/hi<=i->K (arrOf st') i=K (arrOf st) i
 p:pendingOf st'=pendingOf st
def Seg(xs:Array Keyed)(lo n:Nat):Prop:=∀ i j,i<=j->j<n->K xs (lo+i)<=K xs (lo+j)
theorem OffS.rfl{lo hi:Nat}{st:SortSt}:OffS lo hi st st:=⟨fun _ _=>Eq.refl _,Eq.refl _⟩
section
variable {prog:Program} {w:World} {A:Around} {E:Value->Shared->Prop} {s:Shared} {z:Array Keyed}
theorem SB.size{st:SortSt}(h:SB z st):(arrOf st).size=z.size:=h.pm.size_eq
theorem SB.ints{st:SortSt}(h:SB z st)(h0:IntKeys z):IntKeys (arrOf st):=fun p hp=>h0 p ((Array.perm_iff_toList_perm.mp h.pm).mem_iff.mp hp)
theorem SB.set{st:SortSt}(h:SB z st){xs:Array Keyed}(hp:xs.Perm (arrOf st)):SB z (setArr st xs):=⟨hp.trans h.pm,h.kd,h.fl⟩
theorem v_e{st:SortSt}{i j:Nat}{Q:Option Bool->SortSt->Prop}(B:SB z st)(h0:IntKeys z)(hi:i<z.size)(hj:j<z.size)
  (h:Q (some (decide (K (arrOf st) i<K (arrOf st) j))) st):wpS (model prog w) A E s (ltAt' i j) Q st:=by
 obtain ⟨t,p,e1⟩:=y_v (B.ints h0) (i:=i) (by rw [B.size];exact hi)
 obtain ⟨u,q,e2⟩:=y_v (B.ints h0) (i:=j) (by rw [B.size];exact hj)
 exact wpS_ltAt B.kd e1 e2 h
theorem wpS_binB{st:SortSt}{lo n ok:Nat}{Q:Bool->SortSt->Prop}(h0:IntKeys z)(hn:lo+n<=z.size)(hok:ok<=n)(B:SB z st)(hs:Seg (arrOf st) lo ok)
  (h:∀ st',SB z st'->OffS lo (lo+n) st st'->Seg (arrOf st') lo n->Q true st'):wpS (model prog w) A E s (binarySort' lo n ok) Q st:=by
 unfold binarySort'
 refine wpS_bind (wpS_mono (Q:=fun c y=>c=(none,())/\SB z y/\OffS lo (lo+n) st y/\Seg (arrOf y) lo n)
  (wpS_forRange (I:=fun k c y=>c=(none,())/\SB z y/\OffS lo (lo+n) st y/\Seg (arrOf y) lo (min k n)) ?s1 ?f1 ⟨rfl,B,.rfl,?i1⟩) ?p1)
 case p1 =>
  rintro c y ⟨rfl,B1,O,S⟩
  exact wpS_pure (h y B1 O S)
 case i1 =>
  intro i j hij hj
  by_cases h1:j<ok
  ·exact hs i j hij h1
  ·have:i=j:=by lia
   rw [this];exact Int.le_refl _
 case f1 =>
  rintro c y ⟨rfl,B1,O,S⟩
  refine ⟨rfl,B1,O,?_⟩
  rw [show min (max (max ok 1) n) n=n by lia] at S
  exact S
 case s1 =>
  rintro k c y hk1 hk2 ⟨rfl,B1,O,S⟩
  rw [show min k n=k by lia] at S
  have hz:lo+k<(arrOf y).size:=by rw [B1.size];lia
  refine wpS_bind (wpS_mono (Q:=fun c y2=>y2=y/\∃ l r,c=(none,l,r)/\l<=k/\(∀ i,i<l->K (arrOf y) (lo+i)<=K (arrOf y) (lo+k))/\(∀ i,l<=i->i<k->K (arrOf y) (lo+k)<=K (arrOf y) (lo+i)))
   (wpS_forRange (I:=fun x c y2=>y2=y/\∃ l r,c=(none,l,r)/\l<=r/\r<=k/\r-l+x<=k/\(∀ i,i<l->K (arrOf y) (lo+i)<=K (arrOf y) (lo+k))/\(∀ i,r<=i->i<k->K (arrOf y) (lo+k)<=K (arrOf y) (lo+i))) ?s2 ?f2
    ⟨rfl,0,k,rfl,by lia,by lia,by lia,fun i hi=>by lia,fun i h1 h2=>by lia⟩) ?p2)
  case f2 =>
   rintro c y2 ⟨rfl,l,r,rfl,h1,h2,h3,h4,h5⟩
   exact ⟨rfl,l,r,rfl,by lia,h4,fun i h6 h7=>h5 i (by lia) h7⟩
  case s2 =>
   rintro x c y2 _ hx ⟨rfl,l,r,rfl,h1,h2,h3,h4,h5⟩
   dsimp only
   by_cases hc:l≥r
   ·rw [if_pos hc]
    exact wpS_pure ⟨rfl,l,r,rfl,by lia,h4,fun i h6 h7=>h5 i (by lia) h7⟩
   ·rw [if_neg hc]
    refine wpS_bind (v_e B1 h0 (by lia) (by lia) ?_)
    dsimp only
    by_cases hl:K (arrOf y2) (lo+k)<K (arrOf y2) (lo+(l+r)/2)
    ·simp only [hl,decide_true,if_true]
     exact wpS_pure ⟨rfl,l,(l+r)/2,rfl,by lia,by lia,by lia,h4,fun i h6 h7=>Int.le_trans (Int.le_of_lt hl) (S _ _ h6 h7)⟩
    ·simp only [hl,decide_false,Bool.false_eq_true,if_false]
     exact wpS_pure ⟨rfl,(l+r)/2+1,r,rfl,by lia,by lia,by lia,fun i h6=>Int.le_trans (S i ((l+r)/2) (by lia) (by lia)) (Int.not_lt.mp hl),h5⟩
  case p2 =>
   rintro c y2 ⟨rfl,l,r,rfl,h1,h4,h5⟩
   dsimp only
   have kb:=fun q=>K_bubble (xs:=arrOf y2) (src:=lo+k) (d:=lo+k-(lo+l)) hz (by lia) q
   have e1:lo+k-(lo+k-(lo+l))=lo+l:=by lia
   rw [e1] at kb
   refine wpS_bind (wpS_modify (wpS_pure ⟨rfl,B1.set (bubble_perm _ (lo+k) (lo+k-(lo+l))),⟨fun i hi=>?_,O.p⟩,?_⟩))
   ·show K (bubble (arrOf y2) (lo+k) (lo+k-(lo+l))) i=_
    rw [kb,if_neg (by lia),if_neg (by lia)]
    exact O.k i hi
   ·show Seg (bubble (arrOf y2) (lo+k) (lo+k-(lo+l))) lo (min (k+1) n)
    intro i j hij hj
    rw [kb,kb]
    by_cases a1:lo+i=lo+l
    ·rw [if_pos a1]
     by_cases b1:lo+j=lo+l
     ·rw [if_pos b1];exact Int.le_refl _
     ·rw [if_neg b1,if_pos (by lia),show lo+j-1=lo+(j-1) by lia]
      exact h5 _ (by lia) (by lia)
    ·rw [if_neg a1]
     by_cases a2:lo+l<lo+i/\lo+i<=lo+k
     ·rw [if_pos a2,if_neg (by lia),if_pos (by lia),show lo+i-1=lo+(i-1) by lia,show lo+j-1=lo+(j-1) by lia]
      exact S _ _ (by lia) (by lia)
     ·rw [if_neg a2]
      by_cases b1:lo+j=lo+l
      ·rw [if_pos b1];exact h4 i (by lia)
      ·rw [if_neg b1]
       by_cases b2:lo+l<lo+j/\lo+j<=lo+k
       ·rw [if_pos b2,show lo+j-1=lo+(j-1) by lia];exact S _ _ (by lia) (by lia)
       ·rw [if_neg b2];exact S _ _ hij (by lia)
end
end L2
namespace L2
open PySem PyProof.Rows
variable {prog:Program} {w:World} {A:Around} {E:Value->Shared->Prop} {s:Shared} {z:Array Keyed}
def Dsc(xs:Array Keyed)(lo n:Nat):Prop:=∀ i j,i<=j->j<n->K xs (lo+j)<=K xs (lo+i)
theorem Seg.one{xs:Array Keyed}{lo n:Nat}(S:Seg xs lo n)(h:n=0\/K xs (lo+n-1)<=K xs (lo+n)):Seg xs lo (n+1):=by
 intro i j hij hj
 by_cases h1:j<n
 ·exact S i j hij h1
 ·have hj':j=n:=by lia
  subst hj'
  by_cases h2:i=j
  ·rw [h2];exact Int.le_refl _
  ·have h3:=h.resolve_left (by lia)
   rw [show lo+j-1=lo+(j-1) by lia] at h3
   exact Int.le_trans (S i (j-1) (by lia) (by lia)) h3
theorem Dsc.one{xs:Array Keyed}{lo n:Nat}(S:Dsc xs lo n)(h:n=0\/K xs (lo+n)<=K xs (lo+n-1)):Dsc xs lo (n+1):=by
 intro i j hij hj
 by_cases h1:j<n
 ·exact S i j hij h1
 ·have hj':j=n:=by lia
  subst hj'
  by_cases h2:i=j
  ·rw [h2];exact Int.le_refl _
  ·have h3:=h.resolve_left (by lia)
   rw [show lo+j-1=lo+(j-1) by lia] at h3
   exact Int.le_trans h3 (S i (j-1) (by lia) (by lia))
theorem Dsc.turn{xs:Array Keyed}{lo n:Nat}(S:Dsc xs lo n)(hz:lo+n<=xs.size):Seg (mirror xs lo (lo+n) ((lo+n-lo)/2)) lo n:=by
 intro i j hij hj
 rw [K_mirror hz,K_mirror hz,if_pos (by lia),if_pos (by lia),show lo+(lo+n)-1-(lo+i)=lo+(n-1-i) by lia,show lo+(lo+n)-1-(lo+j)=lo+(n-1-j) by lia]
 exact S _ _ (by lia) (by lia)
theorem OffS.turn{lo hi i j:Nat}{st y:SortSt}(O:OffS lo hi st y)(hz:j<=(arrOf y).size)(h1:lo<=i)(h2:j<=hi):OffS lo hi st (setArr y (mirror (arrOf y) i j ((j-i)/2))) :=
 ⟨fun k hk=>by show K (mirror (arrOf y) i j ((j-i)/2)) k=_;rw [K_mirror hz,if_neg (by lia)];exact O.k k hk,O.p⟩
theorem Dsc.congr{xs ys:Array Keyed}{lo n:Nat}(S:Dsc xs lo n)(h:∀ k,K ys k=K xs k):Dsc ys lo n:=fun i j h1 h2=>by rw [h,h];exact S i j h1 h2
theorem wpS_cnt{st:SortSt}{lo nrem:Nat}{Q:Option Nat->SortSt->Prop}(h0:IntKeys z)(hn:lo+nrem<=z.size)(h1:1<=nrem)(B:SB z st)
  (h:∀ m y,SB z y->OffS lo (lo+nrem) st y->1<=m->m<=nrem->Seg (arrOf y) lo m->Q (some m) y):wpS (model prog w) A E s (countRun' lo nrem) Q st:=by
 unfold countRun'
 refine wpS_bind (wpS_mono (Q:=fun c y=>∃ m,c=(none,m)/\y=st/\1<=m/\m<=nrem/\Seg (arrOf st) lo m/\(m=nrem\/K (arrOf st) (lo+m)<K (arrOf st) (lo+m-1)))
  (wpS_forRange (I:=fun x c y=>c=(none,x)/\y=st/\Seg (arrOf st) lo x) ?s1 ?f1 ⟨rfl,rfl,?i1⟩) ?p1)
 case i1=>exact fun i j hij hj=>by rw [show i=j by lia];exact Int.le_refl _
 case f1 =>
  rintro c y ⟨rfl,rfl,S⟩
  rw [show max 1 nrem=nrem by lia] at S ⊢
  exact ⟨nrem,rfl,rfl,h1,Nat.le_refl _,S,.inl rfl⟩
 case s1 =>
  rintro x c y hx1 hx2 ⟨rfl,rfl,S⟩
  refine wpS_bind (v_e B h0 (by show lo+x<_;lia) (by show lo+x-1<_;lia) ?_)
  dsimp only
  by_cases hl:K (arrOf y) (lo+x)<K (arrOf y) (lo+x-1)
  ·simp only [hl,decide_true,if_true]
   exact wpS_pure ⟨x,rfl,rfl,hx1,by lia,S,.inr hl⟩
  ·simp only [hl,decide_false,Bool.false_eq_true,if_false]
   exact wpS_pure ⟨rfl,rfl,S.one (.inr (Int.not_lt.mp hl))⟩
 rintro c y ⟨m,rfl,rfl,m1,m2,S,hor⟩
 show wpS (model prog w) A E s (if (m == nrem)=true then _ else _) Q y
 by_cases hm:m=nrem
 ·rw [if_pos (by simpa using hm)]
  exact wpS_pure (h m y B .rfl m1 m2 S)
 rw [if_neg (by simpa using hm)]
 have hlt:=hor.resolve_left hm
 generalize hj:(fun (_:PUnit)=>(_:StateT SortSt Sem (Option Nat)))=jp
 have key:∀ v,SB z v->OffS lo (lo+nrem) y v->Dsc (arrOf v) lo (m+1)->wpS (model prog w) A E s (jp ⟨⟩) Q v:=by
  subst hj
  intro v Bv Ov Dv
  refine wpS_bind (wpS_lift (wpAny_rule ⟨rfl,?_⟩))
  refine wpS_bind (wpS_mono (Q:=fun c v=>∃ n q,c=(none,n,q)/\SB z v/\OffS lo (lo+nrem) y v/\Dsc (arrOf v) lo n/\q+1<=n/\n<=nrem/\(∀ i,lo+n-(q+1)<=i->i<lo+n->K (arrOf v) i=K (arrOf v) (lo+n-1)))
   (wpS_forRange (I:=fun x c v=>∃ q,c=(none,x,q)/\SB z v/\OffS lo (lo+nrem) y v/\Dsc (arrOf v) lo x/\q+1<=x/\(∀ i,lo+x-(q+1)<=i->i<lo+x->K (arrOf v) i=K (arrOf v) (lo+x-1))) ?s2 ?f2
    ⟨0,rfl,Bv,Ov,Dv,by lia,fun i a b=>by rw [show i=lo+(m+1)-1 by lia]⟩) ?p2)
  case f2 =>
   rintro c v ⟨q,rfl,a,b,d,e,f⟩
   rw [show max (m+1) nrem=nrem by lia] at d e f ⊢
   exact ⟨nrem,q,rfl,a,b,d,e,Nat.le_refl _,f⟩
  case s2 =>
   rintro x c v hx1 hx2 ⟨q,rfl,a,b,d,e,f⟩
   have hz:lo+x<=(arrOf v).size:=by rw [a.size];lia
   refine wpS_bind (v_e a h0 (by show lo+x<_;lia) (by show lo+x-1<_;lia) ?_)
   dsimp only
   by_cases hl:K (arrOf v) (lo+x)<K (arrOf v) (lo+x-1)
   ·simp only [hl,decide_true,if_true]
    by_cases hq:q > 0
    ·rw [if_pos hq]
     refine wpS_bind (wpS_reverse (wpS_pure ⟨0,rfl,a.set (mirror_perm _ _ _ _),b.turn hz (by lia) (by lia),(d.one (.inr (Int.le_of_lt hl))).congr (K_mirror_equal hz f),by lia,fun i g1 g2=>by rw [show i=lo+(x+1)-1 by lia]⟩))
    ·rw [if_neg hq]
     exact wpS_pure ⟨0,rfl,a,b,d.one (.inr (Int.le_of_lt hl)),by lia,fun i g1 g2=>by rw [show i=lo+(x+1)-1 by lia]⟩
   ·simp only [hl,decide_false,Bool.false_eq_true,if_false]
    refine wpS_bind (v_e a h0 (by lia) (by lia) ?_)
    by_cases hg:K (arrOf v) (lo+x-1)<K (arrOf v) (lo+x)
    ·simp only [hg,decide_true,if_true]
     exact wpS_pure ⟨x,q,rfl,a,b,d,e,by lia,f⟩
    ·simp only [hg,decide_false,Bool.false_eq_true,if_false]
     have he:K (arrOf v) (lo+x)=K (arrOf v) (lo+x-1):=by lia
     refine wpS_pure ⟨q+1,rfl,a,b,d.one (.inr (Int.le_of_eq he)),by lia,fun i g1 g2=>?_⟩
     rw [show lo+(x+1)-1=lo+x by lia]
     by_cases hi:i=lo+x
     ·rw [hi]
     ·rw [he];exact f i (by lia) (by lia)
  case p2 =>
   rintro c v ⟨n,q,rfl,a,b,d,e,e2,f⟩
   have hz:lo+n<=(arrOf v).size:=by rw [a.size];lia
   dsimp only
   by_cases hq:q > 0
   ·rw [if_pos hq]
    refine wpS_bind (wpS_reverse ?_)
    replace d:Dsc (arrOf (setArr v (mirror (arrOf v) (lo+n-(q+1)) (lo+n) ((lo+n-(lo+n-(q+1)))/2)))) lo n:=d.congr (K_mirror_equal hz f)
    replace b:=b.turn (i:=lo+n-(q+1)) hz (by lia) (by lia)
    replace a:=a.set (mirror_perm (arrOf v) (lo+n-(q+1)) (lo+n) ((lo+n-(lo+n-(q+1)))/2))
    clear f
    have hz:lo+n<=(arrOf (setArr v (mirror (arrOf v) (lo+n-(q+1)) (lo+n) ((lo+n-(lo+n-(q+1)))/2)))).size:=by rw [a.size];lia
    generalize setArr v (mirror (arrOf v) (lo+n-(q+1)) (lo+n) ((lo+n-(lo+n-(q+1)))/2))=u at a b d hz ⊢
    refine wpS_bind (wpS_reverse ?_)
    refine wpS_bind (wpS_mono (Q:=fun c u=>∃ k,c=(none,k)/\SB z u/\OffS lo (lo+nrem) y u/\1<=k/\k<=nrem/\Seg (arrOf u) lo k)
     (wpS_forRange (I:=fun x c u=>c=(none,x)/\SB z u/\OffS lo (lo+nrem) y u/\Seg (arrOf u) lo x) ?s7 ?f7
      ⟨rfl,a.set (mirror_perm _ _ _ _),b.turn hz (Nat.le_refl _) (by lia),d.turn hz⟩) ?p7)
    case f7 =>
     rintro c u ⟨rfl,g1,g2,g3⟩
     rw [show max n nrem=nrem by lia] at g3 ⊢
     exact ⟨nrem,rfl,g1,g2,h1,Nat.le_refl _,g3⟩
    case s7 =>
     rintro x c u hx1 hx2 ⟨rfl,g1,g2,g3⟩
     refine wpS_bind (v_e g1 h0 (by show lo+x<_;lia) (by show lo+x-1<_;lia) ?_)
     dsimp only
     by_cases hl:K (arrOf u) (lo+x)<K (arrOf u) (lo+x-1)
     ·simp only [hl,decide_true,if_true]
      exact wpS_pure ⟨x,rfl,g1,g2,by lia,by lia,g3⟩
     ·simp only [hl,decide_false,Bool.false_eq_true,if_false]
      exact wpS_pure ⟨rfl,g1,g2,g3.one (.inr (Int.not_lt.mp hl))⟩
    case p7 =>
     rintro c u ⟨k,rfl,g1,g2,g3,g4,g5⟩
     exact wpS_pure (h k u g1 g2 g3 g4 g5)
   ·rw [if_neg hq]
    refine wpS_bind (wpS_reverse ?_)
    refine wpS_bind (wpS_mono (Q:=fun c u=>∃ k,c=(none,k)/\SB z u/\OffS lo (lo+nrem) y u/\1<=k/\k<=nrem/\Seg (arrOf u) lo k)
     (wpS_forRange (I:=fun x c u=>c=(none,x)/\SB z u/\OffS lo (lo+nrem) y u/\Seg (arrOf u) lo x) ?s8 ?f8
      ⟨rfl,a.set (mirror_perm _ _ _ _),b.turn hz (Nat.le_refl _) (by lia),d.turn hz⟩) ?p8)
    case f8 =>
     rintro c u ⟨rfl,g1,g2,g3⟩
     rw [show max n nrem=nrem by lia] at g3 ⊢
     exact ⟨nrem,rfl,g1,g2,h1,Nat.le_refl _,g3⟩
    case s8 =>
     rintro x c u hx1 hx2 ⟨rfl,g1,g2,g3⟩
     refine wpS_bind (v_e g1 h0 (by show lo+x<_;lia) (by show lo+x-1<_;lia) ?_)
     dsimp only
     by_cases hl:K (arrOf u) (lo+x)<K (arrOf u) (lo+x-1)
     ·simp only [hl,decide_true,if_true]
      exact wpS_pure ⟨x,rfl,g1,g2,by lia,by lia,g3⟩
     ·simp only [hl,decide_false,Bool.false_eq_true,if_false]
      exact wpS_pure ⟨rfl,g1,g2,g3.one (.inr (Int.not_lt.mp hl))⟩
    case p8 =>
     rintro c u ⟨k,rfl,g1,g2,g3,g4,g5⟩
     exact wpS_pure (h k u g1 g2 g3 g4 g5)
 clear hj
 dsimp only
 by_cases hm1:m > 1
 ·rw [if_pos hm1]
  refine wpS_bind (v_e B h0 (by lia) (by lia) ?_)
  by_cases hr:K (arrOf y) lo<K (arrOf y) (lo+m-1)
  ·simp only [hr,decide_true,if_true]
   exact wpS_pure (h m y B .rfl m1 m2 S)
  ·simp only [hr,decide_false,Bool.false_eq_true,if_false]
   have hz:lo+m<=(arrOf y).size:=by rw [B.size];lia
   have al:∀ k,lo<=k->k<lo+m->K (arrOf y) k=K (arrOf y) (lo+m-1):=fun k g1 g2=>by
    have a1:=S 0 (k-lo) (by lia) (by lia)
    have a2:=S (k-lo) (m-1) (by lia) (by lia)
    rw [show lo+(k-lo)=k by lia] at a1 a2
    rw [show lo+(m-1)=lo+m-1 by lia] at a2
    rw [Nat.add_zero] at a1
    lia
   refine wpS_bind (wpS_reverse (key _ (B.set (mirror_perm _ _ _ _)) (OffS.rfl.turn hz (Nat.le_refl _) (by lia)) ?_))
   refine Dsc.congr ?_ (K_mirror_equal hz al)
   refine Dsc.one (fun i j g1 g2=>?_) (.inr (Int.le_of_lt hlt))
   rw [al _ (by lia) (by lia),al (lo+i) (by lia) (by lia)];exact Int.le_refl _
 ·rw [if_neg hm1]
  refine key y B .rfl (Dsc.one (fun i j g1 g2=>?_) (.inr (Int.le_of_lt hlt)))
  rw [show i=j by lia];exact Int.le_refl _
end L2
namespace L2
open PySem PyProof.Rows
def mergeLoP:Array Keyed->Array Keyed->StateT SortSt Sem (Array Keyed):=sortPriv% PySem.Builtin.mergeLo
variable {prog:Program} {w:World} {A:Around} {E:Value->Shared->Prop} {s:Shared} {z:Array Keyed}
def Gal(st y:SortSt):Prop:=arrOf y=arrOf st/\kindOf y=kindOf st/\pendingOf y=pendingOf st/\failedOf y=failedOf st
theorem p_u{st : SortSt}{a b : Array Keyed}{Q : Array Keyed -> SortSt -> Prop}(hk : kindOf st = oneType')(ha : IntKeys a)(hb : IntKeys b)(sa : SortedTo a a.size)(sb : SortedTo b b.size)(na : 1 <= a.size)(nb : 1 <= b.size)
   (h1 : K b 0 < K a 0) (h2 : K b (b.size - 1) < K a (a.size - 1)) (h : ∀ m y, Gal st y -> Mrg a b m -> Q m y) : wpS (model prog w) A E s (mergeLoP a b) Q st := by
  unfold mergeLoP
  refine wpS_bind (wpS_lift (wpAny_rule ⟨rfl, ?_⟩))
  obtain ⟨t0, p0, e0⟩ := y_v hb (i := 0) (by lia)
  refine wpS_bind (z_l e0 ?_)
  have M0 : Mg a b #[(.int (K b 0) t0, p0)] 0 1 := by
    have M : Mg a b #[] 0 0 := ⟨by lia, by lia, rfl, .nil, fun i j _ hj => by simp at hj, fun i j hi => by simp at hi, fun i j hi => by simp at hi⟩
    exact M.pushB sb e0 fun j _ hj => Int.le_trans (Int.le_of_lt h1) (sa _ _ (by lia) hj)
  show wpS (model prog w) A E s (if (1 == b.size) = true then _ else if (0 + 1 == a.size) = true then _ else _) Q st
  by_cases c1 : 1 = b.size
  · rw [if_pos (by simpa using c1)]
    exact wpS_pure (h _ _ ⟨rfl, rfl, rfl, rfl⟩ (M0.done sa c1))
  rw [if_neg (by simpa using c1)]
  by_cases c2 : 0 + 1 = a.size
  · rw [if_pos (by simpa using c2)]
    exact wpS_pure (h _ _ ⟨rfl, rfl, rfl, rfl⟩ (M0.lastA sa sb c2 (Int.le_of_lt h2)))
  rw [if_neg (by simpa using c2)]
  refine wpS_bind (wpS_get ?_)
  refine wpS_bind (wpS_mono (Q := fun c y => ∃ m u, c = (some m, u) /\ Gal st y /\ Mrg a b m) (wpS_forRange (I := fun x c y => ∃ out ia ib g, c = (none, out, ia, ib, g) /\ Gal st y /\ Mg a b out ia ib /\ ia + 1 < a.size /\ ib < b.size /\ x < ia + ib) ?s1 ?f1 ⟨_, _, _, _, rfl, ⟨rfl, rfl, rfl, rfl⟩, M0, by lia, by lia, by lia⟩) ?p1)
  case f1 =>
    rintro c y ⟨out, ia, ib, g, rfl, G, M, l1, l2, l3⟩
    lia
  case p1 =>
    rintro c y ⟨m, u, rfl, G, M⟩
    exact wpS_pure (h m y G M)
  case s1 =>
    rintro x c y _ hx ⟨out, ia, ib, g, rfl, G, M, l1, l2, l3⟩
    have hky : kindOf y = oneType' := G.2.1.trans hk
    refine wpS_bind (wpS_mono (Q := fun c u => u = y /\ ((∃ m v, c = (some m, v) /\ Mrg a b m) \/ ∃ out ia' ib' ac bc, c = (none, out, ia', ib', ac, bc) /\ Mg a b out ia' ib' /\ ia' + 1 < a.size /\ ib' < b.size /\ ia + ib < ia' + ib'))
      (wpS_forRange (I := fun x c u => u = y /\ ∃ out ia' ib' ac bc, c = (none, out, ia', ib', ac, bc) /\ Mg a b out ia' ib' /\ ia' + 1 < a.size /\ ib' < b.size /\ ia + ib + x = ia' + ib') ?s2 ?f2 ⟨rfl, _, _, _, _, _, rfl, M, l1, l2, rfl⟩) ?p2)
    case f2 =>
      rintro c u ⟨rfl, out, i2, j2, ac, bc, rfl, M, l1, l2, l3⟩
      lia
    case s2 =>
      rintro x c u _ hx ⟨rfl, out, i2, j2, ac, bc, rfl, M, l1, l2, l3⟩
      obtain ⟨tb, pb, eb⟩ := y_v hb (i := j2) (by lia)
      obtain ⟨ta, pa, ea⟩ := y_v ha (i := i2) (by lia)
      dsimp only
      refine wpS_bind (z_l eb (wpS_bind (z_l ea (wpS_bind (r_f hky ?_)))))
      by_cases hl : K b j2 < K a i2
      · simp only [hl, decide_true, if_true]
        have M2 := M.pushB sb eb fun j g1 g2 => Int.le_trans (Int.le_of_lt hl) (sa _ _ g1 g2)
        refine wpS_bind (z_l eb ?_)
        by_cases d1 : j2 + 1 = b.size
        · rw [if_pos (by simpa using d1)]
          exact wpS_pure ⟨rfl, .inl ⟨_, _, rfl, M2.done sa d1⟩⟩
        · rw [if_neg (by simpa using d1)]
          by_cases d2 : bc + 1 ≥ g
          · rw [if_pos d2]
            exact wpS_pure ⟨rfl, .inr ⟨_, _, _, _, _, rfl, M2, l1, by lia, by lia⟩⟩
          · rw [if_neg d2]
            exact wpS_pure ⟨rfl, _, _, _, _, _, rfl, M2, l1, by lia, by lia⟩
      · simp only [hl, decide_false, Bool.false_eq_true, if_false]
        have M2 := M.pushA sa ea fun j g1 g2 => Int.le_trans (Int.not_lt.mp hl) (sb _ _ g1 g2)
        refine wpS_bind (z_l ea ?_)
        by_cases d1 : i2 + 1 + 1 = a.size
        · rw [if_pos (by simpa using d1)]
          exact wpS_pure ⟨rfl, .inl ⟨_, _, rfl, M2.lastA sa sb d1 (Int.le_of_lt h2)⟩⟩
        · rw [if_neg (by simpa using d1)]
          by_cases d2 : ac + 1 ≥ g
          · rw [if_pos d2]
            exact wpS_pure ⟨rfl, .inr ⟨_, _, _, _, _, rfl, M2, by lia, by lia, by lia⟩⟩
          · rw [if_neg d2]
            exact wpS_pure ⟨rfl, _, _, _, _, _, rfl, M2, by lia, by lia, by lia⟩
    case p2 =>
      rintro c u ⟨rfl, ⟨m, v, rfl, M⟩ | ⟨out, i2, j2, ac, bc, rfl, M, l1, l2, l4⟩⟩
      · exact wpS_pure ⟨m, _, rfl, G, M⟩
      · refine wpS_bind (wpS_lift (wpAny_rule ⟨rfl, ?_⟩))
        refine wpS_bind (wpS_mono (Q := fun c y => Gal st y /\ ((∃ m v, c = (some m, v) /\ Mrg a b m) \/ ∃ out i3 j3 g ac bc, c = (none, out, i3, j3, g, ac, bc) /\ Mg a b out i3 j3 /\ i3 + 1 < a.size /\ j3 < b.size /\ i2 + j2 <= i3 + j3))
          (wpS_forRange (I := fun x c y => Gal st y /\ ∃ out i3 j3 g ac bc, c = (none, out, i3, j3, g, ac, bc) /\ Mg a b out i3 j3 /\ i3 + 1 < a.size /\ j3 < b.size /\ i2 + j2 + x <= i3 + j3) ?s3 ?f3 ⟨G, _, _, _, _, _, _, rfl, M, l1, l2, Nat.le_refl _⟩) ?p3)
        case f3 =>
          rintro c y ⟨G, out, i3, j3, g, ac, bc, rfl, M, l1, l2, l3⟩
          lia
        case p3 =>
          rintro c y ⟨G, ⟨m, v, rfl, M⟩ | ⟨out, i3, j3, g, ac, bc, rfl, M, l1, l2, l5⟩⟩
          · exact wpS_pure ⟨m, _, rfl, G, M⟩
          · exact wpS_bind (wpS_modify (wpS_pure ⟨_, _, _, _, rfl, G, M, l1, l2, by show x + 1 < i3 + j3; lia⟩))
        case s3 =>
          rintro x c y _ hx ⟨G3, out, i3, j3, g, ac, bc, rfl, M, l1, l2, l3⟩
          have hk3 : kindOf y = oneType' := G3.2.1.trans hk
          obtain ⟨tb, pb, eb⟩ := y_v hb (i := j3) (by lia)
          dsimp only
          by_cases hg : g > 1
          · rw [if_pos hg]
            refine wpS_bind (wpS_modify ?_)
            refine wpS_bind (z_l eb ?_)
            refine wpS_bind (y_b hk3 ha (by lia) (by lia) (fun i j g1 g2 q => by simp only [bey, Bool.false_eq_true, if_false, Bool.not_eq_true', decide_eq_false_iff_not, Int.not_lt] at q ⊢; exact Int.le_trans (sa _ _ (by lia) (by lia)) q) fun k q1 q2 q3 => ?_)
            have up : ∀ j, i3 + k <= j -> j < a.size -> K b j3 < K a j := fun j g1 g2 => by
              have := q3 (j - i3) (by lia) (by lia)
              rw [show i3 + (j - i3) = j by lia] at this
              simpa [bey] using this
            have dn : ∀ i, i < k -> K a (i3 + i) <= K b j3 := fun i g1 => by
              have := q2 i g1
              simpa [bey] using this
            have kl : i3 + k < a.size := by
              rcases Nat.lt_or_ge (i3 + k) a.size with q | q
              · exact q
              · have e1 := dn (a.size - 1 - i3) (by lia)
                rw [show i3 + (a.size - 1 - i3) = a.size - 1 by lia] at e1
                have e2 := sb j3 (b.size - 1) (by lia) (by lia)
                lia
            dsimp only
            by_cases hq : k > 0
            · rw [if_pos hq]
              have M2 := M.appA sa (k := k) (by lia) fun i j g1 g2 g3 => Int.le_trans (dn i g1) (sb _ _ g2 g3)
              by_cases d1 : i3 + k + 1 = a.size
              · rw [if_pos (by simpa using d1)]
                exact wpS_pure ⟨G3, .inl ⟨_, _, rfl, M2.lastA sa sb d1 (Int.le_of_lt h2)⟩⟩
              · rw [if_neg (by simpa using d1), if_neg (by simp; lia)]
                obtain ⟨ta, pa, ea⟩ := y_v ha (i := i3 + k) (by lia)
                refine wpS_bind (z_l eb ?_)
                have M3 := M2.pushB sb eb fun j g1 g2 => Int.le_of_lt (up j (by lia) g2)
                try dsimp only
                by_cases d3 : j3 + 1 = b.size
                · rw [if_pos (by simpa using d3)]
                  exact wpS_pure ⟨G3, .inl ⟨_, _, rfl, M3.done sa d3⟩⟩
                · rw [if_neg (by simpa using d3)]
                  refine wpS_bind (z_l ea ?_)
                  refine wpS_bind (y_b hk3 hb (by lia) (by lia) (fun i j g1 g2 q => by simp only [bey, if_true, decide_eq_true_eq] at q ⊢; exact Int.lt_of_le_of_lt (sb _ _ (by lia) (by lia)) q) fun k2 r1 r2 r3 => ?_)
                  dsimp only
                  by_cases hq : k2 > 0
                  · rw [if_pos hq]
                    have M4 := M3.appB sb (k := k2) (by lia) fun i j g1 g2 g3 => by
                      have := r2 i g1
                      simp only [bey, if_true, decide_eq_true_eq] at this
                      exact Int.le_trans (Int.le_of_lt this) (sa _ _ g2 g3)
                    by_cases d4 : j3 + 1 + k2 = b.size
                    · rw [if_pos (by simpa using d4)]
                      exact wpS_pure ⟨G3, .inl ⟨_, _, rfl, M4.done sa d4⟩⟩
                    · rw [if_neg (by simpa using d4)]
                      refine wpS_bind (z_l ea ?_)
                      have M5 := M4.pushA sa ea fun j g1 g2 => by
                        have := r3 (j - (j3 + 1)) (by lia) (by lia)
                        rw [show j3 + 1 + (j - (j3 + 1)) = j by lia] at this
                        exact Int.not_lt.mp fun q => by simp [bey, q] at this
                      try dsimp only
                      by_cases d5 : i3 + k + 1 + 1 = a.size
                      · rw [if_pos (by simpa using d5)]
                        exact wpS_pure ⟨G3, .inl ⟨_, _, rfl, M5.lastA sa sb d5 (Int.le_of_lt h2)⟩⟩
                      · rw [if_neg (by simpa using d5)]
                        split
                        · exact wpS_pure ⟨G3, .inr ⟨_, _, _, _, _, _, rfl, M5, by lia, by lia, by lia⟩⟩
                        · exact wpS_pure ⟨G3, _, _, _, _, _, _, rfl, M5, by lia, by lia, by lia⟩
                  · rw [if_neg hq]
                    refine wpS_bind (z_l ea ?_)
                    have M5 := M3.pushA sa ea fun j g1 g2 => by
                      have := r3 (j - (j3 + 1)) (by lia) (by lia)
                      rw [show j3 + 1 + (j - (j3 + 1)) = j by lia] at this
                      exact Int.not_lt.mp fun q => by simp [bey, q] at this
                    try dsimp only
                    by_cases d5 : i3 + k + 1 + 1 = a.size
                    · rw [if_pos (by simpa using d5)]
                      exact wpS_pure ⟨G3, .inl ⟨_, _, rfl, M5.lastA sa sb d5 (Int.le_of_lt h2)⟩⟩
                    · rw [if_neg (by simpa using d5)]
                      split
                      · exact wpS_pure ⟨G3, .inr ⟨_, _, _, _, _, _, rfl, M5, by lia, by lia, by lia⟩⟩
                      · exact wpS_pure ⟨G3, _, _, _, _, _, _, rfl, M5, by lia, by lia, by lia⟩
            · rw [if_neg hq]
              obtain ⟨ta, pa, ea⟩ := y_v ha (i := i3) (by lia)
              refine wpS_bind (z_l eb ?_)
              have M3 := M.pushB sb eb fun j g1 g2 => Int.le_of_lt (up j (by lia) g2)
              try dsimp only
              by_cases d3 : j3 + 1 = b.size
              · rw [if_pos (by simpa using d3)]
                exact wpS_pure ⟨G3, .inl ⟨_, _, rfl, M3.done sa d3⟩⟩
              · rw [if_neg (by simpa using d3)]
                refine wpS_bind (z_l ea ?_)
                refine wpS_bind (y_b hk3 hb (by lia) (by lia) (fun i j g1 g2 q => by simp only [bey, if_true, decide_eq_true_eq] at q ⊢; exact Int.lt_of_le_of_lt (sb _ _ (by lia) (by lia)) q) fun k2 r1 r2 r3 => ?_)
                dsimp only
                by_cases hq : k2 > 0
                · rw [if_pos hq]
                  have M4 := M3.appB sb (k := k2) (by lia) fun i j g1 g2 g3 => by
                    have := r2 i g1
                    simp only [bey, if_true, decide_eq_true_eq] at this
                    exact Int.le_trans (Int.le_of_lt this) (sa _ _ g2 g3)
                  by_cases d4 : j3 + 1 + k2 = b.size
                  · rw [if_pos (by simpa using d4)]
                    exact wpS_pure ⟨G3, .inl ⟨_, _, rfl, M4.done sa d4⟩⟩
                  · rw [if_neg (by simpa using d4)]
                    refine wpS_bind (z_l ea ?_)
                    have M5 := M4.pushA sa ea fun j g1 g2 => by
                      have := r3 (j - (j3 + 1)) (by lia) (by lia)
                      rw [show j3 + 1 + (j - (j3 + 1)) = j by lia] at this
                      exact Int.not_lt.mp fun q => by simp [bey, q] at this
                    try dsimp only
                    by_cases d5 : i3 + 1 + 1 = a.size
                    · rw [if_pos (by simpa using d5)]
                      exact wpS_pure ⟨G3, .inl ⟨_, _, rfl, M5.lastA sa sb d5 (Int.le_of_lt h2)⟩⟩
                    · rw [if_neg (by simpa using d5)]
                      split
                      · exact wpS_pure ⟨G3, .inr ⟨_, _, _, _, _, _, rfl, M5, by lia, by lia, by lia⟩⟩
                      · exact wpS_pure ⟨G3, _, _, _, _, _, _, rfl, M5, by lia, by lia, by lia⟩
                · rw [if_neg hq]
                  refine wpS_bind (z_l ea ?_)
                  have M5 := M3.pushA sa ea fun j g1 g2 => by
                    have := r3 (j - (j3 + 1)) (by lia) (by lia)
                    rw [show j3 + 1 + (j - (j3 + 1)) = j by lia] at this
                    exact Int.not_lt.mp fun q => by simp [bey, q] at this
                  try dsimp only
                  by_cases d5 : i3 + 1 + 1 = a.size
                  · rw [if_pos (by simpa using d5)]
                    exact wpS_pure ⟨G3, .inl ⟨_, _, rfl, M5.lastA sa sb d5 (Int.le_of_lt h2)⟩⟩
                  · rw [if_neg (by simpa using d5)]
                    split
                    · exact wpS_pure ⟨G3, .inr ⟨_, _, _, _, _, _, rfl, M5, by lia, by lia, by lia⟩⟩
                    · exact wpS_pure ⟨G3, _, _, _, _, _, _, rfl, M5, by lia, by lia, by lia⟩
          · rw [if_neg hg]
            refine wpS_bind (wpS_modify ?_)
            refine wpS_bind (z_l eb ?_)
            refine wpS_bind (y_b hk3 ha (by lia) (by lia) (fun i j g1 g2 q => by simp only [bey, Bool.false_eq_true, if_false, Bool.not_eq_true', decide_eq_false_iff_not, Int.not_lt] at q ⊢; exact Int.le_trans (sa _ _ (by lia) (by lia)) q) fun k q1 q2 q3 => ?_)
            have up : ∀ j, i3 + k <= j -> j < a.size -> K b j3 < K a j := fun j g1 g2 => by
              have := q3 (j - i3) (by lia) (by lia)
              rw [show i3 + (j - i3) = j by lia] at this
              simpa [bey] using this
            have dn : ∀ i, i < k -> K a (i3 + i) <= K b j3 := fun i g1 => by
              have := q2 i g1
              simpa [bey] using this
            have kl : i3 + k < a.size := by
              rcases Nat.lt_or_ge (i3 + k) a.size with q | q
              · exact q
              · have e1 := dn (a.size - 1 - i3) (by lia)
                rw [show i3 + (a.size - 1 - i3) = a.size - 1 by lia] at e1
                have e2 := sb j3 (b.size - 1) (by lia) (by lia)
                lia
            dsimp only
            by_cases hq : k > 0
            · rw [if_pos hq]
              have M2 := M.appA sa (k := k) (by lia) fun i j g1 g2 g3 => Int.le_trans (dn i g1) (sb _ _ g2 g3)
              by_cases d1 : i3 + k + 1 = a.size
              · rw [if_pos (by simpa using d1)]
                exact wpS_pure ⟨G3, .inl ⟨_, _, rfl, M2.lastA sa sb d1 (Int.le_of_lt h2)⟩⟩
              · rw [if_neg (by simpa using d1), if_neg (by simp; lia)]
                obtain ⟨ta, pa, ea⟩ := y_v ha (i := i3 + k) (by lia)
                refine wpS_bind (z_l eb ?_)
                have M3 := M2.pushB sb eb fun j g1 g2 => Int.le_of_lt (up j (by lia) g2)
                try dsimp only
                by_cases d3 : j3 + 1 = b.size
                · rw [if_pos (by simpa using d3)]
                  exact wpS_pure ⟨G3, .inl ⟨_, _, rfl, M3.done sa d3⟩⟩
                · rw [if_neg (by simpa using d3)]
                  refine wpS_bind (z_l ea ?_)
                  refine wpS_bind (y_b hk3 hb (by lia) (by lia) (fun i j g1 g2 q => by simp only [bey, if_true, decide_eq_true_eq] at q ⊢; exact Int.lt_of_le_of_lt (sb _ _ (by lia) (by lia)) q) fun k2 r1 r2 r3 => ?_)
                  dsimp only
                  by_cases hq : k2 > 0
                  · rw [if_pos hq]
                    have M4 := M3.appB sb (k := k2) (by lia) fun i j g1 g2 g3 => by
                      have := r2 i g1
                      simp only [bey, if_true, decide_eq_true_eq] at this
                      exact Int.le_trans (Int.le_of_lt this) (sa _ _ g2 g3)
                    by_cases d4 : j3 + 1 + k2 = b.size
                    · rw [if_pos (by simpa using d4)]
                      exact wpS_pure ⟨G3, .inl ⟨_, _, rfl, M4.done sa d4⟩⟩
                    · rw [if_neg (by simpa using d4)]
                      refine wpS_bind (z_l ea ?_)
                      have M5 := M4.pushA sa ea fun j g1 g2 => by
                        have := r3 (j - (j3 + 1)) (by lia) (by lia)
                        rw [show j3 + 1 + (j - (j3 + 1)) = j by lia] at this
                        exact Int.not_lt.mp fun q => by simp [bey, q] at this
                      try dsimp only
                      by_cases d5 : i3 + k + 1 + 1 = a.size
                      · rw [if_pos (by simpa using d5)]
                        exact wpS_pure ⟨G3, .inl ⟨_, _, rfl, M5.lastA sa sb d5 (Int.le_of_lt h2)⟩⟩
                      · rw [if_neg (by simpa using d5)]
                        split
                        · exact wpS_pure ⟨G3, .inr ⟨_, _, _, _, _, _, rfl, M5, by lia, by lia, by lia⟩⟩
                        · exact wpS_pure ⟨G3, _, _, _, _, _, _, rfl, M5, by lia, by lia, by lia⟩
                  · rw [if_neg hq]
                    refine wpS_bind (z_l ea ?_)
                    have M5 := M3.pushA sa ea fun j g1 g2 => by
                      have := r3 (j - (j3 + 1)) (by lia) (by lia)
                      rw [show j3 + 1 + (j - (j3 + 1)) = j by lia] at this
                      exact Int.not_lt.mp fun q => by simp [bey, q] at this
                    try dsimp only
                    by_cases d5 : i3 + k + 1 + 1 = a.size
                    · rw [if_pos (by simpa using d5)]
                      exact wpS_pure ⟨G3, .inl ⟨_, _, rfl, M5.lastA sa sb d5 (Int.le_of_lt h2)⟩⟩
                    · rw [if_neg (by simpa using d5)]
                      split
                      · exact wpS_pure ⟨G3, .inr ⟨_, _, _, _, _, _, rfl, M5, by lia, by lia, by lia⟩⟩
                      · exact wpS_pure ⟨G3, _, _, _, _, _, _, rfl, M5, by lia, by lia, by lia⟩
            · rw [if_neg hq]
              obtain ⟨ta, pa, ea⟩ := y_v ha (i := i3) (by lia)
              refine wpS_bind (z_l eb ?_)
              have M3 := M.pushB sb eb fun j g1 g2 => Int.le_of_lt (up j (by lia) g2)
              try dsimp only
              by_cases d3 : j3 + 1 = b.size
              · rw [if_pos (by simpa using d3)]
                exact wpS_pure ⟨G3, .inl ⟨_, _, rfl, M3.done sa d3⟩⟩
              · rw [if_neg (by simpa using d3)]
                refine wpS_bind (z_l ea ?_)
                refine wpS_bind (y_b hk3 hb (by lia) (by lia) (fun i j g1 g2 q => by simp only [bey, if_true, decide_eq_true_eq] at q ⊢; exact Int.lt_of_le_of_lt (sb _ _ (by lia) (by lia)) q) fun k2 r1 r2 r3 => ?_)
                dsimp only
                by_cases hq : k2 > 0
                · rw [if_pos hq]
                  have M4 := M3.appB sb (k := k2) (by lia) fun i j g1 g2 g3 => by
                    have := r2 i g1
                    simp only [bey, if_true, decide_eq_true_eq] at this
                    exact Int.le_trans (Int.le_of_lt this) (sa _ _ g2 g3)
                  by_cases d4 : j3 + 1 + k2 = b.size
                  · rw [if_pos (by simpa using d4)]
                    exact wpS_pure ⟨G3, .inl ⟨_, _, rfl, M4.done sa d4⟩⟩
                  · rw [if_neg (by simpa using d4)]
                    refine wpS_bind (z_l ea ?_)
                    have M5 := M4.pushA sa ea fun j g1 g2 => by
                      have := r3 (j - (j3 + 1)) (by lia) (by lia)
                      rw [show j3 + 1 + (j - (j3 + 1)) = j by lia] at this
                      exact Int.not_lt.mp fun q => by simp [bey, q] at this
                    try dsimp only
                    by_cases d5 : i3 + 1 + 1 = a.size
                    · rw [if_pos (by simpa using d5)]
                      exact wpS_pure ⟨G3, .inl ⟨_, _, rfl, M5.lastA sa sb d5 (Int.le_of_lt h2)⟩⟩
                    · rw [if_neg (by simpa using d5)]
                      split
                      · exact wpS_pure ⟨G3, .inr ⟨_, _, _, _, _, _, rfl, M5, by lia, by lia, by lia⟩⟩
                      · exact wpS_pure ⟨G3, _, _, _, _, _, _, rfl, M5, by lia, by lia, by lia⟩
                · rw [if_neg hq]
                  refine wpS_bind (z_l ea ?_)
                  have M5 := M3.pushA sa ea fun j g1 g2 => by
                    have := r3 (j - (j3 + 1)) (by lia) (by lia)
                    rw [show j3 + 1 + (j - (j3 + 1)) = j by lia] at this
                    exact Int.not_lt.mp fun q => by simp [bey, q] at this
                  try dsimp only
                  by_cases d5 : i3 + 1 + 1 = a.size
                  · rw [if_pos (by simpa using d5)]
                    exact wpS_pure ⟨G3, .inl ⟨_, _, rfl, M5.lastA sa sb d5 (Int.le_of_lt h2)⟩⟩
                  · rw [if_neg (by simpa using d5)]
                    split
                    · exact wpS_pure ⟨G3, .inr ⟨_, _, _, _, _, _, rfl, M5, by lia, by lia, by lia⟩⟩
                    · exact wpS_pure ⟨G3, _, _, _, _, _, _, rfl, M5, by lia, by lia, by lia⟩
end L2
namespace L2
open PySem PyProof.Rows
structure Mh(a b out:Array Keyed)(na nb:Nat):Prop where
 la:na<=a.size
 lb:nb<=b.size
 sz:out.size=(a.size-na)+(b.size-nb)
 pm:out.toList.Perm (a.toList.drop na++b.toList.drop nb)
 so:Dsc out 0 out.size
 ba:∀ i j,i<out.size->j<na->K a j<=K out i
 bb:∀ i j,i<out.size->j<nb->K b j<=K out i
theorem drop_one{a:Array Keyed}{i:Nat}{x:Keyed}(h:a[i]? = some x):a.toList.drop i=x::a.toList.drop (i+1):=by
 obtain ⟨hi,e⟩:=Array.getElem?_eq_some_iff.mp h
 rw [List.drop_eq_getElem_cons (by simpa using hi),Array.getElem_toList,e]
variable {a b out:Array Keyed} {na nb:Nat}
theorem Mh.pushA(M:Mh a b out (na+1) nb)(sa:SortedTo a a.size){x:Keyed}(hx:a[na]? = some x)(hb:∀ j,j<nb->K b j<=K a na):Mh a b (out.push x) na nb:=by
 have hlt:na<a.size:=M.la
 have e:=K_of hx
 refine ⟨by lia,M.lb,by rw [Array.size_push,M.sz];lia,?_,?_,?_,?_⟩
 ·rw [Array.toList_push,drop_one hx]
  exact (M.pm.append_right _).trans (List.perm_append_comm)
 ·intro i j hij hj
  rw [Array.size_push] at hj
  rw [Nat.zero_add,Nat.zero_add,K_push,K_push]
  split<;>split
  ·exact Int.le_refl _
  ·rw [e];exact M.ba i na (by lia) (by lia)
  ·lia
  ·have:=M.so i j hij (by lia)
   rwa [Nat.zero_add,Nat.zero_add] at this
 ·intro i j hi hj
  rw [Array.size_push] at hi
  rw [K_push]
  split
  ·rw [e];exact sa _ _ (by lia) (by lia)
  ·exact M.ba i j (by lia) (by lia)
 ·intro i j hi hj
  rw [Array.size_push] at hi
  rw [K_push]
  split
  ·rw [e];exact hb j hj
  ·exact M.bb i j (by lia) hj
theorem Mh.swap(M:Mh a b out na nb):Mh b a out nb na :=
 ⟨M.lb,M.la,by rw [M.sz];lia,M.pm.trans List.perm_append_comm,M.so,M.bb,M.ba⟩
theorem Mh.pushB(M:Mh a b out na (nb+1))(sb:SortedTo b b.size){x:Keyed}(hx:b[nb]? = some x)(ha:∀ j,j<na->K a j<=K b nb):Mh a b (out.push x) na nb :=
 (M.swap.pushA sb hx ha).swap
theorem Mh.appA(sa:SortedTo a a.size){m:Nat}:∀ {k:Nat} {out:Array Keyed},Mh a b out (m+k) nb->(∀ i j,m<=i->i<m+k->j<nb->K b j<=K a i)->Mh a b (out++(a.extract m (m+k)).reverse) m nb
 | 0,out,M,_=>by
  have:a.extract m (m+0) = #[]:=by simp;lia
  rw [this,Array.reverse_empty,Array.append_empty];exact M
 | k+1,out,M,hb=>by
  have hl:m+k<a.size:=M.la
  have hx:a[m+k]? = some a[m+k]:=Array.getElem?_eq_getElem hl
  have I:=Mh.appA sa (Mh.pushA (na:=m+k) M sa hx fun j h1=>hb _ j (by lia) (by lia) h1) fun i j h1 h2=>hb i j h1 (by lia)
  have e:a.extract m (m+(k+1))=(a.extract m (m+k)).push a[m+k]:=by
   rw [show m+(k+1)=m+k+1 from rfl,Array.push_extract_getElem (by lia),Nat.min_eq_left (by lia)]
  have e2:out++((a.extract m (m+k)).push a[m+k]).reverse=out.push a[m+k]++(a.extract m (m+k)).reverse:=by
   generalize a.extract m (m+k)=xs
   apply Array.ext'
   simp
  rw [e,e2]
  exact I
theorem Mh.appB(sb:SortedTo b b.size){m k:Nat}(M:Mh a b out na (m+k))(ha:∀ i j,m<=i->i<m+k->j<na->K a j<=K b i):Mh a b (out++(b.extract m (m+k)).reverse) na m :=
 (Mh.appA sb M.swap ha).swap
theorem K_rev{xs:Array Keyed}{i:Nat}(h:i<xs.size):K xs.reverse i=K xs (xs.size-1-i):=by
 apply K_congr
 rw [Array.getElem?_eq_getElem (by simpa using h),Array.getElem_reverse,Array.getElem?_eq_getElem (by lia)]
theorem Mh.full(M:Mh a b out 0 0):Mrg a b out.reverse :=
 ⟨by rw [Array.toList_reverse];exact (List.reverse_perm _).trans (by have:=M.pm;rwa [List.drop_zero,List.drop_zero] at this),fun i j hij hj=>by
  rw [Array.size_reverse] at hj
  rw [K_rev (by lia),K_rev hj]
  have:=M.so (out.size-1-j) (out.size-1-i) (by lia) (by lia)
  rwa [Nat.zero_add,Nat.zero_add] at this⟩
theorem Mh.done(M:Mh a b out na nb)(sb:SortedTo b b.size)(hn:na=0):Mrg a b (a.extract 0 na++b.extract 0 nb++out.reverse):=by
 subst hn
 have M2:=Mh.appB (m:=0) (k:=nb) sb (by rw [Nat.zero_add];exact M) fun i j _ _ h=>by lia
 have e:a.extract 0 0++b.extract 0 nb++out.reverse=(out++(b.extract 0 (0+nb)).reverse).reverse:=by
  apply Array.ext';simp
 rw [e];exact M2.full
theorem Mh.firstB(M:Mh a b out na nb)(sa:SortedTo a a.size)(sb:SortedTo b b.size)(hn:nb=1)(hb:K b 0<=K a 0):Mrg a b (b.extract 0 nb++a.extract 0 na++out.reverse):=by
 subst hn
 have M2:=Mh.appA (m:=0) (k:=na) sa (by rw [Nat.zero_add];exact M) fun i j _ h1 h=>by
  rw [show j=0 by lia];exact Int.le_trans hb (sa _ _ (by lia) (by have:=M.la;lia))
 have M3:=Mh.appB (m:=0) (k:=1) sb M2 fun i j _ _ h=>by lia
 have e:b.extract 0 1++a.extract 0 na++out.reverse=(out++(a.extract 0 (0+na)).reverse++(b.extract 0 (0+1)).reverse).reverse:=by
  apply Array.ext';simp
 rw [e];exact M3.full
end L2
namespace L2
open PySem PyProof.Rows
def mergeHiP:Array Keyed->Array Keyed->StateT SortSt Sem (Array Keyed):=sortPriv% PySem.Builtin.mergeHi
variable {prog:Program} {w:World} {A:Around} {E:Value->Shared->Prop} {s:Shared} {z:Array Keyed}
theorem Mh.popA{a b out:Array Keyed}{na nb:Nat}(M:Mh a b out na nb)(hn:1<=na)(sa:SortedTo a a.size){x:Keyed}(hx:a[na-1]? = some x)(hb:∀ j,j<nb->K b j<=K a (na-1)):Mh a b (out.push x) (na-1) nb :=
 Mh.pushA (by rw [Nat.sub_add_cancel hn];exact M) sa hx hb
theorem Mh.popB{a b out:Array Keyed}{na nb:Nat}(M:Mh a b out na nb)(hn:1<=nb)(sb:SortedTo b b.size){x:Keyed}(hx:b[nb-1]? = some x)(ha:∀ j,j<na->K a j<=K b (nb-1)):Mh a b (out.push x) na (nb-1) :=
 Mh.pushB (by rw [Nat.sub_add_cancel hn];exact M) sb hx ha
theorem p_t{st : SortSt}{a b : Array Keyed}{Q : Array Keyed -> SortSt -> Prop}(hk : kindOf st = oneType')(ha : IntKeys a)(hb : IntKeys b)(sa : SortedTo a a.size)(sb : SortedTo b b.size)(n1 : 1 <= a.size)(n2 : 1 <= b.size)
   (h1 : K b 0 < K a 0) (h2 : K b (b.size - 1) < K a (a.size - 1)) (h : ∀ m y, Gal st y -> Mrg a b m -> Q m y) : wpS (model prog w) A E s (mergeHiP a b) Q st := by
  unfold mergeHiP
  refine wpS_bind (wpS_lift (wpAny_rule ⟨rfl, ?_⟩))
  obtain ⟨t0, p0, e0⟩ := y_v ha (i := a.size - 1) (by lia)
  refine wpS_bind (z_l e0 ?_)
  have M0 : Mh a b #[(.int (K a (a.size - 1)) t0, p0)] (a.size - 1) b.size := by
    have M : Mh a b #[] a.size b.size := ⟨Nat.le_refl _, Nat.le_refl _, by simp, by simp [List.drop_eq_nil_of_le], fun i j _ hj => by simp at hj, fun i j hi => by simp at hi, fun i j hi => by simp at hi⟩
    exact M.popA n1 sa e0 fun j hj => Int.le_trans (sb j (b.size - 1) (by lia) (by lia)) (Int.le_of_lt h2)
  show wpS (model prog w) A E s (if (a.size - 1 == 0) = true then _ else if (b.size == 1) = true then _ else _) Q st
  by_cases c1 : a.size - 1 = 0
  · rw [if_pos (by simpa using c1)]
    exact wpS_pure (h _ _ ⟨rfl, rfl, rfl, rfl⟩ (M0.done sb c1))
  rw [if_neg (by simpa using c1)]
  by_cases c2 : b.size = 1
  · rw [if_pos (by simpa using c2)]
    exact wpS_pure (h _ _ ⟨rfl, rfl, rfl, rfl⟩ (M0.firstB sa sb c2 (Int.le_of_lt h1)))
  rw [if_neg (by simpa using c2)]
  refine wpS_bind (wpS_get ?_)
  refine wpS_bind (wpS_mono (Q := fun c y => ∃ m u, c = (some m, u) /\ Gal st y /\ Mrg a b m) (wpS_forRange (I := fun x c y => ∃ na nb out g, c = (none, na, nb, out, g) /\ Gal st y /\ Mh a b out na nb /\ 1 <= na /\ 2 <= nb /\ x + na + nb < a.size + b.size) ?s1 ?f1 ⟨_, _, _, _, rfl, ⟨rfl, rfl, rfl, rfl⟩, M0, by lia, by lia, by lia⟩) ?p1)
  case f1 =>
    rintro c y ⟨na, nb, out, g, rfl, G, M, l1, l2, l3⟩
    lia
  case p1 =>
    rintro c y ⟨m, u, rfl, G, M⟩
    exact wpS_pure (h m y G M)
  case s1 =>
    rintro x c y _ hx ⟨na, nb, out, g, rfl, G, M, l1, l2, l3⟩
    have hky : kindOf y = oneType' := G.2.1.trans hk
    refine wpS_bind (wpS_mono (Q := fun c u => u = y /\ ((∃ m v, c = (some m, v) /\ Mrg a b m) \/ ∃ i2 j2 out ac bc, c = (none, i2, j2, out, ac, bc) /\ Mh a b out i2 j2 /\ 1 <= i2 /\ 2 <= j2 /\ i2 + j2 < na + nb))
      (wpS_forRange (I := fun x c u => u = y /\ ∃ i2 j2 out ac bc, c = (none, i2, j2, out, ac, bc) /\ Mh a b out i2 j2 /\ 1 <= i2 /\ 2 <= j2 /\ i2 + j2 + x = na + nb) ?s2 ?f2 ⟨rfl, _, _, _, _, _, rfl, M, l1, l2, rfl⟩) ?p2)
    case f2 =>
      rintro c u ⟨rfl, i2, j2, out, ac, bc, rfl, M, l1, l2, l3⟩
      lia
    case s2 =>
      rintro x c u _ hx ⟨rfl, i2, j2, out, ac, bc, rfl, M, l1, l2, l3⟩
      have la := M.la
      have lb := M.lb
      obtain ⟨tb, pb, eb⟩ := y_v hb (i := j2 - 1) (by lia)
      obtain ⟨ta, pa, ea⟩ := y_v ha (i := i2 - 1) (by lia)
      dsimp only
      refine wpS_bind (z_l eb (wpS_bind (z_l ea (wpS_bind (r_f hky ?_)))))
      by_cases hl : K b (j2 - 1) < K a (i2 - 1)
      · simp only [hl, decide_true, if_true]
        have M2 := M.popA l1 sa ea fun j g1 => Int.le_trans (sb j (j2 - 1) (by lia) (by lia)) (Int.le_of_lt hl)
        refine wpS_bind (z_l ea ?_)
        by_cases d1 : i2 - 1 = 0
        · rw [if_pos (by simpa using d1)]
          exact wpS_pure ⟨rfl, .inl ⟨_, _, rfl, M2.done sb d1⟩⟩
        · rw [if_neg (by simpa using d1)]
          by_cases d2 : ac + 1 ≥ g
          · rw [if_pos d2]
            exact wpS_pure ⟨rfl, .inr ⟨_, _, _, _, _, rfl, M2, by lia, by lia, by lia⟩⟩
          · rw [if_neg d2]
            exact wpS_pure ⟨rfl, _, _, _, _, _, rfl, M2, by lia, by lia, by lia⟩
      · simp only [hl, decide_false, Bool.false_eq_true, if_false]
        have M2 := M.popB (by lia) sb eb fun j g1 => Int.le_trans (sa j (i2 - 1) (by lia) (by lia)) (Int.not_lt.mp hl)
        refine wpS_bind (z_l eb ?_)
        by_cases d1 : j2 - 1 = 1
        · rw [if_pos (by simpa using d1)]
          exact wpS_pure ⟨rfl, .inl ⟨_, _, rfl, M2.firstB sa sb d1 (Int.le_of_lt h1)⟩⟩
        · rw [if_neg (by simpa using d1)]
          by_cases d2 : bc + 1 ≥ g
          · rw [if_pos d2]
            exact wpS_pure ⟨rfl, .inr ⟨_, _, _, _, _, rfl, M2, by lia, by lia, by lia⟩⟩
          · rw [if_neg d2]
            exact wpS_pure ⟨rfl, _, _, _, _, _, rfl, M2, by lia, by lia, by lia⟩
    case p2 =>
      rintro c u ⟨rfl, ⟨m, v, rfl, M⟩ | ⟨i2, j2, out, ac, bc, rfl, M, l1, l2, l4⟩⟩
      · exact wpS_pure ⟨m, _, rfl, G, M⟩
      · refine wpS_bind (wpS_lift (wpAny_rule ⟨rfl, ?_⟩))
        refine wpS_bind (wpS_mono (Q := fun c y => Gal st y /\ ((∃ m v, c = (some m, v) /\ Mrg a b m) \/ ∃ i3 j3 out g ac bc, c = (none, i3, j3, out, g, ac, bc) /\ Mh a b out i3 j3 /\ 1 <= i3 /\ 2 <= j3 /\ i3 + j3 <= i2 + j2))
          (wpS_forRange (I := fun x c y => Gal st y /\ ∃ i3 j3 out g ac bc, c = (none, i3, j3, out, g, ac, bc) /\ Mh a b out i3 j3 /\ 1 <= i3 /\ 2 <= j3 /\ i3 + j3 + x <= i2 + j2) ?s3 ?f3 ⟨G, _, _, _, _, _, _, rfl, M, l1, l2, Nat.le_refl _⟩) ?p3)
        case f3 =>
          rintro c y ⟨G, i3, j3, out, g, ac, bc, rfl, M, l1, l2, l3⟩
          lia
        case p3 =>
          rintro c y ⟨G, ⟨m, v, rfl, M⟩ | ⟨i3, j3, out, g, ac, bc, rfl, M, l1, l2, l5⟩⟩
          · exact wpS_pure ⟨m, _, rfl, G, M⟩
          · exact wpS_bind (wpS_modify (wpS_pure ⟨_, _, _, _, rfl, G, M, l1, l2, by show x + 1 + i3 + j3 < _; lia⟩))
        case s3 =>
          rintro x c y _ hx ⟨G3, i3, j3, out, g, ac, bc, rfl, M, l1, l2, l3⟩
          have la := M.la
          have lb := M.lb
          have hk3 : kindOf y = oneType' := G3.2.1.trans hk
          obtain ⟨tb, pb, eb⟩ := y_v hb (i := j3 - 1) (by lia)
          dsimp only
          by_cases hg : g > 1
          · rw [if_pos hg]
            refine wpS_bind (wpS_modify ?_)
            refine wpS_bind (z_l eb ?_)
            refine wpS_bind (y_b hk3 ha (by lia) (by lia) (fun i j g1 g2 q => by simp only [bey, Bool.false_eq_true, if_false, Bool.not_eq_true', decide_eq_false_iff_not, Int.not_lt, Nat.zero_add] at q ⊢; exact Int.le_trans (sa _ _ (by lia) (by lia)) q) fun k q1 q2 q3 => ?_)
            simp only [Nat.zero_add] at q2 q3
            have up : ∀ j, k <= j -> j < i3 -> K b (j3 - 1) < K a j := fun j g1 g2 => by
              have := q3 j g1 g2
              simpa [bey] using this
            have dn : ∀ i, i < k -> K a i <= K b (j3 - 1) := fun i g1 => by
              have := q2 i g1
              simpa [bey] using this
            dsimp only
            by_cases hq : i3 - k > 0
            · rw [if_pos hq]
              have M2 := Mh.appA (m := k) (k := i3 - k) sa (by rw [show k + (i3 - k) = i3 by lia]; exact M) fun i j g1 g2 g3 => Int.le_trans (sb j (j3 - 1) (by lia) (by lia)) (Int.le_of_lt (up i g1 (by lia)))
              rw [show k + (i3 - k) = i3 by lia] at M2
              by_cases d1 : k = 0
              · rw [if_pos (by simpa using d1)]
                exact wpS_pure ⟨G3, .inl ⟨_, _, rfl, M2.done sb d1⟩⟩
              · rw [if_neg (by simpa using d1)]
                obtain ⟨ta, pa, ea⟩ := y_v ha (i := k - 1) (by lia)
                refine wpS_bind (z_l eb ?_)
                have M3 := M2.popB (by lia) sb eb fun j g1 => dn j (by lia)
                try dsimp only
                by_cases d3 : j3 - 1 = 1
                · rw [if_pos (by simpa using d3)]
                  exact wpS_pure ⟨G3, .inl ⟨_, _, rfl, M3.firstB sa sb d3 (Int.le_of_lt h1)⟩⟩
                · rw [if_neg (by simpa using d3)]
                  refine wpS_bind (z_l ea ?_)
                  refine wpS_bind (y_b hk3 hb (by lia) (by lia) (fun i j g1 g2 q => by simp only [bey, if_true, decide_eq_true_eq, Nat.zero_add] at q ⊢; exact Int.lt_of_le_of_lt (sb _ _ (by lia) (by lia)) q) fun k2 r1 r2 r3 => ?_)
                  simp only [Nat.zero_add] at r2 r3
                  have kz : 1 <= k2 := by
                    rcases Nat.lt_or_ge 0 k2 with q | q
                    · exact q
                    · have e1 := r3 0 (by lia) (by lia)
                      simp only [bey, if_true, decide_eq_false_iff_not, Int.not_lt] at e1
                      have e2 := sa 0 (k - 1) (by lia) (by lia)
                      lia
                  dsimp only
                  by_cases hq : j3 - 1 - k2 > 0
                  · rw [if_pos hq]
                    have M4 := Mh.appB (m := k2) (k := j3 - 1 - k2) sb (by rw [show k2 + (j3 - 1 - k2) = j3 - 1 by lia]; exact M3) fun i j g1 g2 g3 => by
                      have := r3 i g1 (by lia)
                      simp only [bey, if_true, decide_eq_false_iff_not, Int.not_lt] at this
                      exact Int.le_trans (sa j (k - 1) (by lia) (by lia)) this
                    rw [show k2 + (j3 - 1 - k2) = j3 - 1 by lia] at M4
                    by_cases d4 : k2 = 1
                    · rw [if_pos (by simpa using d4)]
                      exact wpS_pure ⟨G3, .inl ⟨_, _, rfl, M4.firstB sa sb d4 (Int.le_of_lt h1)⟩⟩
                    · rw [if_neg (by simpa using d4), if_neg (by simp; lia)]
                      refine wpS_bind (z_l ea ?_)
                      have M5 := M4.popA (by lia) sa ea fun j g1 => by
                        have := r2 j (by lia)
                        simp only [bey, if_true, decide_eq_true_eq] at this
                        exact Int.le_of_lt this
                      try dsimp only
                      by_cases d5 : k - 1 = 0
                      · rw [if_pos (by simpa using d5)]
                        exact wpS_pure ⟨G3, .inl ⟨_, _, rfl, M5.done sb d5⟩⟩
                      · rw [if_neg (by simpa using d5)]
                        split
                        · exact wpS_pure ⟨G3, .inr ⟨_, _, _, _, _, _, rfl, M5, by lia, by lia, by lia⟩⟩
                        · exact wpS_pure ⟨G3, _, _, _, _, _, _, rfl, M5, by lia, by lia, by lia⟩
                  · rw [if_neg hq]
                    have hq2 : k2 = j3 - 1 := by lia
                    subst hq2
                    refine wpS_bind (z_l ea ?_)
                    have M5 := M3.popA (by lia) sa ea fun j g1 => by
                      have := r2 j (by lia)
                      simp only [bey, if_true, decide_eq_true_eq] at this
                      exact Int.le_of_lt this
                    try dsimp only
                    by_cases d5 : k - 1 = 0
                    · rw [if_pos (by simpa using d5)]
                      exact wpS_pure ⟨G3, .inl ⟨_, _, rfl, M5.done sb d5⟩⟩
                    · rw [if_neg (by simpa using d5)]
                      split
                      · exact wpS_pure ⟨G3, .inr ⟨_, _, _, _, _, _, rfl, M5, by lia, by lia, by lia⟩⟩
                      · exact wpS_pure ⟨G3, _, _, _, _, _, _, rfl, M5, by lia, by lia, by lia⟩
            · rw [if_neg hq]
              have hk4 : k = i3 := by lia
              subst hk4
              obtain ⟨ta, pa, ea⟩ := y_v ha (i := k - 1) (by lia)
              refine wpS_bind (z_l eb ?_)
              have M3 := M.popB (by lia) sb eb fun j g1 => dn j (by lia)
              try dsimp only
              by_cases d3 : j3 - 1 = 1
              · rw [if_pos (by simpa using d3)]
                exact wpS_pure ⟨G3, .inl ⟨_, _, rfl, M3.firstB sa sb d3 (Int.le_of_lt h1)⟩⟩
              · rw [if_neg (by simpa using d3)]
                refine wpS_bind (z_l ea ?_)
                refine wpS_bind (y_b hk3 hb (by lia) (by lia) (fun i j g1 g2 q => by simp only [bey, if_true, decide_eq_true_eq, Nat.zero_add] at q ⊢; exact Int.lt_of_le_of_lt (sb _ _ (by lia) (by lia)) q) fun k2 r1 r2 r3 => ?_)
                simp only [Nat.zero_add] at r2 r3
                have kz : 1 <= k2 := by
                  rcases Nat.lt_or_ge 0 k2 with q | q
                  · exact q
                  · have e1 := r3 0 (by lia) (by lia)
                    simp only [bey, if_true, decide_eq_false_iff_not, Int.not_lt] at e1
                    have e2 := sa 0 (k - 1) (by lia) (by lia)
                    lia
                dsimp only
                by_cases hq : j3 - 1 - k2 > 0
                · rw [if_pos hq]
                  have M4 := Mh.appB (m := k2) (k := j3 - 1 - k2) sb (by rw [show k2 + (j3 - 1 - k2) = j3 - 1 by lia]; exact M3) fun i j g1 g2 g3 => by
                    have := r3 i g1 (by lia)
                    simp only [bey, if_true, decide_eq_false_iff_not, Int.not_lt] at this
                    exact Int.le_trans (sa j (k - 1) (by lia) (by lia)) this
                  rw [show k2 + (j3 - 1 - k2) = j3 - 1 by lia] at M4
                  by_cases d4 : k2 = 1
                  · rw [if_pos (by simpa using d4)]
                    exact wpS_pure ⟨G3, .inl ⟨_, _, rfl, M4.firstB sa sb d4 (Int.le_of_lt h1)⟩⟩
                  · rw [if_neg (by simpa using d4), if_neg (by simp; lia)]
                    refine wpS_bind (z_l ea ?_)
                    have M5 := M4.popA (by lia) sa ea fun j g1 => by
                      have := r2 j (by lia)
                      simp only [bey, if_true, decide_eq_true_eq] at this
                      exact Int.le_of_lt this
                    try dsimp only
                    by_cases d5 : k - 1 = 0
                    · rw [if_pos (by simpa using d5)]
                      exact wpS_pure ⟨G3, .inl ⟨_, _, rfl, M5.done sb d5⟩⟩
                    · rw [if_neg (by simpa using d5)]
                      split
                      · exact wpS_pure ⟨G3, .inr ⟨_, _, _, _, _, _, rfl, M5, by lia, by lia, by lia⟩⟩
                      · exact wpS_pure ⟨G3, _, _, _, _, _, _, rfl, M5, by lia, by lia, by lia⟩
                · rw [if_neg hq]
                  have hq2 : k2 = j3 - 1 := by lia
                  subst hq2
                  refine wpS_bind (z_l ea ?_)
                  have M5 := M3.popA (by lia) sa ea fun j g1 => by
                    have := r2 j (by lia)
                    simp only [bey, if_true, decide_eq_true_eq] at this
                    exact Int.le_of_lt this
                  try dsimp only
                  by_cases d5 : k - 1 = 0
                  · rw [if_pos (by simpa using d5)]
                    exact wpS_pure ⟨G3, .inl ⟨_, _, rfl, M5.done sb d5⟩⟩
                  · rw [if_neg (by simpa using d5)]
                    split
                    · exact wpS_pure ⟨G3, .inr ⟨_, _, _, _, _, _, rfl, M5, by lia, by lia, by lia⟩⟩
                    · exact wpS_pure ⟨G3, _, _, _, _, _, _, rfl, M5, by lia, by lia, by lia⟩
          · rw [if_neg hg]
            refine wpS_bind (wpS_modify ?_)
            refine wpS_bind (z_l eb ?_)
            refine wpS_bind (y_b hk3 ha (by lia) (by lia) (fun i j g1 g2 q => by simp only [bey, Bool.false_eq_true, if_false, Bool.not_eq_true', decide_eq_false_iff_not, Int.not_lt, Nat.zero_add] at q ⊢; exact Int.le_trans (sa _ _ (by lia) (by lia)) q) fun k q1 q2 q3 => ?_)
            simp only [Nat.zero_add] at q2 q3
            have up : ∀ j, k <= j -> j < i3 -> K b (j3 - 1) < K a j := fun j g1 g2 => by
              have := q3 j g1 g2
              simpa [bey] using this
            have dn : ∀ i, i < k -> K a i <= K b (j3 - 1) := fun i g1 => by
              have := q2 i g1
              simpa [bey] using this
            dsimp only
            by_cases hq : i3 - k > 0
            · rw [if_pos hq]
              have M2 := Mh.appA (m := k) (k := i3 - k) sa (by rw [show k + (i3 - k) = i3 by lia]; exact M) fun i j g1 g2 g3 => Int.le_trans (sb j (j3 - 1) (by lia) (by lia)) (Int.le_of_lt (up i g1 (by lia)))
              rw [show k + (i3 - k) = i3 by lia] at M2
              by_cases d1 : k = 0
              · rw [if_pos (by simpa using d1)]
                exact wpS_pure ⟨G3, .inl ⟨_, _, rfl, M2.done sb d1⟩⟩
              · rw [if_neg (by simpa using d1)]
                obtain ⟨ta, pa, ea⟩ := y_v ha (i := k - 1) (by lia)
                refine wpS_bind (z_l eb ?_)
                have M3 := M2.popB (by lia) sb eb fun j g1 => dn j (by lia)
                try dsimp only
                by_cases d3 : j3 - 1 = 1
                · rw [if_pos (by simpa using d3)]
                  exact wpS_pure ⟨G3, .inl ⟨_, _, rfl, M3.firstB sa sb d3 (Int.le_of_lt h1)⟩⟩
                · rw [if_neg (by simpa using d3)]
                  refine wpS_bind (z_l ea ?_)
                  refine wpS_bind (y_b hk3 hb (by lia) (by lia) (fun i j g1 g2 q => by simp only [bey, if_true, decide_eq_true_eq, Nat.zero_add] at q ⊢; exact Int.lt_of_le_of_lt (sb _ _ (by lia) (by lia)) q) fun k2 r1 r2 r3 => ?_)
                  simp only [Nat.zero_add] at r2 r3
                  have kz : 1 <= k2 := by
                    rcases Nat.lt_or_ge 0 k2 with q | q
                    · exact q
                    · have e1 := r3 0 (by lia) (by lia)
                      simp only [bey, if_true, decide_eq_false_iff_not, Int.not_lt] at e1
                      have e2 := sa 0 (k - 1) (by lia) (by lia)
                      lia
                  dsimp only
                  by_cases hq : j3 - 1 - k2 > 0
                  · rw [if_pos hq]
                    have M4 := Mh.appB (m := k2) (k := j3 - 1 - k2) sb (by rw [show k2 + (j3 - 1 - k2) = j3 - 1 by lia]; exact M3) fun i j g1 g2 g3 => by
                      have := r3 i g1 (by lia)
                      simp only [bey, if_true, decide_eq_false_iff_not, Int.not_lt] at this
                      exact Int.le_trans (sa j (k - 1) (by lia) (by lia)) this
                    rw [show k2 + (j3 - 1 - k2) = j3 - 1 by lia] at M4
                    by_cases d4 : k2 = 1
                    · rw [if_pos (by simpa using d4)]
                      exact wpS_pure ⟨G3, .inl ⟨_, _, rfl, M4.firstB sa sb d4 (Int.le_of_lt h1)⟩⟩
                    · rw [if_neg (by simpa using d4), if_neg (by simp; lia)]
                      refine wpS_bind (z_l ea ?_)
                      have M5 := M4.popA (by lia) sa ea fun j g1 => by
                        have := r2 j (by lia)
                        simp only [bey, if_true, decide_eq_true_eq] at this
                        exact Int.le_of_lt this
                      try dsimp only
                      by_cases d5 : k - 1 = 0
                      · rw [if_pos (by simpa using d5)]
                        exact wpS_pure ⟨G3, .inl ⟨_, _, rfl, M5.done sb d5⟩⟩
                      · rw [if_neg (by simpa using d5)]
                        split
                        · exact wpS_pure ⟨G3, .inr ⟨_, _, _, _, _, _, rfl, M5, by lia, by lia, by lia⟩⟩
                        · exact wpS_pure ⟨G3, _, _, _, _, _, _, rfl, M5, by lia, by lia, by lia⟩
                  · rw [if_neg hq]
                    have hq2 : k2 = j3 - 1 := by lia
                    subst hq2
                    refine wpS_bind (z_l ea ?_)
                    have M5 := M3.popA (by lia) sa ea fun j g1 => by
                      have := r2 j (by lia)
                      simp only [bey, if_true, decide_eq_true_eq] at this
                      exact Int.le_of_lt this
                    try dsimp only
                    by_cases d5 : k - 1 = 0
                    · rw [if_pos (by simpa using d5)]
                      exact wpS_pure ⟨G3, .inl ⟨_, _, rfl, M5.done sb d5⟩⟩
                    · rw [if_neg (by simpa using d5)]
                      split
                      · exact wpS_pure ⟨G3, .inr ⟨_, _, _, _, _, _, rfl, M5, by lia, by lia, by lia⟩⟩
                      · exact wpS_pure ⟨G3, _, _, _, _, _, _, rfl, M5, by lia, by lia, by lia⟩
            · rw [if_neg hq]
              have hk4 : k = i3 := by lia
              subst hk4
              obtain ⟨ta, pa, ea⟩ := y_v ha (i := k - 1) (by lia)
              refine wpS_bind (z_l eb ?_)
              have M3 := M.popB (by lia) sb eb fun j g1 => dn j (by lia)
              try dsimp only
              by_cases d3 : j3 - 1 = 1
              · rw [if_pos (by simpa using d3)]
                exact wpS_pure ⟨G3, .inl ⟨_, _, rfl, M3.firstB sa sb d3 (Int.le_of_lt h1)⟩⟩
              · rw [if_neg (by simpa using d3)]
                refine wpS_bind (z_l ea ?_)
                refine wpS_bind (y_b hk3 hb (by lia) (by lia) (fun i j g1 g2 q => by simp only [bey, if_true, decide_eq_true_eq, Nat.zero_add] at q ⊢; exact Int.lt_of_le_of_lt (sb _ _ (by lia) (by lia)) q) fun k2 r1 r2 r3 => ?_)
                simp only [Nat.zero_add] at r2 r3
                have kz : 1 <= k2 := by
                  rcases Nat.lt_or_ge 0 k2 with q | q
                  · exact q
                  · have e1 := r3 0 (by lia) (by lia)
                    simp only [bey, if_true, decide_eq_false_iff_not, Int.not_lt] at e1
                    have e2 := sa 0 (k - 1) (by lia) (by lia)
                    lia
                dsimp only
                by_cases hq : j3 - 1 - k2 > 0
                · rw [if_pos hq]
                  have M4 := Mh.appB (m := k2) (k := j3 - 1 - k2) sb (by rw [show k2 + (j3 - 1 - k2) = j3 - 1 by lia]; exact M3) fun i j g1 g2 g3 => by
                    have := r3 i g1 (by lia)
                    simp only [bey, if_true, decide_eq_false_iff_not, Int.not_lt] at this
                    exact Int.le_trans (sa j (k - 1) (by lia) (by lia)) this
                  rw [show k2 + (j3 - 1 - k2) = j3 - 1 by lia] at M4
                  by_cases d4 : k2 = 1
                  · rw [if_pos (by simpa using d4)]
                    exact wpS_pure ⟨G3, .inl ⟨_, _, rfl, M4.firstB sa sb d4 (Int.le_of_lt h1)⟩⟩
                  · rw [if_neg (by simpa using d4), if_neg (by simp; lia)]
                    refine wpS_bind (z_l ea ?_)
                    have M5 := M4.popA (by lia) sa ea fun j g1 => by
                      have := r2 j (by lia)
                      simp only [bey, if_true, decide_eq_true_eq] at this
                      exact Int.le_of_lt this
                    try dsimp only
                    by_cases d5 : k - 1 = 0
                    · rw [if_pos (by simpa using d5)]
                      exact wpS_pure ⟨G3, .inl ⟨_, _, rfl, M5.done sb d5⟩⟩
                    · rw [if_neg (by simpa using d5)]
                      split
                      · exact wpS_pure ⟨G3, .inr ⟨_, _, _, _, _, _, rfl, M5, by lia, by lia, by lia⟩⟩
                      · exact wpS_pure ⟨G3, _, _, _, _, _, _, rfl, M5, by lia, by lia, by lia⟩
                · rw [if_neg hq]
                  have hq2 : k2 = j3 - 1 := by lia
                  subst hq2
                  refine wpS_bind (z_l ea ?_)
                  have M5 := M3.popA (by lia) sa ea fun j g1 => by
                    have := r2 j (by lia)
                    simp only [bey, if_true, decide_eq_true_eq] at this
                    exact Int.le_of_lt this
                  try dsimp only
                  by_cases d5 : k - 1 = 0
                  · rw [if_pos (by simpa using d5)]
                    exact wpS_pure ⟨G3, .inl ⟨_, _, rfl, M5.done sb d5⟩⟩
                  · rw [if_neg (by simpa using d5)]
                    split
                    · exact wpS_pure ⟨G3, .inr ⟨_, _, _, _, _, _, rfl, M5, by lia, by lia, by lia⟩⟩
                    · exact wpS_pure ⟨G3, _, _, _, _, _, _, rfl, M5, by lia, by lia, by lia⟩
end L2
namespace L2
open PySem PyProof.Rows
def wrt(lo:Nat)(ms:List Keyed)(xs:Array Keyed):Array Keyed:=(ms.zipIdx).foldl (fun a (p:Keyed×Nat)=>a.setIfInBounds (lo+p.2) p.1) xs
theorem wrt_go(lo:Nat):∀ (ms:List Keyed) (n:Nat) (xs:Array Keyed),lo+n+ms.length<=xs.size ->
  ((ms.zipIdx n).foldl (fun a (p:Keyed×Nat)=>a.setIfInBounds (lo+p.2) p.1) xs).toList=xs.toList.take (lo+n)++ms++xs.toList.drop (lo+n+ms.length)
 | [],n,xs,_=>by simp
 | m::ms,n,xs,h=>by
  rw [List.length_cons] at h
  rw [List.zipIdx_cons,List.foldl_cons,wrt_go lo ms (n+1) _ (by simp;lia)]
  have hl:lo+n<xs.toList.length:=by simp;lia
  rw [Array.toList_setIfInBounds,List.length_cons]
  rw [show lo+(n+1)=lo+n+1 by lia,List.take_add_one,List.getElem?_set_self hl]
  rw [List.take_set_of_le (Nat.le_refl _),List.drop_set_of_lt (by lia)]
  simp
  rw [show lo+n+1+ms.length=lo+n+(ms.length+1) by lia]
theorem s_g{lo:Nat}{ms:List Keyed}{xs:Array Keyed}(h:lo+ms.length<=xs.size):(wrt lo ms xs).toList=xs.toList.take lo++ms++xs.toList.drop (lo+ms.length):=by
 have:=wrt_go lo ms 0 xs (by lia)
 rwa [Nat.add_zero] at this
theorem wrt_perm{lo:Nat}{ms:List Keyed}{xs:Array Keyed}(h:lo+ms.length<=xs.size)(hp:ms.Perm ((xs.toList.drop lo).take ms.length)):(wrt lo ms xs).Perm xs:=by
 rw [Array.perm_iff_toList_perm,s_g h,List.append_assoc]
 conv=>rhs;rw [<-List.take_append_drop lo xs.toList,<-List.take_append_drop ms.length (xs.toList.drop lo)]
 rw [List.drop_drop]
 exact (hp.append_right _).append_left _
theorem K_wrt{lo:Nat}{m:Array Keyed}{xs:Array Keyed}(h:lo+m.size<=xs.size)(i:Nat) :
  K (wrt lo m.toList xs) i=if lo<=i/\i<lo+m.size then K m (i-lo) else K xs i:=by
 have e:(wrt lo m.toList xs)[i]? = if lo<=i/\i<lo+m.size then m[i-lo]? else xs[i]? := by
  have hl:lo+m.toList.length<=xs.size:=by simpa using h
  rw [<-Array.getElem?_toList,s_g hl,List.append_assoc]
  have ht:(xs.toList.take lo).length=lo:=by simp;lia
  by_cases h1:i<lo
  ·rw [List.getElem?_append_left (by lia),if_neg (by lia),List.getElem?_take_of_lt h1,Array.getElem?_toList]
  ·rw [List.getElem?_append_right (by lia),ht]
   by_cases h2:i<lo+m.size
   ·rw [List.getElem?_append_left (by simp;lia),if_pos (by lia),Array.getElem?_toList]
   ·rw [List.getElem?_append_right (by simp;lia),if_neg (by lia),List.getElem?_drop,Array.getElem?_toList]
    congr 1
    simp
    lia
 by_cases h1:lo<=i/\i<lo+m.size
 ·rw [if_pos h1] at e ⊢;exact K_congr e
 ·rw [if_neg h1] at e ⊢;exact K_congr e
end L2
namespace L2
open PySem PyProof.Rows
theorem l_y{X:Array Keyed}{u v:Nat}{p:Keyed}(h:p∈(X.extract u v).toList):∃ i,u<=i/\i<v/\i<X.size/\numOf p.1=K X i:=by
 obtain ⟨t,ht,e⟩:=List.mem_iff_getElem.mp h
 have ht':t<(X.extract u v).size:=by rw [<-Array.length_toList];exact ht
 rw [Array.getElem_toList,Array.getElem_extract] at e
 rw [Array.size_extract] at ht'
 exact ⟨u+t,by lia,by lia,by lia,K_of (by rw [<-e];exact Array.getElem?_eq_getElem _)⟩
theorem K_ext{X:Array Keyed}{u v i:Nat}(h:i<v-u)(hv:v<=X.size):K (X.extract u v) i=K X (u+i):=by
 apply K_congr
 rw [Array.getElem?_eq_getElem (by rw [Array.size_extract];lia),Array.getElem_extract,Array.getElem?_eq_getElem (by lia)]
theorem u_b{X:Array Keyed}{u v:Nat}(h:IntKeys X):IntKeys (X.extract u v):=fun p hp=>by
 obtain ⟨t,ht,e⟩:=List.mem_iff_getElem.mp hp
 rw [Array.getElem_toList,Array.getElem_extract] at e
 exact h p (by rw [<-e];simp)
theorem Mrg.size{a b m:Array Keyed}(M:Mrg a b m):m.size=a.size+b.size:=by
 have:=M.1.length_eq
 simpa using this
theorem q_l{X mm:Array Keyed}{sa na nb k m:Nat}(hz:sa+na+nb<=X.size)(hk:k<na)(h1:1<=m)(hm:m<=nb)(S1:Seg X sa na)(S2:Seg X (sa+na) nb)
  (dn:∀ i,i<k->K X (sa+i)<=K X (sa+na)) (up:∀ i,m<=i->i<nb->K X (sa+na-1)<=K X (sa+na+i))
  (M:Mrg (X.extract (sa+k) (sa+na)) (X.extract (sa+na) (sa+na+m)) mm) :
  (wrt (sa+k) mm.toList X).Perm X/\(∀ j,j<sa\/sa+na+nb<=j->K (wrt (sa+k) mm.toList X) j=K X j)/\Seg (wrt (sa+k) mm.toList X) sa (na+nb):=by
 have sz:mm.size=na-k+m:=by rw [M.size,Array.size_extract,Array.size_extract];lia
 have hw:sa+k+mm.size<=X.size:=by lia
 have el:∀ t,t<mm.size->∃ i,sa+k<=i/\i<sa+na+m/\K mm t=K X i:=fun t ht=>by
  have hx:mm[t]? = some mm[t]:=Array.getElem?_eq_getElem ht
  have hm:mm[t]∈mm.toList:=by simp
  rcases List.mem_append.mp (M.1.mem_iff.mp hm) with g | g
  ·obtain ⟨i,a1,a2,a3,a4⟩:=l_y g
   exact ⟨i,by lia,by lia,by rw [<-K_of hx,a4]⟩
  ·obtain ⟨i,a1,a2,a3,a4⟩:=l_y g
   exact ⟨i,by lia,by lia,by rw [<-K_of hx,a4]⟩
 refine ⟨wrt_perm (by simpa using hw) ?_,fun j hj=>by rw [K_wrt hw,if_neg (by lia)],fun i j hij hj=>?_⟩
 ·refine M.1.trans (List.Perm.of_eq ?_)
  rw [Array.toList_extract,Array.toList_extract,Array.length_toList,sz]
  rw [List.extract_eq_take_drop,List.extract_eq_take_drop]
  rw [show sa+na-(sa+k)=na-k by lia,show sa+na+m-(sa+na)=m by lia,List.take_add,List.drop_drop,show sa+k+(na-k)=sa+na by lia]
 ·have lowX:∀ i q,i<k->sa+k<=q->q<sa+na+nb->K X (sa+i)<=K X q:=fun i q g1 g2 g3=>by
   by_cases c:q<sa+na
   ·have:=S1 i (q-sa) (by lia) (by lia)
    rwa [show sa+(q-sa)=q by lia] at this
   ·have:=S2 0 (q-(sa+na)) (by lia) (by lia)
    rw [show sa+na+(q-(sa+na))=q by lia] at this
    exact Int.le_trans (dn i g1) this
  have upX:∀ j q,na+m<=j->j<na+nb->sa+k<=q->q<sa+na+m->K X q<=K X (sa+j):=fun j q g1 g2 g3 g4=>by
   by_cases c:q<sa+na
   ·have e1:=S1 (q-sa) (na-1) (by lia) (by lia)
    rw [show sa+(q-sa)=q by lia,show sa+(na-1)=sa+na-1 by lia] at e1
    have e2:=up (j-na) (by lia) (by lia)
    rw [show sa+na+(j-na)=sa+j by lia] at e2
    exact Int.le_trans e1 e2
   ·have:=S2 (q-(sa+na)) (j-na) (by lia) (by lia)
    rwa [show sa+na+(q-(sa+na))=q by lia,show sa+na+(j-na)=sa+j by lia] at this
  rw [K_wrt hw,K_wrt hw]
  by_cases c1:sa+k<=sa+i/\sa+i<sa+k+mm.size
  ·rw [if_pos c1]
   by_cases c2:sa+k<=sa+j/\sa+j<sa+k+mm.size
   ·rw [if_pos c2];exact M.2 _ _ (by lia) (by lia)
   ·rw [if_neg c2]
    obtain ⟨q,g1,g2,g3⟩:=el (sa+i-(sa+k)) (by lia)
    rw [g3];exact upX j q (by lia) hj g1 g2
  ·rw [if_neg c1]
   by_cases c2:sa+k<=sa+j/\sa+j<sa+k+mm.size
   ·rw [if_pos c2]
    obtain ⟨q,g1,g2,g3⟩:=el (sa+j-(sa+k)) (by lia)
    rw [g3];exact lowX i q (by lia) g1 (by lia)
   ·rw [if_neg c2]
    by_cases c3:j<k
    ·exact S1 i j hij (by lia)
    ·by_cases c4:i<k
     ·exact lowX i (sa+j) c4 (by lia) (by lia)
     ·have:=S2 (i-na) (j-na) (by lia) (by lia)
      rwa [show sa+na+(i-na)=sa+i by lia,show sa+na+(j-na)=sa+j by lia] at this
end L2
namespace L2
open PySem PyProof.Rows
variable {prog:Program} {w:World} {A:Around} {E:Value->Shared->Prop} {s:Shared} {z:Array Keyed}
theorem p_s{st:SortSt}{i sa na pw nb pw2:Nat}{Q:Bool->SortSt->Prop}(h0:IntKeys z)(B:SB z st)(hp1:(pendingOf st)[i]? = some (sa,na,pw))(hp2:(pendingOf st)[i+1]? = some (sa+na,nb,pw2))(hz:sa+na+nb<=z.size)(n1:1<=na)(n2:1<=nb)
  (S1:Seg (arrOf st) sa na) (S2:Seg (arrOf st) (sa+na) nb)
  (h:∀ y,SB z y->(∀ j,j<sa\/sa+na+nb<=j->K (arrOf y) j=K (arrOf st) j)->pendingOf y=((pendingOf st).setIfInBounds i (sa,na+nb,pw)).eraseIdxIfInBounds (i+1)->Seg (arrOf y) sa (na+nb)->Q true y) :
  wpS (model prog w) A E s (mergeAt' i) Q st:=by
 unfold mergeAt'
 refine wpS_bind (wpS_get ?_)
 have I0:=B.ints h0
 have hs:=B.size
 obtain ⟨tb,pb,eb⟩:=y_v I0 (i:=sa+na) (by lia)
 simp only [hp1,hp2]
 refine wpS_bind (wpS_modify (f:=fun _=>_) ?_)
 refine wpS_bind (z_l eb ?_)
 refine wpS_bind (y_b B.kd I0 (show sa+na<=(arrOf st).size by lia) (by lia) (fun i j g1 g2 q=>by simp only [bey,Bool.false_eq_true,if_false,Bool.not_eq_true',decide_eq_false_iff_not,Int.not_lt] at q ⊢;exact Int.le_trans (S1 _ _ g1 g2) q) fun k q1 q2 q3=>?_)
 have dn:∀ i,i<k->K (arrOf st) (sa+i)<=K (arrOf st) (sa+na):=fun i g=>by
  have:=q2 i g
  simpa [bey] using this
 dsimp only
 by_cases d1:na-k=0
 ·rw [if_pos (by simpa using d1)]
  refine wpS_pure (h _ ⟨B.pm,B.kd,B.fl⟩ (fun j _=>rfl) rfl fun i j hij hj=>?_)
  show K (arrOf st) (sa+i)<=K (arrOf st) (sa+j)
  by_cases c1:j<na
  ·exact S1 i j hij c1
  ·have e2:=S2 0 (j-na) (by lia) (by lia)
   rw [show sa+na+(j-na)=sa+j by lia] at e2
   by_cases c2:i<na
   ·exact Int.le_trans (dn i (by lia)) e2
   ·have:=S2 (i-na) (j-na) (by lia) (by lia)
    rwa [show sa+na+(i-na)=sa+i by lia,show sa+na+(j-na)=sa+j by lia] at this
 rw [if_neg (by simpa using d1)]
 have hgt:K (arrOf st) (sa+na)<K (arrOf st) (sa+k):=by
  have:=q3 k (Nat.le_refl _) (by lia)
  simpa [bey] using this
 obtain ⟨ta,pa,ea⟩:=y_v I0 (i:=sa+k+(na-k)-1) (by lia)
 refine wpS_bind (z_l ea ?_)
 refine wpS_bind (y_b B.kd I0 (show sa+na+nb<=(arrOf st).size by lia) (by lia) (fun i j g1 g2 q=>by simp only [bey,if_true,decide_eq_true_eq] at q ⊢;exact Int.lt_of_le_of_lt (S2 _ _ g1 g2) q) fun m r1 r2 r3=>?_)
 rw [show sa+k+(na-k)-1=sa+na-1 by lia] at r2 r3
 have up:∀ i,m<=i->i<nb->K (arrOf st) (sa+na-1)<=K (arrOf st) (sa+na+i):=fun i g1 g2=>by
  have:=r3 i g1 g2
  simpa [bey] using this
 have mz:1<=m:=by
  rcases Nat.lt_or_ge 0 m with q | q
  ·exact q
  ·have e1:=up 0 (by lia) (by lia)
   have e2:=S1 k (na-1) (by lia) (by lia)
   rw [show sa+(na-1)=sa+na-1 by lia] at e2
   rw [Nat.add_zero] at e1
   lia
 dsimp only
 rw [if_neg (by simp;lia)]
 have s1:SortedTo ((arrOf st).extract (sa+k) (sa+na)) ((arrOf st).extract (sa+k) (sa+na)).size:=fun i j hij hj=>by
  rw [Array.size_extract] at hj
  rw [K_ext (by lia) (by lia),K_ext (by lia) (by lia),Nat.add_assoc,Nat.add_assoc]
  exact S1 _ _ (by lia) (by lia)
 have s2:SortedTo ((arrOf st).extract (sa+na) (sa+na+m)) ((arrOf st).extract (sa+na) (sa+na+m)).size:=fun i j hij hj=>by
  rw [Array.size_extract] at hj
  rw [K_ext (by lia) (by lia),K_ext (by lia) (by lia)]
  exact S2 _ _ (by lia) (by lia)
 have c1:K ((arrOf st).extract (sa+na) (sa+na+m)) 0<K ((arrOf st).extract (sa+k) (sa+na)) 0:=by
  rw [K_ext (by lia) (by lia),K_ext (by lia) (by lia)];exact hgt
 have c2:K ((arrOf st).extract (sa+na) (sa+na+m)) (((arrOf st).extract (sa+na) (sa+na+m)).size-1)<K ((arrOf st).extract (sa+k) (sa+na)) (((arrOf st).extract (sa+k) (sa+na)).size-1):=by
  rw [Array.size_extract,Array.size_extract,K_ext (by lia) (by lia),K_ext (by lia) (by lia)]
  have:=r2 (m-1) (by lia)
  simp only [bey,if_true,decide_eq_true_eq] at this
  rw [show sa+na+(min (sa+na+m) (arrOf st).size-(sa+na)-1)=sa+na+(m-1) by lia,show sa+k+(min (sa+na) (arrOf st).size-(sa+k)-1)=sa+na-1 by lia]
  exact this
 have z1:1<=((arrOf st).extract (sa+k) (sa+na)).size:=by rw [Array.size_extract];lia
 have z2:1<=((arrOf st).extract (sa+na) (sa+na+m)).size:=by rw [Array.size_extract];lia
 by_cases d2:na-k<=m
 ·rw [if_pos d2]
  ·refine wpS_bind (p_u B.kd (u_b I0) (u_b I0) s1 s2 z1 z2 c1 c2 fun mm y G M=>?_)
   obtain ⟨p1,p2,p3⟩:=q_l (by lia) (by lia) (by lia) r1 S1 S2 dn up M
   have ey:arrOf y=arrOf st:=G.1
   refine wpS_bind (wpS_modify (wpS_bind (wpS_get ?_)))
   have fy:failedOf y=none:=G.2.2.2.trans B.fl
   have E1:wrt (sa+k) mm.toList (arrOf y)=wrt (sa+k) mm.toList (arrOf st):=by rw [ey]
   refine wpS_pure ?_
   have:=h (setArr y (wrt (sa+k) mm.toList (arrOf y))) ⟨by show (wrt (sa+k) mm.toList (arrOf y)).Perm z;rw [E1];exact p1.trans B.pm,G.2.1.trans B.kd,fy⟩ (by show ∀ j,_->K (wrt (sa+k) mm.toList (arrOf y)) j=_;rw [E1];exact p2) G.2.2.1 (by show Seg (wrt (sa+k) mm.toList (arrOf y)) _ _;rw [E1];exact p3)
   have e2:(failedOf y).isNone=true:=by rw [fy];rfl
   rw [<-e2] at this
   exact this
 ·rw [if_neg d2]
  ·refine wpS_bind (p_t B.kd (u_b I0) (u_b I0) s1 s2 z1 z2 c1 c2 fun mm y G M=>?_)
   obtain ⟨p1,p2,p3⟩:=q_l (by lia) (by lia) (by lia) r1 S1 S2 dn up M
   have ey:arrOf y=arrOf st:=G.1
   refine wpS_bind (wpS_modify (wpS_bind (wpS_get ?_)))
   have fy:failedOf y=none:=G.2.2.2.trans B.fl
   have E1:wrt (sa+k) mm.toList (arrOf y)=wrt (sa+k) mm.toList (arrOf st):=by rw [ey]
   refine wpS_pure ?_
   have:=h (setArr y (wrt (sa+k) mm.toList (arrOf y))) ⟨by show (wrt (sa+k) mm.toList (arrOf y)).Perm z;rw [E1];exact p1.trans B.pm,G.2.1.trans B.kd,fy⟩ (by show ∀ j,_->K (wrt (sa+k) mm.toList (arrOf y)) j=_;rw [E1];exact p2) G.2.2.1 (by show Seg (wrt (sa+k) mm.toList (arrOf y)) _ _;rw [E1];exact p3)
   have e2:(failedOf y).isNone=true:=by rw [fy];rfl
   rw [<-e2] at this
   exact this
end L2
namespace L2
open PySem PyProof.Rows
def Rns(X:Array Keyed):Nat->List (Nat×Nat×Nat)->Nat->Prop
 | p,[],q=>p=q
 | p,x::t,q=>x.1=p/\1<=x.2.1/\Seg X p x.2.1/\Rns X (p+x.2.1) t q
theorem Rns.le{X:Array Keyed}:∀ {l:List (Nat×Nat×Nat)} {p q:Nat},Rns X p l q->p+l.length<=q
 | [],p,q,h=>by cases h;exact Nat.le_refl _
 | x::t,p,q,h=>by
  have:=Rns.le h.2.2.2
  have:=h.2.1
  rw [List.length_cons];lia
theorem Seg.congr{X Y:Array Keyed}{lo n:Nat}(h:Seg X lo n)(e:∀ j,lo<=j->j<lo+n->K Y j=K X j):Seg Y lo n:=fun i j hij hj=>by
 rw [e _ (by lia) (by lia),e _ (by lia) (by lia)];exact h i j hij hj
theorem Rns.congr{X Y:Array Keyed}:∀ {l:List (Nat×Nat×Nat)} {p q:Nat},Rns X p l q->(∀ j,p<=j->j<q->K Y j=K X j)->Rns Y p l q
 | [],_,_,h,_=>h
 | x::t,p,q,h,e=>by
  have:=h.2.2.2.le
  exact ⟨h.1,h.2.1,h.2.2.1.congr fun j h1 h2=>e j h1 (by lia),h.2.2.2.congr fun j h1 h2=>e j (by lia) h2⟩
theorem Rns.app{X:Array Keyed}:∀ {l:List (Nat×Nat×Nat)} {p q:Nat} {m:List (Nat×Nat×Nat)},Rns X p (l++m) q↔∃ r,Rns X p l r/\Rns X r m q
 | [],p,q,m=>⟨fun h=>⟨p,rfl,h⟩,fun ⟨r,h1,h2⟩=>by cases h1;exact h2⟩
 | x::t,p,q,m=>⟨fun h=>by
   obtain ⟨r,h1,h2⟩:=Rns.app.mp h.2.2.2
   exact ⟨r,⟨h.1,h.2.1,h.2.2.1,h1⟩,h2⟩,fun ⟨r,h1,h2⟩=>⟨h1.1,h1.2.1,h1.2.2.1,Rns.app.mpr ⟨r,h1.2.2.2,h2⟩⟩⟩
theorem split_at{l:List (Nat×Nat×Nat)}{i:Nat}(h:i+1<l.length):∃ l1 x y l2,l=l1++x::y::l2/\l1.length=i:=by
 refine ⟨l.take i,l[i],l[i+1],l.drop (i+2),?_,by rw [List.length_take];lia⟩
 conv=>lhs;rw [<-List.take_append_drop i l]
 rw [List.drop_eq_getElem_cons (by lia),List.drop_eq_getElem_cons h]
section
variable {prog:Program} {w:World} {A:Around} {E:Value->Shared->Prop} {s:Shared} {z:Array Keyed}
theorem arr_get{l1 l2:List (Nat×Nat×Nat)}{x y:Nat×Nat×Nat}{P:Array (Nat×Nat×Nat)}(e:P.toList=l1++x::y::l2):P[l1.length]? = some x/\P[l1.length+1]? = some y:=by
 rw [<-Array.getElem?_toList,<-Array.getElem?_toList,e]
 constructor
 ·rw [List.getElem?_append_right (Nat.le_refl _),Nat.sub_self];rfl
 ·rw [List.getElem?_append_right (Nat.le_succ _),show l1.length.succ-l1.length=1 by lia];rfl
theorem m_m{l1 l2:List (Nat×Nat×Nat)}{x y u:Nat×Nat×Nat}{P:Array (Nat×Nat×Nat)}(e:P.toList=l1++x::y::l2) :
  ((P.setIfInBounds l1.length u).eraseIdxIfInBounds (l1.length+1)).toList=l1++u::l2:=by
 rw [Array.toList_eraseIdxIfInBounds,Array.toList_setIfInBounds,e]
 rw [List.set_append_right _ _ (Nat.le_refl _),Nat.sub_self]
 rw [List.eraseIdx_append_of_length_le (by lia),Nat.add_sub_cancel_left]
 rfl
theorem p_v{st:SortSt}{i lo:Nat}{Q:Bool->SortSt->Prop}(h0:IntKeys z)(B:SB z st)(hR:Rns (arrOf st) 0 (pendingOf st).toList lo)(hlo:lo<=z.size)(hi:i+1<(pendingOf st).size)
  (h:∀ y,SB z y->Rns (arrOf y) 0 (pendingOf y).toList lo->(pendingOf y).size+1=(pendingOf st).size->(∀ j,lo<=j->K (arrOf y) j=K (arrOf st) j)->Q true y):wpS (model prog w) A E s (mergeAt' i) Q st:=by
 obtain ⟨l1,⟨sa,na,pw⟩,⟨sb,nb,pw2⟩,l2,e,rfl⟩:=split_at (l:=(pendingOf st).toList) (i:=i) (by rw [Array.length_toList];exact hi)
 obtain ⟨g1,g2⟩:=arr_get e
 rw [e] at hR
 obtain ⟨r,R1,R2⟩:=Rns.app.mp hR
 obtain ⟨rfl,n1,S1,R3⟩:=R2
 obtain ⟨rfl,n2,S2,R4⟩:=R3
 dsimp only at *
 have q1:=R1.le
 have q2:=R4.le
 refine p_s h0 B g1 g2 (by lia) n1 n2 S1 S2 fun y By Ky Py Sy=>h y By ?_ ?_ fun j hj=>Ky j (.inr (by lia))
 ·rw [Py,m_m e]
  refine Rns.app.mpr ⟨_,R1.congr fun j _ hj=>Ky j (.inl hj),rfl,by show 1<=na+nb;lia,Sy,?_⟩
  show Rns _ (sa+(na+nb)) _ _
  rw [<-Nat.add_assoc]
  exact R4.congr fun j hj _=>Ky j (.inr hj)
 ·have e1:=congrArg List.length (congrArg Array.toList Py)
  rw [m_m e] at e1
  have e2:=congrArg List.length e
  simp only [Array.length_toList,List.length_append,List.length_cons] at e1 e2
  lia
theorem Rns.pow{X:Array Keyed}{P:Array (Nat×Nat×Nat)}{p q pw:Nat}(h:Rns X p P.toList q):Rns X p (P.modify (P.size-1) fun (st,len,_)=>(st,len,pw)).toList q:=by
 rcases Nat.eq_zero_or_pos P.size with h0 | h0
 ·have:(P.modify (P.size-1) fun (st,len,_)=>(st,len,pw))=P:=by
   apply Array.ext
   ·simp
   ·intro i h1 h2;lia
  rw [this];exact h
 ·obtain ⟨l,x,e⟩:∃ l x,P.toList=l++[x]:=⟨P.toList.dropLast,P.toList.getLast (by intro c;rw [<-Array.length_toList,c] at h0;cases h0),(List.dropLast_concat_getLast _).symm⟩
  have hl:P.size-1=l.length:=by
   have:=congrArg List.length e
   rw [Array.length_toList,List.length_append] at this
   simp at this;lia
  have e2:(P.modify (P.size-1) fun (st,len,_)=>(st,len,pw)).toList=l++[(x.1,x.2.1,pw)]:=by
   rw [Array.toList_modify,e,hl]
   rw [List.modify_eq_take_cons_drop (by rw [List.length_append];exact Nat.lt_succ_self _)]
   simp
  rw [e2]
  rw [e] at h
  obtain ⟨r,h1,h2⟩:=Rns.app.mp h
  exact Rns.app.mpr ⟨r,h1,h2.1,h2.2.1,h2.2.2.1,h2.2.2.2⟩
theorem p_w{st:SortSt}{Q:Unit->SortSt->Prop}(h0:IntKeys z)(B:SB z st)(hp:pendingOf st = #[])(h:∀ y,SB z y->SortedTo (arrOf y) z.size->Q () y):wpS (model prog w) A E s sortRuns' Q st:=by
 rw [sortRuns'_eq]
 refine wpS_bind (wpS_get ?_)
 dsimp only
 rw [B.size]
 generalize minRun' z.size z.size 0=mr
 refine wpS_bind (wpS_mono (Q:=fun c y=>c=(none,z.size)/\SB z y/\Rns (arrOf y) 0 (pendingOf y).toList z.size)
  (wpS_forRange (I:=fun x c y=>∃ lo,c=(none,lo)/\SB z y/\Rns (arrOf y) 0 (pendingOf y).toList lo/\lo<=z.size/\min x z.size<=lo) ?s1 ?f1 ⟨0,rfl,B,by rw [hp];rfl,by lia,by lia⟩) ?p1)
 case f1 =>
  rintro c y ⟨lo,rfl,By,R,h1,h2⟩
  have:lo=z.size:=by lia
  subst this
  exact ⟨rfl,By,R⟩
 case p1 =>
  rintro c y ⟨rfl,By,R⟩
  dsimp only
  have hl:=R.le
  rw [Array.length_toList,Nat.zero_add] at hl
  refine wpS_bind (wpS_mono (Q:=fun c y=>c=(none,())/\SB z y/\Rns (arrOf y) 0 (pendingOf y).toList z.size/\(pendingOf y).size<=1)
   (wpS_forRange (I:=fun x c y=>c=(none,())/\SB z y/\Rns (arrOf y) 0 (pendingOf y).toList z.size/\(pendingOf y).size<=max 1 (z.size-x)) ?s2 ?f2 ⟨rfl,By,R,by lia⟩) ?p2)
  case f2 =>
   rintro c y ⟨rfl,By,R,h1⟩
   exact ⟨rfl,By,R,by lia⟩
  case p2 =>
   rintro c y ⟨rfl,By,R,h1⟩
   refine wpS_pure (h y By ?_)
   match hl:(pendingOf y).toList,R with
   | [],R =>
    have:0=z.size:=R
    intro i j _ hj;lia
   | [x],R =>
    have e:0+x.2.1=z.size:=R.2.2.2
    have S:=R.2.2.1
    intro i j hij hj
    have:=S i j hij (by lia)
    rwa [Nat.zero_add,Nat.zero_add] at this
   | x::x2::t,_ =>
    have:=congrArg List.length hl
    rw [Array.length_toList] at this
    simp at this;lia
  case s2 =>
   rintro x c y _ hx ⟨rfl,By,R,h1⟩
   refine wpS_bind (wpS_get ?_)
   by_cases c1:(pendingOf y).size<=1
   ·rw [if_pos c1]
    exact wpS_pure ⟨rfl,By,R,c1⟩
   rw [if_neg c1]
   have key:∀ i,i+1<(pendingOf y).size->wpS (model prog w) A E s (mergeAt' i) (fun b y'=>b=true/\SB z y'/\Rns (arrOf y') 0 (pendingOf y').toList z.size/\(pendingOf y').size+1=(pendingOf y).size) y :=
    fun i hi=>p_v h0 By R (Nat.le_refl _) hi fun y' B' R' e _=>⟨rfl,B',R',e⟩
   refine wpS_bind (wpS_mono (key _ ?_) ?_)
   ·repeat' split
    all_goals lia
   ·rintro b y' ⟨rfl,B',R',e⟩
    exact wpS_pure ⟨rfl,B',R',by lia⟩
 case s1 =>
  rintro x c y _ hx ⟨lo,rfl,By,R,h1,h2⟩
  dsimp only
  by_cases c1:lo≥z.size
  ·rw [if_pos c1]
   have:lo=z.size:=by lia
   subst this
   exact wpS_pure ⟨rfl,By,R⟩
  rw [if_neg c1]
  refine wpS_bind (wpS_cnt h0 (by lia) (by lia) By fun m y1 B1 O1 m1 m2 S1=>?_)
  dsimp only
  have R1:Rns (arrOf y1) 0 (pendingOf y1).toList lo:=by rw [O1.p];exact R.congr fun j _ hj=>O1.k j (.inl hj)
  have two:∃ a:Nat,((m<mr->a=min (z.size-lo) mr)/\(¬m<mr->a=m)):=⟨if m<mr then min (z.size-lo) mr else m,fun h=>if_pos h,fun h=>if_neg h⟩
  by_cases cm:m<mr
  ·rw [if_pos cm]
   refine wpS_bind (wpS_lift (wpAny_rule ⟨rfl,?_⟩))
   refine wpS_bind (wpS_binB h0 (n:=min (z.size-lo) mr) (by lia) (by lia) B1 S1 fun y2 B2 O2 S2=>?_)
   have R2:Rns (arrOf y2) 0 (pendingOf y2).toList lo:=by rw [O2.p];exact R1.congr fun j _ hj=>O2.k j (.inl hj)
   have n1:1<=min (z.size-lo) mr:=by lia
   have n2:lo+min (z.size-lo) mr<=z.size:=by lia
   simp only [Bool.not_true,Bool.false_eq_true,if_false]
   generalize min (z.size-lo) mr=n at S2 n1 n2 ⊢
   clear O2 S1 R1 B1 O1 R By m1 m2 cm two
   refine wpS_bind (wpS_get ?_)
   have fin:∀ (X:Array Keyed) (P:Array (Nat×Nat×Nat)),Rns X 0 P.toList lo->Seg X lo n->Rns X 0 (P.push (lo,n,0)).toList (lo+n):=fun X P R3 S3=>by
    rw [Array.toList_push]
    exact Rns.app.mpr ⟨lo,R3,rfl,n1,S3,rfl⟩
   cases hb:(pendingOf y2).back? with
   | none =>
    dsimp only
    exact wpS_bind (wpS_modify (wpS_pure ⟨_,rfl,⟨B2.pm,B2.kd,B2.fl⟩,fin _ _ R2 S2,n2,by lia⟩))
   | some x3 =>
    obtain ⟨s1,m9,x4⟩:=x3
    dsimp only
    refine wpS_bind (wpS_mono (Q:=fun c y=>c=(none,())/\SB z y/\Rns (arrOf y) 0 (pendingOf y).toList lo/\Seg (arrOf y) lo n)
     (wpS_forRange (I:=fun x c y=>c=(none,())/\SB z y/\Rns (arrOf y) 0 (pendingOf y).toList lo/\Seg (arrOf y) lo n) ?t1 (fun c y h=>h) ⟨rfl,B2,R2,S2⟩) ?t2)
    case t2 =>
     rintro c y ⟨rfl,B3,R3,S3⟩
     dsimp only
     refine wpS_bind (wpS_modify (wpS_bind (wpS_modify (wpS_pure ⟨_,rfl,⟨B3.pm,B3.kd,B3.fl⟩,?_,n2,by lia⟩))))
     exact fin _ _ R3.pow S3
    case t1 =>
     rintro x5 c y _ _ ⟨rfl,B3,R3,S3⟩
     refine wpS_bind (wpS_get ?_)
     by_cases c2:(pendingOf y).size > 1
     ·simp only [c2,if_true]
      rw [Array.getElem?_eq_getElem (by lia)]
      dsimp only
      split
      ·exact wpS_pure ⟨rfl,B3,R3,S3⟩
      ·refine wpS_bind (p_v h0 B3 R3 (by lia) (by lia) fun y4 B4 R4 _ K4=>?_)
       exact wpS_pure ⟨rfl,B4,R4,S3.congr fun j h1 _=>K4 j h1⟩
     ·simp only [c2,if_false]
      exact wpS_pure ⟨rfl,B3,R3,S3⟩
  ·rw [if_neg cm]
   have n2:lo+m<=z.size:=by lia
   obtain ⟨y2,rfl⟩:∃ y2,y2=y1:=⟨_,rfl⟩
   have B2:=B1
   have R2:=R1
   have S2:=S1
   have n1:=m1
   clear O1
   refine wpS_bind (wpS_get ?_)
   have fin:∀ (X:Array Keyed) (P:Array (Nat×Nat×Nat)),Rns X 0 P.toList lo->Seg X lo m->Rns X 0 (P.push (lo,m,0)).toList (lo+m):=fun X P R3 S3=>by
    rw [Array.toList_push]
    exact Rns.app.mpr ⟨lo,R3,rfl,n1,S3,rfl⟩
   cases hb:(pendingOf y2).back? with
   | none =>
    dsimp only
    exact wpS_bind (wpS_modify (wpS_pure ⟨_,rfl,⟨B2.pm,B2.kd,B2.fl⟩,fin _ _ R2 S2,n2,by lia⟩))
   | some x3 =>
    obtain ⟨s1,m9,x4⟩:=x3
    dsimp only
    refine wpS_bind (wpS_mono (Q:=fun c y=>c=(none,())/\SB z y/\Rns (arrOf y) 0 (pendingOf y).toList lo/\Seg (arrOf y) lo m)
     (wpS_forRange (I:=fun x c y=>c=(none,())/\SB z y/\Rns (arrOf y) 0 (pendingOf y).toList lo/\Seg (arrOf y) lo m) ?t1 (fun c y h=>h) ⟨rfl,B2,R2,S2⟩) ?t2)
    case t2 =>
     rintro c y ⟨rfl,B3,R3,S3⟩
     dsimp only
     refine wpS_bind (wpS_modify (wpS_bind (wpS_modify (wpS_pure ⟨_,rfl,⟨B3.pm,B3.kd,B3.fl⟩,?_,n2,by lia⟩))))
     exact fin _ _ R3.pow S3
    case t1 =>
     rintro x5 c y _ _ ⟨rfl,B3,R3,S3⟩
     refine wpS_bind (wpS_get ?_)
     by_cases c2:(pendingOf y).size > 1
     ·simp only [c2,if_true]
      rw [Array.getElem?_eq_getElem (by lia)]
      dsimp only
      split
      ·exact wpS_pure ⟨rfl,B3,R3,S3⟩
      ·refine wpS_bind (p_v h0 B3 R3 (by lia) (by lia) fun y4 B4 R4 _ K4=>?_)
       exact wpS_pure ⟨rfl,B4,R4,S3.congr fun j h1 _=>K4 j h1⟩
     ·simp only [c2,if_false]
      exact wpS_pure ⟨rfl,B3,R3,S3⟩
end
end L2
namespace L2
open PySem PyProof PyProof.Rows
section
variable {prog:Program} {w:World} {A:Around} {E:Value->Shared->Prop} {z:Shared}
theorem lsortN{p:Addr}{us:List Value}{ks:List Int}{e0:Nat}{F:Fin->Shared->Prop}(hp:z.heap.get? p=some (seqObj "list" us.toArray e0))(hk:IntsAre us ks)(hm:us.length<9000)
  (q:∀ (o:Array Value) (js:List Int),IntsAre o.toList js->js.Perm ks->js.Pairwise (· <= ·)->F (.done (.ret .none)) { z with heap:=sortedHeap z.heap p us o }) :
  wpAny (model prog w) A (Builtin.«list.sort» ⟨[.ref p],[]⟩) F E z:=by
 rw [list_sort_plain]
 have lt:=Heap.lt_size hp
 refine wpAny_bind (listItems_at hp rfl (wpAny_bind (listUpdate_at hp rfl ?_ (by rw [sizeLine_eq];simp;lia) (by simp))))
 obtain ⟨e1,h1⟩:∃ e1,(z.heap.update p (Obj.mapSeq fun _=>#[])).get? p=some (seqObj "list" #[] e1):=⟨_,get?_update_seq hp _⟩
 refine wpAny_bind (seqEpoch_at h1 rfl (wpAny_bind (wpAny_newTuple (wpAny_bind (wpAny_newList (wpAny_holding ?_))) (by rw [sizeLine_eq];simp;lia))))
 have g1:p≠((z.heap.update p (Obj.mapSeq fun _=>#[])).push (seqObj "tuple" us.toArray 0)).objs.size:=by rw [size_push',Heap.size_update];exact Nat.ne_of_lt (Nat.lt_succ_of_lt lt)
 have g2:p≠(z.heap.update p (Obj.mapSeq fun _=>#[])).objs.size:=by rw [Heap.size_update];exact Nat.ne_of_lt lt
 have h2:=(Heap.get?_push_ne _ _ (seqObj "list" #[] 0) g1).trans ((Heap.get?_push_ne _ _ (seqObj "tuple" us.toArray 0) g2).trans h1)
 have fin:∀ y:SortSt,(arrOf y).Perm (pairsOf us)->SortedTo (arrOf y) (pairsOf us).size->F (.done (.ret .none)) { z with heap:=sortedHeap z.heap p us ((arrOf y).map (·.2)) }:=fun y pm st=>by
  obtain ⟨js,q1,q2,q3⟩:=sorted_out hk pm st
  exact q _ js q1 q2 q3
 show wpAny (model prog w) A _ F E { z with heap:=((z.heap.update p (Obj.mapSeq fun _=>#[])).push (seqObj "tuple" us.toArray 0)).push (seqObj "list" #[] 0) }
 dsimp only
 by_cases c:us.toArray.size<2
 ·rw [if_pos c,if_pos c]
  refine wpAny_bind (wpAny_pure ?_)
  rw [StateT.run_pure]
  refine wpAny_bind (wpAny_pure ?_)
  dsimp only
  refine wpAny_bind (seqEpoch_at h2 rfl ?_)
  refine wpAny_bind (listUpdate_at h2 rfl ?_ (hsz:=by simp) (hsz2:=by rw [Array.size_map];show (pairsOf us).size<=_;rw [pairsOf_size,sizeLine_eq];lia))
  simp only [bne_self_eq_false,Bool.false_eq_true,if_false]
  refine wpAny_pure (fin (SortSt.mk' general' (us.toArray.zip us.toArray) #[] 7 none) (Array.Perm.refl _) fun i j hij hj=>?_)
  rw [pairsOf_size] at hj
  rw [List.size_toArray] at c
  rw [show i=j by lia];exact Int.le_refl _
 ·rw [if_neg c,if_neg c]
  rw [List.size_toArray] at c
  obtain ⟨u,v,t,rfl⟩:∃ u v t,us=u::v::t:=by
   rcases us with _ | ⟨u,_ | ⟨v,t⟩⟩
   ·exact absurd (by decide) c
   ·exact absurd (show [u].length<2 by simp) c
   ·exact ⟨u,v,t,rfl⟩
  rw [keyKind_ints hk]
  refine wpAny_bind (wpAny_pure ?_)
  refine wpAny_bind (wpAny_mono (p_w (z:=pairsOf (u::v::t)) (st:=SortSt.mk' oneType' ((u::v::t).toArray.zip (u::v::t).toArray) #[] 7 none) (Q:=fun _ y=>SB (pairsOf (u::v::t)) y/\SortedTo (arrOf y) (pairsOf (u::v::t)).size) hk.intKeys ⟨Array.Perm.refl _,rfl,rfl⟩ rfl fun y b1 b2=>⟨b1,b2⟩) ?_ fun _ _ e=>e)
  rintro ⟨⟨⟩,y⟩ z' ⟨rfl,B,st⟩
  dsimp only
  refine wpAny_bind (seqEpoch_at h2 rfl ?_)
  refine wpAny_bind (listUpdate_at h2 rfl ?_ (hsz:=by simp) (hsz2:=by rw [Array.size_map,B.pm.size_eq,pairsOf_size,sizeLine_eq];lia))
  rw [B.fl]
  simp only [bne_self_eq_false,Bool.false_eq_true,if_false]
  exact wpAny_pure (fin y B.pm st)
theorem sortedN{l:Addr}{us:List Value}{ks:List Int}{R:Value->Shared->Prop}(hl:z.heap.IsList l us.toArray)(hk:IntsAre us ks)(hm:us.length<9000)
  (q:∀ (o:Array Value) (js:List Int),IntsAre o.toList js->js.Perm ks->js.Pairwise (· <= ·)->R (.ref (z.heap.objs.size+1)) { z with heap:=sortedAll z.heap us o }) :
  wpAny (model prog w) A (call (.builtin "sorted") [.ref l]) R E z:=by
 refine Calls.call_function_entry kind_sorted plain_sorted entry_sorted (args_sorted1 _) ?_
 unfold Builtin.«sorted»
 refine wpAny_bind (m:=checkCount "sorted" 1 1 _) (wpAny_pure (wpAny_bind (collect_list hl (wpAny_bind (wpAny_newList ?_ (by rw [sizeLine_eq];lia))) (by rw [sizeLine_eq];lia))))
 have e1:((z.heap.push (seqObj "list" #[] 0)).update z.heap.objs.size (Obj.mapSeq (· ++ us.toArray))).objs.size=z.heap.objs.size+1:=(Heap.size_update ..).trans (size_push' ..)
 have h1:=Heap.get?_push_size ((z.heap.push (seqObj "list" #[] 0)).update z.heap.objs.size (Obj.mapSeq (· ++ us.toArray))) (o:=seqObj "list" us.toArray 0) rfl
 rw [e1] at h1
 show wpAny _ _ (do let _ <-holding [.ref _] _;_) _ _ _
 rw [e1]
 refine wpAny_bind (wpAny_holding (wpAny_call_entry slot_list_sort ⟨_,h1,rfl⟩ entry_list_sort (lsortN h1 hk hm fun o js q1 q2 q3=>⟨_,rfl,?_⟩) (args_list_sort _)))
 exact wpAny_pure ⟨_,rfl,q o js q1 q2 q3⟩
end
def tSortN(xs:List V)(H:Hp)(Q:VK):Prop:=∃ (p:Addr) (ns:List Int),xs=[.ref p]/\H p=some (.lst (ns.map V.int))/\ns.length<9000/\∀ (a:Addr) (ns':List Int),H a=none->ns'.Perm ns->ns'.Pairwise (· <= ·)->Q (.ref a) (upd H a (.lst (ns'.map V.int)))
theorem n_k{X:Cx}:CallR X (.builtin "sorted") tSortN:=by
 intro pins s σ H xs us Q I r h
 obtain ⟨p,ns,rfl,hp,hl,q⟩:=h
 obtain ⟨u,rfl,ru⟩:=vals1 r
 cases ru
 obtain ⟨its,rv,pl,hz⟩:=I.list (SqL.of hp)
 have hlen:its.length=ns.length:=by rw [<-rv.length,List.length_map]
 refine sortedN pl.isList (n_t rv) (by lia) fun out ns' ha hpm hpw=>?_
 have hl':ns'.length=ns.length:=hpm.length_eq
 have rv':=v_o ha
 refine ⟨.ref (s.heap.objs.size+1),_,I.laid (a:=s.heap.objs.size+1) (o:=.lst (ns'.map V.int)) (t':=s.toks) (fun b u e=>PyProof.Rows.sortedAll_old e) (Nat.le_succ _) ⟨?_,?_⟩,rfl,q _ ns' (I.hok.fresh (Nat.le_succ _)) hpm hpw⟩
 ·rw [List.length_map]
  exact Nat.le_of_lt (y_l (by lia))
 ·obtain ⟨n,hn⟩:=PyProof.Rows.sortedAll_at s.heap its out
  exact ⟨out.toList,n,rv',hn⟩
open PySem PySem.Spec PyProof.Rows
def IsLam(fo:Obj)(qual:Str)(params:Arguments)(body:Expr)(scope:Scope)(c:Addr):Prop:=∃ pm ctv,fo=PySem.W.kla_obj "<lambda>" qual params body scope [] pm c ctv
section
variable {X:Cx}
def tLamV(Pa:Addr)(pos:Pos)(qual:Str)(params:Arguments)(body:Expr)(scope:Scope):TE:=fun _ H Q=>H Pa=some (.tbl pos qual) /\
 ∀ (f c':Addr) (fo:Obj) (H':Hp),Same H H'->H f=none->H' f=some (.frz fo (.own f))->IsLam fo qual params body scope c'->IsCd H' c' qual->Q (.ref f) H'
theorem pe_lamV{Pa c:Addr}{pos:Pos}{qual:Str}{params:Arguments}{body:Expr}{scope:Scope}(L:LamAt X.mg X.base c Pa)(hcode:X.env.code = .ref c)(hq:X.env.qual ++ "<lambda>" = qual)(hcl:closureFor scope X.env=pure [])(hdef:defaultsOf params X.env=([],[])) :
  PE X (.Lambda params body scope pos) (tLamV Pa pos qual params body scope):=by
 intro pins s σ H Q I h
 obtain ⟨hP,h⟩:=h
 refine PySem.W.kla_eval hdef ?_
 rw [hq]
 obtain ⟨ps,hPs,ht,hc⟩:=I.hok Pa _ hP
 obtain ⟨bm,ob,b1,b2,b3,b4,b5,b6⟩:=L.bm
 have nP:∀ b o,X.base.get? b=some o->b≠Pa:=fun b o e z=>by
  have:=(I.bs b o e).2
  rw [z,hP] at this
  cases this
 have hg:=I.mod.glob.keeps I.bk
 have hgP:mainGlobals≠Pa:=by
  obtain ⟨o,_,_,e,_⟩:=I.mod.glob
  exact nP _ o e
 have hbG:bm≠mainGlobals:=fun q=>by
  obtain ⟨o,es,ep,e,hd,_⟩:=I.mod.glob
  rw [q,e] at b3
  cases b3
  rw [hd] at b6
  cases b6
 have hb:s.heap.BuiltinsAt X.mg Pa:=⟨bm,ob,b1,b2,hbG,nP _ _ b3,I.bk _ _ b3,b4,b5,b6⟩
 have push:∀ {H1:Hp} {h':Heap} {tk:Nat} {fo:Obj},Inv X pins σ H1 { s with heap:=h',toks:=tk }->Same H H1->fo.isFreed=false->∀ {c':Addr},s.heap.objs.size<=h'.objs.size->IsLam fo qual params body scope c'->IsCd H1 c' qual->EP X pins σ Q (.ref h'.objs.size) { s with heap:=h'.push fo,toks:=tk }:=fun {H1 h' tk fo} I1 sm hnf {c'} hsz hcl hcd=>by
  have hfr:H1 h'.objs.size=none:=I1.hok.fresh (Nat.le_refl _)
  have hget:(h'.push fo).get? h'.objs.size=some fo:=Heap.get?_push_size _ hnf
  have I2:=I1.laid (t':=tk) (a:=h'.objs.size) (o:=.frz fo (.own h'.objs.size)) (h':=h'.push fo) (fun b u e=>Heap.get?_push_of_some _ e) (Nat.le_refl _) ⟨hget,_,hget⟩
  have sm2:Same H1 (upd H1 h'.objs.size (.frz fo (.own h'.objs.size))):=fun b u q=>by rw [z_n (z_g q hfr)];exact q
  exact ⟨.ref h'.objs.size,_,I2,rfl,h h'.objs.size c' fo _ (sm.trans sm2) (I.hok.fresh hsz) z_c hcl (hcd.same sm2)⟩
 rcases hc with hnf | ⟨c',oc,vs,tq,hf,hown,hd,hv⟩
 ·refine PySem.W.kla_makeFunction hcl I.ok.glob hg hcode (L.hd.keeps I.bk) hPs ht hnf hgP hb fun c' ctv h' tk hx hge hlt hrec htb=>?_
  obtain ⟨c2,oc,vs,tq,z,h1,h2,h3⟩:=hrec
  cases z
  have I1:=I.grown (t':=tk) hP hx hge h1 h2 h3 htb (by rw [Array.toList_append];exact TriplesOk_snoc _ _ _ _ ht) (by rw [Array.toList_append];exact codeAmong_snoc _ ht hnf)
  exact push I1 (fun b u q=>by rw [z_n (z_g q (I.hok.fresh hge))];exact q) rfl (Nat.le_trans hge (Nat.le_of_lt hlt)) ⟨_,_,rfl⟩ ⟨oc,_,vs,tq,z_c,h2,h3⟩
 ·refine PySem.W.kla_makeFunctionHit hcl I.ok.glob hg hcode (L.hd.keeps I.bk) hPs ht hf hb fun ctv h' tk hk hsz=>?_
  exact push (I.kept (t':=tk) hk) (Same.refl H) rfl hsz ⟨_,_,rfl⟩ ⟨oc,_,vs,tq,hown,hd,hv⟩
end
def sp_lam(fo:Obj)(f c:Addr)(qual:Str)(tb:TE):Sp:=fun vs H Q _=>∃ (v:V) (u:HO),vs=[v]/\H f=some (.frz fo u)/\IsCd H c qual/\tb [some v] H Q
theorem lamv_ok{P:Program}{w:World}{K:PySem.W.Frag}{mg:Str->Option Value}{base:Heap}{f c':Addr}{fo:Obj}{qual x:Str}{params:Arguments}{body:Expr}{scope:Scope}{tb:TE}
  (hlam:IsLam fo qual params body scope c') (hsc:scope.names=[(x,.local)]) (hk:scope.kind = .function)
  (hco:scope.isCoroutine=false) (hgen:scope.isGenerator=false) (hbind:∀ pm ctv u,bindArgs (PySem.W.kla_fn "<lambda>" qual params body scope [] pm (.ref c') ctv) ⟨[u],[]⟩=pure [(x,u)])
  (hb:∀ A outer s H,PE (cloCx P w K mg base [x] qual scope f (.ref c') [] A outer s H) body tb):∃ fd,FnOk P w K mg base CX0 1 f fd [x] (sp_lam fo f c' qual tb)/\Binds K fd [x] []/\fo.data = .func fd:=by
 obtain ⟨pm,ctv,rfl⟩:=hlam
 refine ⟨_,⟨?_,?_⟩,.all (fun us hl=>?_),rfl⟩
 ·rintro vs H Q E ⟨v,u,rfl,_⟩
  rfl
 ·intro A outer s H args us vs Q E hr e0 hbt r hsp
  obtain ⟨v,uo,rfl,hf,hcd,hq⟩:=hsp
  have ho:=(e0.hok f _ hf).1
  obtain ⟨oc,u2,ws,tq,c1,c2,c3⟩:=hcd
  have hcr:s.heap.CodeRec (.ref c') qual:=⟨c',oc,ws,tq,rfl,(e0.hok c' _ c1).1,c2,c3⟩
  cases r with
  | @cons _ u _ us ru rr =>
  cases rr
  have hdp:A.depth<recursionLimit:=by have:=hr.dp;lia
  refine PySem.W.kla_callFunE hdp ho rfl hco hgen rfl hcr (hbt _ _ _ _ ?_)
  refine wpAny_newFunctionEnv (fun p hp=>?_) (fun p hp=>?_) (fun h₁ hns hsb=>?_) hk
  ·have hp:p∈scope.names:=hp
   rw [hsc] at hp
   rw [List.mem_singleton.mp hp];nofun
  ·have hp':p=(x,u):=by simpa using hp
   subst hp'
   show scope.names.lookup x=_
   rw [hsc]
   simp
  have hk₁:∀ b o,s.heap.get? b=some o->h₁.get? b=some o:=fun b o e=>hsb.extBut b o (Nat.ne_of_lt (Heap.lt_size e)) (Heap.get?_push_of_some _ e)
  have lim:s.heap.NoLimit:=e0.mod.nolimit.keeps fun b o e=>(e0.bs b o e).1
  refine ⟨lim.keeps hk₁,?_⟩
  show codeAny _ _ (.expr body (envX qual scope s.heap.objs.size f (.ref c') [])) _ _
  have lk:∀ z:Str,¬(scope.names.lookup z=some .cell\/scope.names.lookup z=some .free):=fun z hz=>by
   rw [hsc] at hz
   simp only [List.lookup_cons,List.lookup_nil] at hz
   cases e1:(z == x) with
   | true=>rw [e1] at hz;simp at hz
   | false=>rw [e1] at hz;simp at hz
  have cl:∀ (z:Str) (c:Addr),¬([]:List (Str×Addr)).lookup z=some c:=fun z c hz=>by cases hz
  have I1:Inv (cloCx P w K mg base [x] qual scope f (.ref c') [] A outer s H) [] [some v] H { s with heap:=h₁,toks:=s.toks+([x].zip [u]).length }:=by
   have noA:∀ b:Addr,b∉(cloCx P w K mg base [x] qual scope f (.ref c') [] A outer s H).ex:=fun b z=>absurd (show b∈([]:List Addr) from z) (by simp)
   refine ⟨⟨e0.mod,hk,rfl,rfl,Nat.le_refl _,fun a b c h1 h2=>absurd h1 (cl a c),fun a ha=>absurd ha (lk a),fun a c h=>absurd (show false=true from h) (by simp),fun _=>hr.hd,Around.frames_deeper e0.frames,e0.gd,.inr ⟨rfl,rfl⟩,fun b z=>absurd z (noA b),e0.bs,e0.bsz,fun b _ _=>noA b,fun b z=>absurd z (noA b),e0.funs,e0.frf⟩,
    rfl,e0.bare,Un.kept hk₁,⟨_,hns,fun j z vz h1 h2 h3=>?_⟩,fun a c h=>absurd h (cl a c),e0.hok.fresh (Nat.le_refl _),fun a c h=>absurd h (cl a c),fun p hp=>absurd (show p∈([]:List (Addr×Obj)) from hp) (by simp),e0.hok.kept hk₁,rfl⟩
   rcases j with _ | j
   ·cases h1
    cases h2
    refine ⟨u,ru,.inl ⟨?_,by simp⟩⟩
    show scope.names.lookup x=some .local
    rw [hsc]
    simp
   ·cases h1
  refine PySem.W.kla_codeExpr (wpAny_mono (hb A outer s H [] _ _ _ _ I1 hq) (fun w' s' hz=>?_) fun _ _ z=>z.elim)
  obtain ⟨z,H',J,rz,qz⟩:=hz
  exact ⟨z,H',J.os,J.bare,J.base,J.hok,rz,qz⟩
 ·cases us with
  | nil=>cases hl
  | cons u us =>
   cases us with
   | nil=>exact hbind pm ctv u
   | cons _ _=>cases hl
open PySem
def KpT(H J:Hp):Prop:=∀ b xs,H b=some (.tup xs)->J b=some (.tup xs)
theorem KpT.trans{H J K:Hp}(a:KpT H J)(b:KpT J K):KpT H K:=fun c x h=>b c x (a c x h)
theorem Same.kpt{H J:Hp}(s:Same H J):KpT H J:=fun b xs h=>s b _ h
theorem Ch.kpt{l:Addr}{H J:Hp}{ys:List V}(c:Ch l H J)(hl:H l=some (.lst ys)):KpT H J:=fun b xs h=>c b _ (x_k h hl) h
theorem KpT.up{H:Hp}{a:Addr}{o o':HO}(h:H a=some o)(n:∀ xs,o ≠ .tup xs):KpT H (upd H a o'):=fun b xs e=>by
 rw [z_n (fun z=>by rw [z,h] at e;exact n xs (Option.some.inj e))];exact e
structure RP{β:Type}(rp:Hp->V->Option β->Prop):Prop where
 non:∀ H,rp H .non none
 nof:∀ {H:Hp} {v:V},rp H v none->v = .non
 som:∀ {H:Hp} {v:V} {b:β},rp H v (some b)->v ≠ .non
 kp:∀ {H J:Hp} {v:V} {x:Option β},KpT H J->rp H v x->rp J v x
section
variable {β:Type}
def rhsG(giv:Nat->Option β)(L:Nat)(gs:List (Nat×Nat))(tur:Option β->Option β)(bth:Option β->Option β->Option β)(F:Nat->Option β)(e:Nat):Option β :=
 match giv e with
 | some w=>some w
 | none=>if L<e/2 then (if e%2=1 then tur (F (e-1)) else match gs[e/2-L-1]? with
  | some p=>bth (F p.1) (F p.2)
  | none=>none) else none
def fvG(giv:Nat->Option β)(L:Nat)(gs:List (Nat×Nat))(tur:Option β->Option β)(bth:Option β->Option β->Option β):Nat->Nat->Option β
 | 0,_=>none
 | k+1,e=>rhsG giv L gs tur bth (fvG giv L gs tur bth k) e
def gvG(giv:Nat->Option β)(L:Nat)(gs:List (Nat×Nat))(tur:Option β->Option β)(bth:Option β->Option β->Option β)(e:Nat):Option β:=fvG giv L gs tur bth (e+1) e
variable {giv:Nat->Option β} {L:Nat} {gs:List (Nat×Nat)} {tur:Option β->Option β} {bth:Option β->Option β->Option β}
theorem t_z(hg:GtO L gs){F F':Nat->Option β}{e:Nat}(h:∀ d,d<e->F d=F' d):rhsG giv L gs tur bth F e=rhsG giv L gs tur bth F' e:=by
 unfold rhsG
 cases giv e with
 | some w=>rfl
 | none =>
  by_cases c:L<e/2
  ·simp only [if_pos c]
   by_cases d:e%2=1
   ·simp only [if_pos d]
    rw [h (e-1) (by lia)]
   ·simp only [if_neg d]
    cases hq:gs[e/2-L-1]? with
    | none=>rfl
    | some p =>
     obtain ⟨h1,h2⟩:=hg _ _ hq
     show bth (F p.1) (F p.2)=bth (F' p.1) (F' p.2)
     rw [h p.1 (by lia),h p.2 (by lia)]
  ·simp only [if_neg c]
theorem s_n(hg:GtO L gs):∀ {k e:Nat},e<k->fvG giv L gs tur bth k e=fvG giv L gs tur bth (e+1) e
 | 0,e,h=>absurd h (Nat.not_lt_zero _)
 | k+1,e,h=>by
  show rhsG giv L gs tur bth (fvG giv L gs tur bth k) e=rhsG giv L gs tur bth (fvG giv L gs tur bth e) e
  exact t_z hg fun d hd=>by
   rw [s_n hg (show d<k by lia),s_n hg (show d<e from hd)]
theorem r_t(hg:GtO L gs)(e:Nat):gvG giv L gs tur bth e=rhsG giv L gs tur bth (gvG giv L gs tur bth) e:=by
 show rhsG giv L gs tur bth (fvG giv L gs tur bth e) e=_
 exact t_z hg fun d hd=>s_n hg hd
theorem gvG_giv(hg:GtO L gs){e:Nat}{w:β}(h:giv e=some w):gvG giv L gs tur bth e=some w:=by
 rw [r_t hg]
 unfold rhsG
 rw [h]
theorem gvG_low(hg:GtO L gs){e:Nat}(h:giv e=none)(hl:¬L<e/2):gvG giv L gs tur bth e=none:=by
 rw [r_t hg]
 unfold rhsG
 rw [h]
 simp only [if_neg hl]
theorem gvG_odd(hg:GtO L gs){e:Nat}(h:giv e=none)(hl:L<e/2)(ho:e%2=1):gvG giv L gs tur bth e=tur (gvG giv L gs tur bth (e-1)):=by
 rw [r_t hg]
 unfold rhsG
 rw [h]
 simp only [if_pos hl,if_pos ho]
theorem gvG_even(hg:GtO L gs){e:Nat}{p:Nat×Nat}(h:giv e=none)(hl:L<e/2)(ho:¬e%2=1)(hp:gs[e/2-L-1]? = some p):gvG giv L gs tur bth e=bth (gvG giv L gs tur bth p.1) (gvG giv L gs tur bth p.2):=by
 rw [r_t hg]
 unfold rhsG
 rw [h]
 simp only [if_pos hl,if_neg ho,hp]
def sp_turG(rp:Hp->V->Option β->Prop)(tur:Option β->Option β)(okf:Hp->Prop):Sp:=fun vs H Q _=>∃ (v:V) (x:Option β),vs=[v]/\rp H v x/\okf H/\∀ v' H',Same H H'->rp H' v' (tur x)->Q v' H'
def p_q(rp:Hp->V->Option β->Prop)(bth:Option β->Option β->Option β):Sp:=fun vs H Q _=>∃ (v1 v2:V) (x y:Option β),vs=[v1,v2]/\rp H v1 x/\rp H v2 y/\∀ v' H',Same H H'->rp H' v' (bth x y)->Q v' H'
structure FnsG(P:Program)(w:World)(K:PySem.W.Frag)(mg:Str->Option Value)(base:Heap)(H:Hp)(rp:Hp->V->Option β->Prop)(tur:Option β->Option β)(bth:Option β->Option β->Option β)(okf:Hp->Prop)(f ab:Addr)(fo ofb:Obj)(fdt fdb:FuncData)(pt pb:List Str):Prop where
 ft:∃ u,H f=some (.frz fo u)
 dt:fo.data = .func fdt
 okc:∀ {l:Addr} {ys:List V} {J:Hp},H l=some (.lst ys)->Ch l H J->okf J
 Ft:FnOk P w K mg base CX0 1 f fdt pt (sp_turG rp tur okf)
 Bt:Binds K fdt pt []
 lb:K.lookup ab=some ofb
 db:ofb.data = .func fdb
 Fb:FnOk P w K mg base CX0 1 ab fdb pb (p_q rp bth)
 Bb:Binds K fdb pb []
def GvO(H:Hp)(rp:Hp->V->Option β->Prop)(kvs:List (Key×V))(gv:Nat->Option β):Prop:=∀ x:Nat,(gv x=none->valV kvs (.inl (x:Int))=none)/\∀ b,gv x=some b->∃ v,valV kvs (.inl (x:Int))=some v/\rp H v (some b)
def FdG(rp:Hp->V->Option β->Prop)(H:Hp)(kvs:List (Key×V))(S:List Nat)(F:Nat->Option β)(m:Nat):Prop:=kvs.length<=m/\∀ e:Nat,(e∉S->valV kvs (.inl (e:Int))=none)/\(e∈S->∃ v,valV kvs (.inl (e:Int))=some v/\rp H v (F e))
variable {rp:Hp->V->Option β->Prop}
theorem FdG.nil{H:Hp}{F:Nat->Option β}:FdG rp H [] [] F 0:=⟨Nat.le_refl _,fun e=>⟨fun _=>rfl,fun h=>nomatch h⟩⟩
theorem FdG.kp{H J:Hp}{kvs:List (Key×V)}{S:List Nat}{F:Nat->Option β}{m:Nat}(r:RP rp)(h:FdG rp H kvs S F m)(k:KpT H J):FdG rp J kvs S F m :=
 ⟨h.1,fun e=>⟨(h.2 e).1,fun hs=>let ⟨v,a,b⟩:=(h.2 e).2 hs;⟨v,a,r.kp k b⟩⟩⟩
theorem FdG.new{H:Hp}{kvs:List (Key×V)}{S:List Nat}{F:Nat->Option β}{m e:Nat}{v:V}(h:FdG rp H kvs S F m)(hv:rp H v (F e)):FdG rp H (putK kvs (.inl (e:Int)) v) (S++[e]) F (m+1):=by
 refine ⟨Nat.le_trans (y_m _ _ _) (Nat.succ_le_succ h.1),fun d=>?_⟩
 rw [w_z]
 by_cases c:d=e
 ·subst c
  rw [if_pos rfl]
  exact ⟨fun hn=>absurd (List.mem_append_right _ (List.mem_singleton.mpr rfl)) hn,fun _=>⟨v,rfl,hv⟩⟩
 ·rw [if_neg (r_u c)]
  exact ⟨fun hn=>(h.2 d).1 fun q=>hn (List.mem_append_left _ q),fun hs=>(h.2 d).2 ((List.mem_append.mp hs).elim id fun q=>absurd (List.mem_singleton.mp q) c)⟩
theorem FdG.set{H:Hp}{kvs:List (Key×V)}{S:List Nat}{F F':Nat->Option β}{m e:Nat}{v:V}(h:FdG rp H kvs S F m)(he:e∈S)(hF:∀ d∈S,d≠e->F d=F' d)(hv:rp H v (F' e)):FdG rp H (putK kvs (.inl (e:Int)) v) S F' (m+1):=by
 refine ⟨Nat.le_trans (y_m _ _ _) (Nat.succ_le_succ h.1),fun d=>?_⟩
 rw [w_z]
 by_cases c:d=e
 ·subst c
  rw [if_pos rfl]
  exact ⟨fun hn=>absurd he hn,fun _=>⟨v,rfl,hv⟩⟩
 ·rw [if_neg (r_u c)]
  refine ⟨(h.2 d).1,fun hs=>?_⟩
  obtain ⟨w,a,b⟩:=(h.2 d).2 hs
  exact ⟨w,a,by rw [<-hF d hs c];exact b⟩
theorem FdG.congr{H:Hp}{kvs:List (Key×V)}{S:List Nat}{F F':Nat->Option β}{m:Nat}(h:FdG rp H kvs S F m)(hF:∀ d∈S,F d=F' d):FdG rp H kvs S F' m:=⟨h.1,fun e=>⟨(h.2 e).1,fun hs=>by
 obtain ⟨w,a,b⟩:=(h.2 e).2 hs
 exact ⟨w,a,by rw [<-hF e hs];exact b⟩⟩⟩
end
def q_r:Sp:=fun vs H Q _=>∃ (net g:Addr) (rs:List Addr) (L:Nat) (gs:List (Nat×Nat)) (e:Nat),vs=[.ref net,.int (e:Int)]/\IsNet H net g rs (L:Int) (gI gs)/\L<e/2/\e/2<1+L+gs.length/\∀ t H',Same H H'->H' t=some (.tup (z_h (belN L gs e)))->Q (.ref t) H'
def q_s(C:Addr)(P:Program)(w:World)(K:PySem.W.Frag)(mg:Str->Option Value)(base:Heap):Sp:=fun vs H Q _=>∃ (β:Type) (rp:Hp->V->Option β->Prop) (tur:Option β->Option β) (bth:Option β->Option β->Option β) (okf:Hp->Prop) (net g o l gd et f ab:Addr) (rs:List Addr) (L n a b:Nat) (gs:List (Nat×Nat)) (R:Nat->Nat) (kvs:List (Key×V)) (gv:Nat->Option β) (fo ofb:Obj) (fdt fdb:FuncData) (pt pb:List Str),
 vs=[.ref net,.ref o,.ref gd,.ref et,.ref f,.ref ab]/\RP rp/\IsNet H net g rs (L:Int) (gI gs)/\GtO L gs/\n=1+L+gs.length/\ClsAt C H o l n R/\H gd=some (.dK kvs)/\GvO H rp kvs gv/\H et=some (.tup [.int (a:Int),.int (b:Int)])/\a<2*n/\b<2*n/\g≠l/\FnsG P w K mg base H rp tur bth okf f ab fo ofb fdt fdb pt pb /\
 ∀ p va vb H',H p=none->Ch l H H'->ClsAt C H' o l n R->H' p=some (.lst [va,vb])->rp H' va (gvG (fun e=>gv (R e)) L gs tur bth a)->rp H' vb (gvG (fun e=>gv (R e)) L gs tur bth b)->Q (.ref p) H'
theorem ClsAt.cap{C o l:Addr}{J:Hp}{n:Nat}{R:Nat->Nat}(c:ClsAt C J o l n R):n<=4200:=by
 obtain ⟨_,L,_,_,h⟩:=c
 exact h
theorem l_g{C o l p:Addr}{H J:Hp}{n:Nat}{R:Nat->Nat}(c:Ch l H J)(C2:ClsAt C J o l n R)(hp:J p=none):H p=none:=by
 cases e:H p with
 | none=>rfl
 | some x =>
  by_cases q:p=l
  ·rw [q] at hp
   obtain ⟨⟨L1,hl1⟩,_⟩:=C2.lst
   rw [hl1] at hp
   cases hp
  ·rw [c _ _ q e] at hp
   cases hp
open PySem
section
variable {n:Nat} {L Ls:List Nat} {R:Nat->Nat}
theorem Uf.z0(u:Uf n L R)(h:0<n):R 0=0:=by
 have:=u.least (e:=0) (j:=0) h h rfl
 lia
end
section
variable {n L a b:Nat} {L0 Ls ls:List Nat} {gs:List (Nat×Nat)} {R:Nat->Nat}
def snL(Ls ls:List Nat)(i:Nat):List Nat:=[Ls.getD 0 0,Ls.getD 1 0]++(ls.take i).flatMap fun e=>[Ls.getD e 0,Ls.getD (e^^^1) 0]
theorem half_cx{x y:Nat}:x/2=y/2↔x=y\/x=y^^^1:=by
 have h1:=y_u y
 have h2:=n_o y
 constructor
 ·intro h;lia
 ·rintro (rfl | rfl)
  ·rfl
  ·exact h1
theorem j_e(u:Uf n L0 R)(h:Lb n Ls R)(h0:0<n)(hl:∀ e∈ls,e<2*n){i x:Nat}(hx:x<2*n):Ls.getD x 0∈snL Ls ls i↔R x/2=0\/∃ y∈ls.take i,R y/2=R x/2:=by
 have z0:=u.z0 h0
 have z1:R 1=1:=by have:=u.cx (e:=0) h0;rw [z0] at this;exact this
 unfold snL
 rw [List.mem_append]
 refine or_congr ?_ ?_
 ·simp only [List.mem_cons,List.not_mem_nil,or_false]
  rw [h.2 _ _ hx (show 0<2*n by lia),h.2 _ _ hx (show 1<2*n by lia),z0,z1]
  lia
 ·rw [List.mem_flatMap]
  refine exists_congr fun y=>and_congr_right fun hy=>?_
  have hy2:=hl y (List.mem_of_mem_take hy)
  have d:=y_u y
  simp only [List.mem_cons,List.not_mem_nil,or_false]
  rw [h.2 _ _ hx hy2,h.2 _ _ hx (show y^^^1<2*n by lia),u.cx (e:=y) (by lia),<-half_cx]
  exact eq_comm
theorem dst_no(u:Uf n L0 R)(h:Lb n Ls R)(h0:0<n)(hl:∀ e∈ls,e<2*n){i x:Nat}(hi:ls[i]? = some x)(hm:Ls.getD x 0∈snL Ls ls i):¬Dst R ls:=fun d=>by
 have hxl:=List.mem_of_getElem? hi
 rcases (j_e u h h0 hl (hl x hxl)).mp hm with q | ⟨y,hy,q⟩
 ·exact d.1 x hxl q
 ·obtain ⟨j,hj,e⟩:=List.mem_take_iff_getElem.mp hy
  have hil:=(List.getElem?_eq_some_iff.mp hi).1
  have e1:(ls.map fun e=>R e/2)[j]? = some (R x/2):=by rw [List.getElem?_map,List.getElem?_eq_getElem (by lia),e];show some (R y/2)=_;rw [q]
  have e2:(ls.map fun e=>R e/2)[i]? = some (R x/2):=by rw [List.getElem?_map,hi];rfl
  have:=(List.getElem?_inj (by rw [List.length_map];lia) d.2).mp (e1.trans e2.symm)
  lia
theorem dst_go(u:Uf n L0 R)(h:Lb n Ls R)(h0:0<n)(hl:∀ e∈ls,e<2*n){i x:Nat}(hi:ls[i]? = some x)(hm:Ls.getD x 0∉snL Ls ls i)(d:Dst R (ls.take i)):Dst R (ls.take (i+1)):=by
 have hxl:=List.mem_of_getElem? hi
 have hn:=fun q=>hm ((j_e u h h0 hl (hl x hxl)).mpr q)
 rw [x_w hi]
 refine ⟨fun e he=>?_,?_⟩
 ·rcases List.mem_append.mp he with he | he
  ·exact d.1 e he
  ·rw [List.mem_singleton.mp he]
   exact fun q=>hn (.inl q)
 ·rw [List.map_append]
  refine List.pairwise_append.mpr ⟨d.2,List.pairwise_singleton _ _,fun p hp q hq e=>?_⟩
  obtain ⟨y,hy,rfl⟩:=List.mem_map.mp hp
  have hq':q=R x/2:=List.mem_singleton.mp hq
  exact hn (.inr ⟨y,hy,e.trans hq'⟩)
theorem snL_snoc{i x:Nat}(hi:ls[i]? = some x):snL Ls ls (i+1)=snL Ls ls i++[Ls.getD x 0,Ls.getD (x^^^1) 0]:=by
 unfold snL
 rw [x_w hi,List.flatMap_append,List.append_assoc]
 simp
end
def q_q:Sp:=fun vs H Q _=>∃ (r z:Addr) (rw zs:List Int),vs=[.ref r,.ref z]/\H r=some (.lst (rw.map V.int))/\rw.length=20/\Drawn rw/\H z=some (.lst (zs.map V.int))/\2<=zs.length/\Drawn zs /\
 ∀ (p g:Addr) (rs:List Addr) (L:Nat) (gs:List (Nat×Nat)) H',Same H H'->IsNet H' p g rs (L:Int) (gI gs)->L<=4->gs.length<=10->GtO L gs->Q (.ref p) H'
theorem gI_snoc(gs:List (Nat×Nat))(p:Nat×Nat):gI (gs++[p])=gI gs++[((p.1:Int),(p.2:Int))]:=by unfold gI;rw [List.map_append];rfl
theorem gI_len(gs:List (Nat×Nat)):(gI gs).length=gs.length:=List.length_map _
theorem GtO.snoc{L:Nat}{gs:List (Nat×Nat)}{a b:Nat}(h:GtO L gs)(ha:a<2*(1+L+gs.length))(hb:b<2*(1+L+gs.length)):GtO L (gs++[(a,b)]):=fun k p hp=>by
 by_cases c:k<gs.length
 ·rw [List.getElem?_append_left c] at hp
  exact h k p hp
 ·rw [List.getElem?_append_right (by lia)] at hp
  have hk:k-gs.length=0:=by
   have:=(List.getElem?_eq_some_iff.mp hp).1
   have:[(a,b)].length=1:=rfl
   lia
  rw [hk] at hp
  cases hp
  exact ⟨by show a<_;lia,by show b<_;lia⟩
theorem PrsR.lenS{H:Hp}{g:Addr}{rs:List Addr}{gs:List (Nat×Nat)}(h:PrsR H g rs (gI gs)):rs.length=gs.length:=by rw [Paired.length h.2,gI_len]
theorem PrsR.pushS{H H1:Hp}{b t:Addr}{rs:List Addr}{gs:List (Nat×Nat)}{p:Nat×Nat}(h:PrsR H b rs (gI gs))(s:Same H H1)(ht:H1 t=some (.tup [.int (p.1:Int),.int (p.2:Int)])):PrsR (upd H1 b (.lst (rs.map V.ref++[.ref t]))) b (rs++[t]) (gI (gs++[p])):=by
 have hb:=s _ _ h.1
 have ne:∀ {r:Addr} {xs:List V},H1 r=some (.tup xs)->r≠b:=fun e z=>by rw [z,hb] at e;cases e
 refine ⟨by rw [z_c,List.map_append];rfl,?_⟩
 rw [gI_snoc]
 refine t_u (by rw [z_n (ne ht)];exact ht) (w_x (fun r p e=>?_) h.2)
 have e1:=s _ _ e
 rw [z_n (ne e1)]
 exact e1
theorem r_p{f g:Nat->Nat}:∀ l:List Nat,(l.flatMap fun e=>[f e,g e]).length=2*l.length
 | []=>rfl
 | a::l=>by
  rw [List.flatMap_cons,List.length_append,r_p l,List.length_cons]
  show 2+2*l.length=2*(l.length+1)
  lia
theorem snL_len(Ls ls:List Nat)(i:Nat):(snL Ls ls i).length<=2+2*i:=by
 unfold snL
 rw [List.length_append,r_p,List.length_take]
 show 2+_<=_
 lia
theorem v_s{s rest:TS}{D:Ends}{σ:St}{H:Hp}(M:St->Hp->Prop)(h:∀ R:Ends,(∀ σ J,M σ J->R.nx σ J)->s R σ H)(h2:∀ σ J,M σ J->rest D σ J):tSeq s rest D σ H:=h { D with nx:=rest D } h2
theorem modN(r:Int){m:Nat}(h:0<m):∃ a:Nat,r%(m:Int)=(a:Int)/\a<m :=
 ⟨(r%(m:Int)).toNat,by have:=Int.emod_nonneg r (show (m:Int)≠0 by lia);lia,by have:=Int.emod_lt_of_pos r (show 0<(m:Int) by lia);lia⟩
theorem u_u{ys:List V}{n i a:Nat}(h:∃ ls:List Nat,ys=z_h ls/\ls.length=i/\∀ e∈ls,e<n)(ha:a<n):∃ ls:List Nat,ys++[.int (a:Int)]=z_h ls/\ls.length=i+1/\∀ e∈ls,e<n:=by
 obtain ⟨ls,rfl,h1,h2⟩:=h
 refine ⟨ls++[a],(y_t _ _).symm,by rw [List.length_append,h1];rfl,fun e he=>?_⟩
 rcases List.mem_append.mp he with he | he
 ·exact h2 e he
 ·rw [List.mem_singleton.mp he];exact ha
open PySem
abbrev Ses:=Option (Nat×Nat)
def rpS(H:Hp)(v:V):Option Ses->Prop
 | none=>v = .non
 | some none=>v = .str "low"
 | some (some p)=>∃ t,v = .ref t/\H t=some (.tup [.int (p.1:Int),.int (p.2:Int)])
theorem rpS_ok:RP rpS where
 non:=fun _=>rfl
 nof:=fun h=>h
 som:=fun {H v b} h=>by
  cases b with
  | none=>rw [show v=_ from h];nofun
  | some p=>obtain ⟨t,e,_⟩:=h;rw [e];nofun
 kp:=fun {H J v x} k h=>by
  rcases x with _ | _ | p
  ·exact h
  ·exact h
  ·obtain ⟨t,e,ht⟩:=h
   exact ⟨t,e,k _ _ ht⟩
def jnS(p q:Nat×Nat):Ses:=if (p.1|||q.1)&&&(p.2|||q.2)=0 then some (p.1|||q.1,p.2|||q.2) else none
def bthS:Option Ses->Option Ses->Option Ses
 | some none,_=>some none
 | none,some none=>some none
 | none,none=>none
 | none,some (some _)=>none
 | some (some _),none=>none
 | some (some _),some none=>some none
 | some (some p),some (some q)=>some (jnS p q)
section
variable {β:Type}
def lkG(E:List (Nat×β))(x:Nat):Option β:=(E.find? fun p=>decide (p.1=x)).map Prod.snd
theorem lkG_none{E:List (Nat×β)}{x:Nat}:lkG E x=none↔∀ p∈E,p.1≠x:=by
 unfold lkG
 rw [Option.map_eq_none_iff,List.find?_eq_none]
 simp
theorem o_k(E:List (Nat×β))(p:Nat×β)(x:Nat):lkG (E++[p]) x=match lkG E x with | some w=>some w | none=>if p.1=x then some p.2 else none:=by
 unfold lkG
 rw [List.find?_append]
 cases E.find? fun p=>decide (p.1=x) with
 | some q=>rfl
 | none =>
  rw [Option.none_or,List.find?_cons]
  by_cases e:p.1=x
  ·simp [e]
  ·simp [e]
variable {rp:Hp->V->Option β->Prop}
theorem GvO.new{H:Hp}{kvs:List (Key×V)}{E:List (Nat×β)}{k:Nat}{w:β}{v:V}(h:GvO H rp kvs (lkG E))(hn:lkG E k=none)(hv:rp H v (some w)):GvO H rp (putK kvs (.inl (k:Int)) v) (lkG (E++[(k,w)])):=fun x=>by
 rw [w_z,o_k]
 by_cases c:x=k
 ·subst c
  rw [hn]
  refine ⟨fun e=>by simp at e,fun b e=>⟨v,if_pos rfl,?_⟩⟩
  simp at e
  rw [<-e];exact hv
 ·rw [if_neg (r_u c)]
  cases e:lkG E x with
  | some y=>exact ⟨(fun q=>by cases q),fun b q=>(h x).2 b (e.trans q)⟩
  | none =>
   refine ⟨fun _=>(h x).1 e,fun b q=>?_⟩
   simp [Ne.symm c] at q
theorem GvO.kp{H J:Hp}{kvs:List (Key×V)}{gv:Nat->Option β}(r:RP rp)(h:GvO H rp kvs gv)(k:KpT H J):GvO J rp kvs gv:=fun x=>⟨(h x).1,fun b e=>let ⟨v,a,c⟩:=(h x).2 b e;⟨v,a,r.kp k c⟩⟩
theorem GvO.nil{H:Hp}:GvO H rp [] (lkG ([]:List (Nat×β))):=fun x=>⟨fun _=>rfl,fun b e=>by cases e⟩
end
def gkR(R:Nat->Nat)(zs:List (Nat×Nat)):List (Nat×Ses):=(0,none)::(1,some (0,0))::zs.flatMap fun p=>[(R p.1,some (2^p.2,0)),(R p.1^^^1,some (0,2^p.2))]
theorem gkR_snoc(R:Nat->Nat)(zs:List (Nat×Nat))(p:Nat×Nat):gkR R (zs++[p])=gkR R zs++[(R p.1,some (2^p.2,0))]++[(R p.1^^^1,some (0,2^p.2))]:=by
 unfold gkR
 rw [List.flatMap_append]
 simp
theorem dst_newR{R:Nat->Nat}{ls:List Nat}(hd:Dst R ls){i x:Nat}(hx:ls[i]? = some x):∀ y,y/2=R x/2->lkG (gkR R (ls.zipIdx.take i)) y=none:=by
 intro y hy
 have h0:=hd.1 x (List.mem_of_getElem? hx)
 have hi:=(List.getElem?_eq_some_iff.mp hx).1
 refine lkG_none.mpr fun p hp e=>?_
 unfold gkR at hp
 rcases List.mem_cons.mp hp with rfl | hp
 ·have:(0:Nat)=y:=e
  lia
 rcases List.mem_cons.mp hp with rfl | hp
 ·have:(1:Nat)=y:=e
  lia
 ·obtain ⟨q,hq,hp⟩:=List.mem_flatMap.mp hp
  obtain ⟨j,hj,rfl⟩:=List.getElem_of_mem hq
  rw [List.length_take,List.length_zipIdx] at hj
  rw [List.getElem_take,List.getElem_zipIdx] at hp
  have hk:p.1/2=R ls[j]/2:=by
   simp only [List.mem_cons,List.not_mem_nil,or_false] at hp
   rcases hp with rfl | rfl
   ·rfl
   ·exact (xor1 _).1
  have nd:=hd.2
  have e1:(ls.map fun e=>R e/2)[j]? = some (R x/2):=by
   rw [List.getElem?_map,List.getElem?_eq_getElem (by lia)]
   show some (R ls[j]/2)=_
   rw [<-hk,e,hy]
  have e2:(ls.map fun e=>R e/2)[i]? = some (R x/2):=by rw [List.getElem?_map,hx];rfl
  have:=(List.getElem?_inj (by rw [List.length_map];lia) nd).mp (e1.trans e2.symm)
  lia
def givR(R:Nat->Nat)(ls:List Nat)(e:Nat):Option Ses:=lkG (gkR R ls.zipIdx) (R e)
def valR(R:Nat->Nat)(L:Nat)(gs:List (Nat×Nat))(ls:List Nat)(e:Nat):Option Ses:=gvG (givR R ls) L gs (fun _=>none) bthS e
structure NetG(C:Addr)(H:Hp)(net g o l:Addr)(rs:List Addr)(L n:Nat)(gs:List (Nat×Nat))(R:Nat->Nat):Prop where
 net:IsNet H net g rs (L:Int) (gI gs)
 gt:GtO L gs
 hn:n=1+L+gs.length
 cls:ClsAt C H o l n R
 gl:g≠l
structure StpG(C:Addr)(H:Hp)(net g o l st lt:Addr)(rs:List Addr)(L n:Nat)(a b:Nat)(gs:List (Nat×Nat))(R:Nat->Nat)(ls:List Nat)(w:Str):Prop where
 ng:NetG C H net g o l rs L n gs R
 st:H st=some (.tup [.str w,.int (a:Int),.int (b:Int),.ref lt])
 lt:H lt=some (.tup (z_h ls))
 ha:a<2*n
 hb:b<2*n
 hl:∀ e∈ls,e<2*n
theorem NetG.ch{C:Addr}{H J:Hp}{net g o l:Addr}{rs:List Addr}{L n:Nat}{gs:List (Nat×Nat)}{R:Nat->Nat}(h:NetG C H net g o l rs L n gs R)(c:Ch l H J)(C2:ClsAt C J o l n R):NetG C J net g o l rs L n gs R:=by
 obtain ⟨⟨L0,hl0⟩,_⟩:=h.cls.lst
 exact ⟨h.net.chl c h.gl hl0,h.gt,h.hn,C2,h.gl⟩
theorem StpG.ch{C:Addr}{H J:Hp}{net g o l st lt:Addr}{rs:List Addr}{L n a b:Nat}{gs:List (Nat×Nat)}{R:Nat->Nat}{ls:List Nat}{w:Str}(h:StpG C H net g o l st lt rs L n a b gs R ls w)(c:Ch l H J)(C2:ClsAt C J o l n R):StpG C J net g o l st lt rs L n a b gs R ls w:=by
 obtain ⟨⟨L0,hl0⟩,_⟩:=h.ng.cls.lst
 exact ⟨h.ng.ch c C2,c _ _ (x_k h.st hl0) h.st,c _ _ (x_k h.lt hl0) h.lt,h.ha,h.hb,h.hl⟩
def n_c(C tp:Addr)(lp:Pos)(lq:Str):Sp:=fun vs H Q _=>∃ (net g o l st lt:Addr) (rs:List Addr) (L n a b:Nat) (gs:List (Nat×Nat)) (R:Nat->Nat) (ls:List Nat) (w:Str),vs=[.ref net,.ref o,.ref st]/\StpG C H net g o l st lt rs L n a b gs R ls w/\ls.length<=64/\Dst R ls/\H tp=some (.tbl lp lq) /\
 ∀ p va vb H',Ch l H H'->ClsAt C H' o l n R->H' p=some (.lst [va,vb])->rpS H' va (valR R L gs ls a)->rpS H' vb (valR R L gs ls b)->Q (.ref p) H'
open PySem
def dSe:Option Ses->PyData
 | none=>.none
 | some none=>.str "low"
 | some (some p)=>.tuple [.int (p.1:Int),.int (p.2:Int)]
theorem o_y{K:PySem.W.Frag}{H:Hp}{v:V}:∀ {x:Option Ses},rpS H v x->RdD K H (dSe x) v
 | none,h=>by unfold dSe RdD;exact h
 | some none,h=>by unfold dSe RdD;exact h
 | some (some p),h=>by
  obtain ⟨t,e,ht⟩:=h
  exact (Dat.rd (d:=.tuple [.int (p.1:Int),.int (p.2:Int)]) (by rw [e];exact Dat.tup ht (.cons (.int _) (.cons (.int _) .nil))))
theorem u_n:∀ x:Option Ses,Cmp 64 (dSe x)
 | none=>Cmp.none
 | some none=>⟨by unfold dSe PyData.canLay0;decide +kernel,by unfold dSe PyData.depth;decide⟩
 | some (some p)=>(Cmp.tuple (Cmp.ints [(p.1:Int),(p.2:Int)])).mono (show 1<=64 by decide)
theorem l_u:Cmp 64 (.str "low"):=u_n (some none)
theorem p_a(x y:Option Ses):PyData.eqv (dSe x) (dSe y)=decide (x=y):=by
 rcases x with _ | _ | p<;>rcases y with _ | _ | q<;>try rfl
 show (((p.1:Int) == (q.1:Int))&&((((p.2:Int) == (q.2:Int)))&&true))=decide (some (some p)=some (some q))
 obtain ⟨p1,p2⟩:=p
 obtain ⟨q1,q2⟩:=q
 rw [Bool.and_true]
 by_cases c1:p1=q1
 ·by_cases c2:p2=q2
  ·subst c1 c2;simp
  ·have:¬(p2:Int)=(q2:Int):=by lia
   simp [c1,c2,this]
 ·have:¬(p1:Int)=(q1:Int):=by lia
  simp [c1,this]
theorem p_x(a b:Nat):Builtin.bitAnd (a:Int) (b:Int)=((a&&&b:Nat):Int):=by
 rw [PyProof.Rows.bitAnd_pp (by lia) (by lia),Int.toNat_natCast,Int.toNat_natCast]
theorem k_j(a b:Nat):Builtin.bitOr (a:Int) (b:Int)=((a|||b:Nat):Int):=by
 have h:=PyProof.Rows.nat_or_add_and a b
 rw [PyProof.Rows.bitOr_and,p_x]
 lia
end L2
namespace L2
open PySem PyProof.Rows
open PySem
def Rise(xs:Array Nat):Prop:=xs.toList.Pairwise (· < ·)
theorem Rise.lt{xs:Array Nat}(h:Rise xs){i k x y:Nat}(hx:xs[i]? = some x)(hy:xs[k]? = some y)(c:i<k):x<y:=by
 rw [<-Array.getElem?_toList] at hx hy
 obtain ⟨h1,rfl⟩:=List.getElem?_eq_some_iff.mp hx
 obtain ⟨h2,rfl⟩:=List.getElem?_eq_some_iff.mp hy
 exact List.pairwise_iff_getElem.mp h i k h1 h2 c
def BelO(xs:Array Nat)(j p:Nat):Prop:=p<=xs.size/\(∀ i x,xs[i]? = some x->i<p->x<j)/\∀ i x,xs[i]? = some x->p<=i->j<=x
theorem s_h{xs:Array Nat}{j:Nat}(R:Rise xs):∀ (fuel lo hi:Nat),lo<=hi->hi<=xs.size->hi-lo<=fuel->(∀ i x,xs[i]? = some x->i<lo->x<j)->(∀ i x,xs[i]? = some x->hi<=i->j<=x)->BelO xs j (SetTable.below.go xs j fuel lo hi)
 | 0,lo,hi,h1,h2,h3,h4,h5=>⟨by show lo<=_;lia,h4,fun i x hx hi'=>h5 i x hx (by have:lo<=i:=hi';lia)⟩
 | fuel+1,lo,hi,h1,h2,h3,h4,h5=>by
  unfold SetTable.below.go
  by_cases c:lo<hi
  ·rw [if_pos c]
   have hm:(lo+hi)/2<xs.size:=by lia
   have hv:xs[(lo+hi)/2]? = some xs[(lo+hi)/2]:=Array.getElem?_eq_getElem hm
   have e:xs.getD ((lo+hi)/2) j=xs[(lo+hi)/2]:=by rw [Array.getD_eq_getD_getElem?,hv];rfl
   dsimp only
   rw [e]
   by_cases d:xs[(lo+hi)/2]<j
   ·rw [if_pos d]
    refine s_h R fuel _ _ (by lia) h2 (by lia) (fun i x hx hi'=>?_) h5
    rcases Nat.lt_or_ge i ((lo+hi)/2) with q | q
    ·exact Nat.lt_trans (R.lt hx hv q) d
    ·have:i=(lo+hi)/2:=by lia
     subst this
     rw [hv] at hx
     cases hx
     exact d
   ·rw [if_neg d]
    refine s_h R fuel _ _ (by lia) (by lia) (by lia) h4 fun i x hx hi'=>?_
    rcases Nat.lt_or_ge ((lo+hi)/2) i with q | q
    ·have:=R.lt hv hx q
     lia
    ·have:i=(lo+hi)/2:=by lia
     subst this
     rw [hv] at hx
     cases hx
     lia
  ·rw [if_neg c]
   exact ⟨by lia,h4,fun i x hx hi'=>h5 i x hx (by lia)⟩
theorem v_f{xs:Array Nat}(R:Rise xs)(j:Nat):BelO xs j (SetTable.below xs j):=by
 unfold SetTable.below
 exact s_h R _ _ _ (Nat.zero_le _) (Nat.le_refl _) (by lia) (fun i x _ h=>absurd h (Nat.not_lt_zero _)) fun i x hx h=>by
  have:=(Array.getElem?_eq_some_iff.mp hx).1
  lia
theorem u_a{α:Type}(xs:Array α)(p:Nat)(x:α):(SetTable.insertAt xs p x).toList=xs.toList.take p++x::xs.toList.drop p:=by
 unfold SetTable.insertAt
 rw [Array.toList_append,Array.toList_push,Array.toList_extract,Array.toList_extract,List.extract_eq_take_drop,List.extract_eq_take_drop,List.drop_zero,Nat.sub_zero,List.append_assoc]
 congr 1
 rw [List.take_of_length_le (by rw [List.length_drop,Array.length_toList];lia)]
 rfl
theorem Rise.put{xs:Array Nat}(R:Rise xs){j:Nat}(h:xs[SetTable.below xs j]? ≠ some j):Rise (SetTable.insertAt xs (SetTable.below xs j) j):=by
 obtain ⟨h1,h2,h3⟩:=v_f R j
 generalize SetTable.below xs j=p at h h1 h2 h3
 unfold Rise
 rw [u_a]
 refine List.pairwise_append.mpr ⟨List.Pairwise.sublist (List.take_sublist _ _) R,List.pairwise_cons.mpr ⟨fun y hy=>?_,List.Pairwise.sublist (List.drop_sublist _ _) R⟩,fun x hx y hy=>?_⟩
 ·obtain ⟨i,hi⟩:=List.getElem?_of_mem hy
  rw [List.getElem?_drop,Array.getElem?_toList] at hi
  have g:=h3 _ _ hi (by lia)
  rcases Nat.lt_or_eq_of_le g with q | q
  ·exact q
  ·exfalso
   subst q
   rcases Nat.eq_zero_or_pos i with z | z
   ·subst z
    exact h hi
   ·cases e:xs[p]? with
    | none =>
     have a:=Array.getElem?_eq_none_iff.mp e
     have b:=(Array.getElem?_eq_some_iff.mp hi).1
     lia
    | some w =>
     have a:=h3 _ _ e (Nat.le_refl _)
     have b:=R.lt e hi (by lia)
     lia
 ·obtain ⟨i,hi⟩:=List.getElem?_of_mem hx
  have hip:i<p:=by
   have:=(List.getElem?_eq_some_iff.mp hi).1
   rw [List.length_take] at this
   lia
  rw [List.getElem?_take_of_lt hip,Array.getElem?_toList] at hi
  have g:=h2 _ _ hi hip
  rcases List.mem_cons.mp hy with rfl | hy
  ·exact g
  ·obtain ⟨k,hk⟩:=List.getElem?_of_mem hy
   rw [List.getElem?_drop,Array.getElem?_toList] at hk
   have:=h3 _ _ hk (by lia)
   lia
theorem below_at{xs:Array Nat}(R:Rise xs){i x:Nat}(hx:xs[i]? = some x):SetTable.below xs (x+1)=i+1:=by
 obtain ⟨h1,h2,h3⟩:=v_f R (x+1)
 generalize SetTable.below xs (x+1)=p at h1 h2 h3
 have hs:=(Array.getElem?_eq_some_iff.mp hx).1
 rcases Nat.lt_trichotomy p (i+1) with q | q | q
 ·have:=h3 _ _ hx (by lia)
  lia
 ·exact q
 ·have hv:xs[i+1]? = some xs[i+1]:=Array.getElem?_eq_getElem (by lia)
  have a:=h2 _ _ hv q
  have b:=R.lt hx hv (by lia)
  lia
theorem n_i{xs:Array Nat}(R:Rise xs):SetTable.below xs 0=0:=by
 obtain ⟨h1,h2,h3⟩:=v_f R 0
 generalize SetTable.below xs 0=p at h1 h2 h3
 rcases Nat.eq_zero_or_pos p with q | q
 ·exact q
 ·have:=h2 0 xs[0] (Array.getElem?_eq_getElem (by lia)) q
  lia
theorem t_b{t:SetTable}{hashAt:Nat->Int}{h:Int}:∀ (fuel:Nat) (p:SetTable.Probe) (j:Nat) (d:Option Nat),SetTable.probe.go t hashAt h fuel p=some (.empty j d)->t.slot j = .empty
 | 0,p,j,d,e=>by cases e
 | fuel+1,p,j,d,e=>by
  unfold SetTable.probe.go at e
  split at e
  ·cases e;assumption
  ·exact t_b fuel _ j d e
  ·split at e
   ·cases e
   ·exact t_b fuel _ j d e
theorem s_w{t:SetTable}{h:Int}:∀ (fuel:Nat) (p:SetTable.Probe) (j i:Nat) (q:SetTable.Probe),SetTable.probe.go t (fun _=>h+1) h fuel p≠some (.candidate j i q)
 | 0,p,j,i,q=>by intro e;cases e
 | fuel+1,p,j,i,q=>by
  intro e
  unfold SetTable.probe.go at e
  split at e
  ·cases e
  ·exact s_w fuel _ j i q e
  ·split at e
   ·rename_i c
    have:h+1=h:=by simpa using c
    lia
   ·exact s_w fuel _ j i q e
theorem free_tb{t:SetTable}{n:Nat}(T:Tb t n)(h:Int):∃ j,t.freeSlot h=some (j,false)/\t.slot j = .empty:=by
 obtain ⟨k,hk,he⟩:=T.start h
 rcases k_t (hashAt:=fun _=>h+1) (h:=h) T.dum he hk rfl with ⟨j,e⟩ | ⟨j,i,q,m,e,_⟩
 ·refine ⟨j,by unfold SetTable.freeSlot;rw [e];rfl,t_b _ _ j none e⟩
 ·exact absurd e (s_w _ _ j i q)
theorem j_d{t:SetTable}{j:Nat}(h:t.slot j = .empty):t.place[SetTable.below t.place j]? ≠ some j:=fun e=>by
 unfold SetTable.slot at h
 simp [e] at h
structure Tw(t:SetTable)(n:Nat)(led:Bool):Prop where
 tb:Msk t.mask
 dum:t.dummies = #[]
 size:t.place.size=n
 rise:Rise t.place
 led:t.led=led
 plain:t.plain=true
theorem Tw.fits{t:SetTable}{n:Nat}{led:Bool}(T:Tw t n led)(h:n<=t.mask):t.fits n=true:=by
 unfold SetTable.fits SetTable.fill
 rw [T.dum,T.size]
 simp
 lia
theorem has_nil(j:Nat):SetTable.has #[] j=false:=by
 unfold SetTable.has
 simp
theorem l_s{t:SetTable}{n:Nat}{led:Bool}{es:Array (Int×Value)}(T:Tw t n led)(hr:n*5<t.mask*3)(hn:es.size=n)(h:Int)(x:Value) :
  ∃ p t',layNew t es h x=(SetTable.insertAt es p (h,x),t',false,false)/\Tw t' (n+1) led/\t'.mask=t.mask:=by
 obtain ⟨j,h1,h2⟩:=free_tb ⟨T.tb,T.dum,T.size,hr⟩ h
 have hg:=j_d h2
 have hrr:=T.rise.put hg
 have hm:7<=t.mask:=by rcases T.tb with e | e | e<;>lia
 have hT:Tw ({ t with place:=SetTable.insertAt t.place (SetTable.below t.place j) j,dummies:=if SetTable.has t.dummies j then SetTable.eraseAt t.dummies (SetTable.below t.dummies j) else t.dummies }) (n+1) led:=by
  refine ⟨T.tb,?_,?_,hrr,T.led,T.plain⟩
  ·show (if SetTable.has t.dummies j then SetTable.eraseAt t.dummies (SetTable.below t.dummies j) else t.dummies) = #[]
   rw [T.dum,has_nil]
   rfl
  ·show (SetTable.insertAt t.place (SetTable.below t.place j) j).size=n+1
   rw [<-Array.length_toList,u_a,List.length_append,List.length_cons,List.length_take,List.length_drop,Array.length_toList,T.size]
   have:=(v_f T.rise j).1
   rw [T.size] at this
   lia
 have hs:(SetTable.insertAt es (SetTable.below t.place j) (h,x)).size=n+1:=by
  rw [<-Array.length_toList,u_a,List.length_append,List.length_cons,List.length_take,List.length_drop,Array.length_toList,hn]
  have:=(v_f T.rise j).1
  rw [T.size] at this
  lia
 have hf:=hT.fits (show n+1<=t.mask by lia)
 refine ⟨SetTable.below t.place j,_,?_,hT,rfl⟩
 unfold layNew
 rw [h1]
 dsimp only [SetTable.put]
 unfold SetTable.orStandIn
 rw [hs,hf]
 rfl
def Own2(m:Nat)(owner:Array (Option Nat))(k:Nat):Prop:=Own m owner k/\(owner.toList.filterMap id).Nodup
theorem Own2.next{m k:Nat}{owner:Array (Option Nat)}(hm:Msk m)(O:Own2 m owner k)(hk:k<=m)(h:Int):∃ j,SetTable.layClean.free m owner (SetTable.turns m) (SetTable.bits h%(m+1)) (SetTable.bits h)=some j/\Own2 m (owner.setIfInBounds j (some k)) (k+1):=by
 obtain ⟨j,h1,O1⟩:=O.1.next hm hk h
 refine ⟨j,h1,O1,?_⟩
 have hc1:=O1.cnt
 have hc:=O.1.cnt
 have hj:owner[j]? = some none:=by
  cases e:owner[j]? with
  | none =>
   exfalso
   have hge:owner.size<=j:=Array.getElem?_eq_none_iff.mp e
   rw [show owner.setIfInBounds j (some k)=owner by unfold Array.setIfInBounds;rw [dif_neg (by lia)]] at hc1
   lia
  | some v =>
   cases v with
   | none=>rfl
   | some y =>
    exfalso
    have hlt:=(Array.getElem?_eq_some_iff.mp e).1
    have e2:owner.toList[j]? = some (some y):=by rw [Array.getElem?_toList];exact e
    rw [Array.toList_setIfInBounds,List.countP_set (by rw [Array.length_toList];exact hlt)] at hc1
    have e3:=(List.getElem?_eq_some_iff.mp e2).2
    rw [e3] at hc1
    simp only [Option.isSome_some,if_true] at hc1
    have:0<owner.toList.countP Option.isSome:=List.countP_pos_iff.mpr ⟨some y,List.mem_of_getElem? e2,rfl⟩
    lia
 have hlt:=(Array.getElem?_eq_some_iff.mp hj).1
 have e2:owner.toList[j]? = some none:=by rw [Array.getElem?_toList];exact hj
 have hl:j<owner.toList.length:=by rw [Array.length_toList];exact hlt
 have sp:owner.toList=owner.toList.take j++none::owner.toList.drop (j+1):=by
  conv=>lhs;rw [<-List.take_append_drop j owner.toList]
  rw [List.drop_eq_getElem_cons hl,(List.getElem?_eq_some_iff.mp e2).2]
 have ss:(owner.setIfInBounds j (some k)).toList=owner.toList.take j++some k::owner.toList.drop (j+1):=by
  rw [Array.toList_setIfInBounds,List.set_eq_take_append_cons_drop,if_pos hl]
 have nd:=O.2
 rw [sp,List.filterMap_append,List.filterMap_cons] at nd
 rw [ss,List.filterMap_append,List.filterMap_cons]
 show ((owner.toList.take j).filterMap id++k::(owner.toList.drop (j+1)).filterMap id).Nodup
 have nd':((owner.toList.take j).filterMap id++(owner.toList.drop (j+1)).filterMap id).Nodup:=nd
 have low:∀ x∈(owner.toList.take j).filterMap id++(owner.toList.drop (j+1)).filterMap id,x<k:=fun x hx=>by
  refine O.1.low x ?_
  rcases List.mem_append.mp hx with hx | hx
  ·obtain ⟨y,hy,rfl⟩:=List.mem_filterMap.mp hx
   exact List.mem_of_mem_take hy
  ·obtain ⟨y,hy,rfl⟩:=List.mem_filterMap.mp hx
   exact List.mem_of_mem_drop hy
 obtain ⟨n1,n2,n3⟩:=List.pairwise_append.mp nd'
 refine List.pairwise_append.mpr ⟨n1,List.pairwise_cons.mpr ⟨fun y hy e=>?_,n2⟩,fun x hx y hy e=>?_⟩
 ·have:=low y (List.mem_append_right _ hy)
  lia
 ·rcases List.mem_cons.mp hy with rfl | hy
  ·have:=low x (List.mem_append_left _ hx)
   lia
  ·exact n3 x hx y hy e
theorem r_r{m:Nat}(hm:Msk m):∀ (hs:List Int) (owner:Array (Option Nat)) (k:Nat),Own2 m owner k->k+hs.length<=m+1 ->
  ∃ ow,hs.foldl (fun acc h=>do
   let (owner,k) <-acc
   let j <-SetTable.layClean.free m owner (SetTable.turns m) (SetTable.bits h%(m+1)) (SetTable.bits h)
   pure (owner.setIfInBounds j (some k),k+1)) (some (owner,k))=some (ow,k+hs.length)/\Own2 m ow (k+hs.length)
 | [],owner,k,O,_=>⟨owner,rfl,O⟩
 | h::hs,owner,k,O,hl=>by
  rw [List.length_cons] at hl
  obtain ⟨j,h1,O1⟩:=O.next hm (by lia) h
  obtain ⟨ow,h2,O2⟩:=r_r hm hs _ _ O1 (by lia)
  refine ⟨ow,?_,by rw [List.length_cons,show k+(hs.length+1)=k+1+hs.length by lia];exact O2⟩
  rw [List.foldl_cons,List.length_cons,show k+(hs.length+1)=k+1+hs.length by lia,<-h2]
  congr 1
  show (SetTable.layClean.free m owner (SetTable.turns m) (SetTable.bits h%(m+1)) (SetTable.bits h) >>= _)=_
  rw [h1]
  rfl
theorem lay_own2{m:Nat}(hm:Msk m)(hs:Array Int)(hl:hs.size<=m+1):∃ ow,SetTable.layClean m hs=some ow/\Own2 m ow hs.size:=by
 obtain ⟨ow,h1,h2⟩:=r_r hm hs.toList _ 0 ⟨o_r m,by rw [Array.toList_replicate];simp [List.filterMap_replicate_of_none]⟩ (by rw [Array.length_toList];lia)
 rw [Nat.zero_add,Array.length_toList] at h2
 refine ⟨ow,?_,h2⟩
 unfold SetTable.layClean
 rw [<-Array.foldl_toList]
 rw [h1]
 rfl
theorem m_k{xs:List Nat}{n:Nat}(nd:xs.Nodup)(h1:∀ x∈xs,x<n)(h2:xs.length=n):xs.Perm (List.range n):=by
 refine (List.perm_ext_iff_of_nodup nd List.nodup_range).mpr fun a=>⟨fun h=>List.mem_range.mpr (h1 a h),fun h=>?_⟩
 refine Classical.byContradiction fun c=>?_
 have:=u_d (xs:=a::xs) (ys:=List.range n) (List.pairwise_cons.mpr ⟨fun y hy e=>c (e▸hy),nd⟩) fun x hx=>by
  rcases List.mem_cons.mp hx with rfl | hx
  ·exact h
  ·exact List.mem_range.mpr (h1 x hx)
 rw [List.length_cons,List.length_range] at this
 lia
theorem own_list{m:Nat}{ow:Array (Option Nat)}(h:ow.size=m+1):(((List.range (m+1)).filterMap fun j=>(ow.getD j none).map (j,·)).map (·.2))=ow.toList.filterMap id:=by
 have e:ow.toList=(List.range (m+1)).map fun j=>ow.getD j none:=by
  apply List.ext_getElem?
  intro i
  rw [List.getElem?_map,Array.getElem?_toList]
  by_cases c:i<m+1
  ·rw [List.getElem?_range c,Array.getElem?_eq_getElem (by lia)]
   show _=some (ow.getD i none)
   rw [Array.getD_eq_getD_getElem?,Array.getElem?_eq_getElem (by lia)]
   rfl
  ·rw [Array.getElem?_eq_none (by lia),List.getElem?_eq_none (by rw [List.length_range];lia)]
   rfl
 conv=>rhs;rw [e]
 rw [List.filterMap_map,List.map_filterMap]
 congr 1
 funext j
 show ((ow.getD j none).map (j,·)).map (·.2)=ow.getD j none
 cases ow.getD j none<;>rfl
theorem laid_tw{m finger moves:Nat}{led:Bool}(hm:Msk m)(hs:Array Int)(hl:hs.size<=m) :
  ∃ t order,SetTable.laid m finger moves led true hs=some (t,order)/\t.mask=m/\Tw t hs.size led/\order.toList.Perm (List.range hs.size):=by
 obtain ⟨t0,o0,e0,m0,d0,p0,q0,l0⟩:=l_q (finger:=finger) (moves:=moves) (led:=led) (plain:=true) hm hs (by lia)
 obtain ⟨ow,h1,O⟩:=lay_own2 hm hs (by lia)
 have e1:SetTable.laid m finger moves led true hs=some ({ mask:=m,place:=(((List.range (m+1)).filterMap fun j=>(ow.getD j none).map (j,·)).map (·.1)).toArray,dummies:=#[],finger,led,moves,plain:=true },(((List.range (m+1)).filterMap fun j=>(ow.getD j none).map (j,·)).map (·.2)).toArray):=by
  unfold SetTable.laid
  rw [h1]
  rfl
 rw [e1] at e0
 injection e0 with e0
 injection e0 with e2 e3
 subst e2 e3
 refine ⟨_,_,e1,rfl,⟨hm,rfl,p0,?_,rfl,rfl⟩,?_⟩
 ·unfold Rise
  rw [List.toList_toArray]
  refine List.pairwise_map.mpr (List.Pairwise.filterMap _ (fun a a' lt b hb b' hb'=>?_) List.pairwise_lt_range)
  obtain ⟨v,_,rfl⟩:=Option.map_eq_some_iff.mp hb
  obtain ⟨v',_,rfl⟩:=Option.map_eq_some_iff.mp hb'
  exact lt
 ·rw [<-Array.length_toList] at q0
  rw [List.toList_toArray] at q0 l0 ⊢
  refine m_k ?_ l0 q0
  rw [own_list O.1.size]
  exact O.2
theorem o_w{α:Type}:∀ l:List α,(List.range l.length).filterMap (l[·]?)=l
 | []=>rfl
 | a::l=>by
  rw [List.length_cons,List.range_succ_eq_map,List.filterMap_cons,List.filterMap_map]
  show a::(List.range l.length).filterMap (fun i=>(a::l)[i+1]?)=a::l
  congr 1
  exact o_w l
theorem fm_perm{α:Type}{es:Array α}{order:Array Nat}(h:order.toList.Perm (List.range es.size)):(order.filterMap (es[·]?)).toList.Perm es.toList:=by
 rw [Array.toList_filterMap]
 refine (h.filterMap _).trans (List.Perm.of_eq ?_)
 have:=o_w es.toList
 rw [Array.length_toList] at this
 simp only [Array.getElem?_toList] at this
 exact this
theorem p_o{t:SetTable}{n:Nat}{led:Bool}{es:Array (Int×Value)}(T:Tw t n led)(hn:es.size=n)(hf:n*5≥t.mask*3)(hr:(n-1)*5<t.mask*3)(h64:n<=64) :
  ∃ es' t',relayAll t es (SetTable.grown n)=(es',t',false)/\es'.toList.Perm es.toList/\Tw t' n led/\n*5<t'.mask*3:=by
 obtain ⟨M,hM,eM,hro⟩:∃ M,Msk M/\SetTable.sizeAbove (SetTable.grown n)=M+1/\n*5<M*3:=by
  rcases T.tb with e | e | e<;>rw [e] at hr hf
  ·obtain rfl:n=5:=by lia
   exact ⟨31,.inr (.inl rfl),by decide,by decide⟩
  ·obtain rfl:n=19:=by lia
   exact ⟨127,.inr (.inr rfl),by decide,by decide⟩
  ·lia
 obtain ⟨t3,order,e3,hmask,T3,hp⟩:=laid_tw (finger:=t.finger) (moves:=t.movedTo M) (led:=t.led) hM (es.map (·.1)) (by rw [Array.size_map];lia)
 rw [Array.size_map] at T3 hp
 have hpe:=fm_perm hp
 have hse:(order.filterMap (es[·]?)).size=n:=by rw [<-Array.length_toList,hpe.length_eq,Array.length_toList,hn]
 rw [hn,T.led] at T3
 have hfit:=T3.fits (show n<=t3.mask by rw [hmask];lia)
 refine ⟨_,t3,?_,hpe,T3,by rw [hmask];exact hro⟩
 unfold relayAll SetTable.relaid
 rw [eM,Nat.add_sub_cancel,T.plain,e3]
 dsimp only
 rw [hse,hfit]
 unfold coversAll
 rw [List.isPerm_iff.mpr hp]
 rfl
open PySem PySem.Spec PyProof.Rows
section
variable {prog:Program} {w:World} {K:Type} [DecidableEq K] {knd:KeyKind prog w K} {A:Around} {E:Value->Shared->Prop} {s:Shared}
def Dis(knd:KeyKind prog w K)(l:List (Int×Value)):Prop:=l.Pairwise fun e e'=>∀ k,¬(knd.is k e.2=true/\knd.is k e'.2=true)
theorem Dis.perm{l l':List (Int×Value)}(h:Dis knd l)(p:l.Perm l'):Dis knd l':=(p.pairwise_iff (fun {a b} h k q=>h k ⟨q.2,q.1⟩)).mp h
def SetX(knd:KeyKind prog w K)(h:Heap)(a:Addr)(S:K->Bool)(n:Nat)(led:Bool):Prop :=
 ∃ o es ep t,h.get? a=some o/\o.ExactSet/\o.data = .set es ep t/\ElemsOf knd es.toList/\(∀ k,S k=true↔∃ e∈es.toList,knd.is k e.2=true)/\Tw t es.size led/\es.size*5<t.mask*3/\es.size=n/\n<=64/\Dis knd es.toList
theorem msk_le{m:Nat}(h:Msk m):7<=m/\m<=127:=by rcases h with e | e | e<;>lia
theorem o_g(es:Array (Int×Value))(p:Nat)(x:Int×Value):(SetTable.insertAt es p x).toList.Perm (x::es.toList):=by
 rw [u_a]
 refine List.perm_middle.trans ?_
 rw [List.take_append_drop]
theorem ins_size(es:Array (Int×Value))(p:Nat)(x:Int×Value):(SetTable.insertAt es p x).size=es.size+1:=by rw [<-Array.length_toList,(o_g es p x).length_eq,List.length_cons,Array.length_toList]
set_option maxHeartbeats 1000000 in
theorem wp_addX{a:Addr}{S:K->Bool}{n:Nat}{led:Bool}{k:K}{x:Value}{Q:Bool->Shared->Prop}(hkey:knd.is k x=true)(hsc:x.scannable=true)(hbv:hashByValue 8 x=pure true)(hS:SetX knd s.heap a S n led)(h64:n+1<=64)
  (h:∀ h',Heap.SameBut a s.heap h'->SetX knd h' a (fun k'=>S k' || decide (k'=k)) (if S k then n else n+1) led->Q (!S k) { s with heap:=h' }) :
  wpAny (model prog w) A (setAddHashed a x (knd.hash k)) Q E s:=by
 obtain ⟨o,es,ep,t,ho,hex,hd,hel,hmem,T,hr,hn,_,hdis⟩:=hS
 have hm:=msk_le T.tb
 have hf:=T.fits (show es.size<=t.mask by lia)
 have hsb:scanBound=4096:=rfl
 unfold setAddHashed setAddHashedIn
 refine wpAny_holding (wpAny_bind (wpAny_setState_of ho hd hf ?_))
 dsimp only
 rw [byScan_of hsc (by lia) hel]
 simp only [↓reduceIte]
 unfold setAddByScan
 refine wpAny_bind (wpAny_bind (wpAny_rule (wpAny_bind (wpAny_setScan_of hkey ho hd hf hel ?_))))
 cases hr0:List.findIdx? (fun e=>knd.is k e.2) es.toList with
 | some j =>
  dsimp only
  obtain ⟨hj,hpj,_⟩:=List.findIdx?_eq_some_iff_getElem.mp hr0
  have hSk:S k=true:=(hmem k).mpr ⟨es.toList[j],List.getElem_mem hj,hpj⟩
  have:=h s.heap (Heap.SameBut.refl a s.heap) ⟨o,es,ep,t,ho,hex,hd,hel,fun k'=>by
   rw [Bool.or_eq_true,decide_eq_true_eq,<-hmem k']
   exact ⟨fun hk=>hk.elim id (fun e=>e▸hSk),.inl⟩,T,hr,by rw [hSk];exact hn,by rw [hSk];show n<=64;lia,hdis⟩
  rw [hSk] at this
  exact wpAny_pure (wpAny_pure this)
 | none =>
  dsimp only
  have hno:∀ e∈es.toList,knd.is k e.2=false:=fun e he=>by simpa using List.findIdx?_eq_none_iff.mp hr0 e he
  have hSk:S k=false:=by
   cases hk:S k with
   | false=>rfl
   | true =>
    obtain ⟨e,he,hp⟩:=(hmem k).mp hk
    rw [hno e he] at hp
    cases hp
  obtain ⟨p,t1,hL,T1,hmk⟩:=l_s T hr rfl (knd.hash k) x
  rw [hL]
  dsimp only
  have hp1:=o_g es p (knd.hash k,x)
  have hz1:=ins_size es p (knd.hash k,x)
  have hel1:ElemsOf knd ((knd.hash k,x)::es.toList):=fun e he=>by
   rcases List.mem_cons.mp he with rfl | he
   ·exact ⟨⟨k,hkey,rfl⟩,hsc⟩
   ·exact hel e he
  have hmem1:∀ k',(S k' || decide (k'=k))=true↔∃ e∈(knd.hash k,x)::es.toList,knd.is k' e.2=true:=fun k'=>by
   rw [Bool.or_eq_true,decide_eq_true_eq,hmem k']
   constructor
   ·rintro (⟨e,he,q⟩ | rfl)
    ·exact ⟨e,List.mem_cons_of_mem _ he,q⟩
    ·exact ⟨_,List.mem_cons_self,hkey⟩
   ·rintro ⟨e,he,q⟩
    rcases List.mem_cons.mp he with rfl | he
    ·refine .inr ?_
     have:=KeyKind.is_eq_decide hkey k'
     rw [this] at q
     exact of_decide_eq_true q
    ·exact .inl ⟨e,he,q⟩
  have hdis1:Dis knd ((knd.hash k,x)::es.toList):=List.pairwise_cons.mpr ⟨(fun e he k' q=>by
   have:=KeyKind.is_eq_decide hkey k'
   rw [this] at q
   have e2:=of_decide_eq_true q.1
   subst e2
   have:=hno e he
   rw [this] at q
   exact Bool.false_ne_true q.2),hdis⟩
  have fin:∀ (h':Heap) (es2:Array (Int×Value)) (o2:Obj) (ep2:Nat) (t2:SetTable),Heap.SameBut a s.heap h'->h'.get? a=some o2->o2.ExactSet->o2.data = .set es2 ep2 t2->es2.toList.Perm ((knd.hash k,x)::es.toList)->Tw t2 es2.size led->es2.size*5<t2.mask*3->Q true { s with heap:=h' }:=fun h' es2 o2 ep2 t2 sb g1 g2 g3 pm T2 r2=>by
   have hz:es2.size=n+1:=by rw [<-Array.length_toList,pm.length_eq,List.length_cons,Array.length_toList,hn]
   have:=h h' sb ⟨o2,es2,ep2,t2,g1,g2,g3,fun e he=>hel1 e (pm.mem_iff.mp he),fun k'=>by
    rw [hmem1 k']
    exact ⟨fun ⟨e,he,q⟩=>⟨e,pm.mem_iff.mpr he,q⟩,fun ⟨e,he,q⟩=>⟨e,pm.mem_iff.mp he,q⟩⟩,T2,r2,by rw [hSk];exact hz,by rw [hSk];exact h64,hdis1.perm pm.symm⟩
   rw [hSk] at this
   exact this
  refine wpAny_bind (wpAny_pure ?_)
  rw [if_pos T1.plain,hbv]
  refine wpAny_bind (wpAny_pure ?_)
  simp only [if_true]
  have hz2:(SetTable.insertAt es p (knd.hash k,x)).size<=64:=by rw [hz1];lia
  have hg:=k_u ho hd (SetTable.insertAt es p (knd.hash k,x)) t1
  have hsb1:=Heap.SameBut.update s.heap a (Obj.putSet (SetTable.insertAt es p (knd.hash k,x)) t1)
  have T1':Tw t1 (SetTable.insertAt es p (knd.hash k,x)).size led:=by rw [hz1];exact T1
  have hfill:t1.fill=(SetTable.insertAt es p (knd.hash k,x)).size:=by unfold SetTable.fill;rw [T1'.dum,T1'.size];rfl
  refine wpAny_bind (wpAny_storeSet_of ho hd ?_ (by rw [sizeLine_eq];lia))
  generalize SetTable.insertAt es p (knd.hash k,x)=es1 at hp1 hz1 hz2 hg hsb1 T1' hfill ⊢
  by_cases c:t1.tooFull=true
  ·rw [if_pos (by rw [c];rfl)]
   have hc:es1.size*5≥t1.mask*3:=by
    unfold SetTable.tooFull at c
    rw [hfill] at c
    exact of_decide_eq_true c
   obtain ⟨es2,t2,hR,hp2,T2,r2⟩:=p_o T1' rfl hc (by rw [hz1,hmk];exact hr) hz2
   rw [hR]
   dsimp only
   refine wpAny_bind (wpAny_pure (wpAny_bind (wpAny_storeSet_of hg rfl ?_ (by rw [<-Array.length_toList,hp2.length_eq,Array.length_toList,sizeLine_eq];lia))))
   have hz3:es2.size=es1.size:=by rw [<-Array.length_toList,hp2.length_eq,Array.length_toList]
   refine wpAny_pure (wpAny_pure (fin _ es2 _ _ t2 (hsb1.trans (Heap.SameBut.update _ a _)) (k_u hg rfl es2 t2) hex rfl (hp2.trans hp1) (by rw [hz3];exact T2) (by rw [hz3];exact r2)))
  ·rw [if_neg (by rw [Bool.eq_false_iff.mpr c];decide)]
   have hc:es1.size*5<t1.mask*3:=by
    have c2:=Bool.eq_false_iff.mpr c
    unfold SetTable.tooFull at c2
    rw [hfill] at c2
    have:=of_decide_eq_false c2
    lia
   exact wpAny_pure (wpAny_pure (fin _ es1 _ _ t1 hsb1 hg hex rfl hp1 T1' hc))
end
open PySem PySem.Spec PyProof.Rows
section
variable {prog:Program} {w:World} {K:Type} [DecidableEq K] {knd:KeyKind prog w K} {A:Around} {E:Value->Shared->Prop} {s:Shared}
theorem SetX.moved{h h':Heap}{a:Addr}{S:K->Bool}{n:Nat}{led:Bool}(x:SetX knd h a S n led)(e:∀ o,h.get? a=some o->h'.get? a=some o):SetX knd h' a S n led:=by
 obtain ⟨o,es,ep,t,h1,r⟩:=x
 exact ⟨o,es,ep,t,e _ h1,r⟩
theorem SetX.eq{h:Heap}{a:Addr}{S S':K->Bool}{n:Nat}{led:Bool}(x:SetX knd h a S n led)(e:∀ k,S k=S' k):SetX knd h a S' n led:=by
 obtain ⟨o,es,ep,t,h1,h2,h3,h4,h5,r⟩:=x
 exact ⟨o,es,ep,t,h1,h2,h3,h4,fun k=>by rw [<-e k];exact h5 k,r⟩
def ldW(w:World):Bool:=!w.params.followText "set-order"
theorem new_setX(v:Value){Q1:Value->Shared->Prop}(h:Q1 (.ref s.heap.objs.size) (withSet s (ldW w))):codeAny (model prog w) A (.call (.builtin "set.__new__") ⟨[.type "set",v],[]⟩) (wants Q1 E) s:=by
 refine codeAny_of_tree (show wpAny _ A.in1 (do checkBuiltinCall "set.__new__" ⟨[.type "set",v],[]⟩;again (.builtin "set.__new__" ⟨[.type "set",v],[]⟩)) _ _ s from ?_)
 refine wpAny_bind (wpAny_of_eq (F.newCall_set_1 v) (wpAny_pure ⟨plainId_quiet F.plain_set_new _,codeAny_builtin F.entry_set_new ?_⟩))
 rw [Around.under_plainId F.plain_set_new _]
 unfold Builtin.«set.__new__» Builtin.Frozenset.newClass
 have hsub:=sub_set_self
 obtain ⟨hp,g,d,tk,os⟩:=s
 dsimp only
 wp_walk
 refine wpAny_askSetting (wpAny_pure ?_)
 dsimp only
 simp only [newObj]
 exact wpAny_bind (wpAny_alloc (wpAny_pure (wpAny_pure h)))
theorem loopX{R:Result->Shared->Prop}{I:Addr}{fp wr:List Addr}{G:Array GenState->Array GenState->Prop}{n:Nat}{P:Nat->Value->Prop}{St:Nat->Shared->Prop}{led:Bool}
  (W:WalksS prog w A.in1 I fp wr G n P St) (S:Addr) (far:S∉fp) (ks:List K) (d0:K) (hl:ks.length=n) (hn:n<=64) (h0:Heap)
  (ky:∀ i v,P i v->knd.is (ks.getD i d0) v=true/\v.scannable=true/\hashByValue 8 v=pure true) (h0S:h0.get? S=none) (h0w:∀ b∈wr,h0.get? b=none) (uz:A.units+2<cLine) :
  ∀ (left i:Nat) (z:Shared),i+left=n->St i z->Ext h0 z.heap->SetX knd z.heap S (fun k=>decide (k∈ks.take i)) (ucn ks d0 i) led ->
   (∀ y,Moved (S::wr) G z y->SetX knd y.heap S (fun k=>decide (k∈ks)) (ucn ks d0 n) led->R (.ok (.ret .none)) y) ->
   codeAny (model prog w) A (.builtin "set.update.loop" ⟨[.ref S,.ref I],[]⟩) R z
 | 0,i,z,e,wi,ex,si,out=>by
  obtain rfl:i=n:=e
  have nw:S∉wr:=fun q=>far (W.sub S q)
  refine codeAny_builtin PyProof.Rows.F.entry_set_update_loop ?_
  rw [Around.under_plainId PyProof.Rows.F.plain_set_update_loop _]
  show wpAny _ A.in1 (pyNext (.ref I) >>= _) _ _ z
  refine wpAny_bind (W.done z _ _ wi fun y mv=>?_)
  rw [<-hl,List.take_length] at si
  rw [<-hl] at out
  exact wpAny_pure (out y (mv.mono fun b=>List.mem_cons_of_mem _) (si.moved fun o q=>mv.heap S o nw q))
 | left+1,i,z,e,wi,ex,si,out=>by
  have nw:S∉wr:=fun q=>far (W.sub S q)
  have il:i<ks.length:=by lia
  refine codeAny_builtin PyProof.Rows.F.entry_set_update_loop ?_
  rw [Around.under_plainId PyProof.Rows.F.plain_set_update_loop _]
  show wpAny _ A.in1 (pyNext (.ref I) >>= _) _ _ z
  refine wpAny_bind (W.item i z _ _ (by lia) wi fun v y pv wj mv=>?_)
  obtain ⟨kb,sb,hb⟩:=ky i v pv
  have sy:=si.moved (h':=y.heap) fun o q=>mv.heap S o nw q
  have ey:Ext h0 y.heap:=fun c o q=>mv.heap c o (fun hc=>by rw [h0w c hc] at q;cases q) (ex c o q)
  show wpAny _ A.in1 (holding [v] (setAdd S v) >>= _) _ _ y
  refine wpAny_bind (wpAny_holding ?_)
  unfold setAdd
  refine wpAny_holding (wpAny_bind (knd.pyHash kb ?_))
  have hu:=q_v ks d0 i
  refine wp_addX (s:={ y with toks:=y.toks+1 }) kb sb hb sy (by lia) fun hn' only sn=>?_
  have sn:SetX knd hn' S (fun k=>decide (k∈ks.take (i+1))) (ucn ks d0 (i+1)) led:=by
   have eu:ucn ks d0 (i+1)=if decide (ks.getD i d0∈ks.take i)=true then ucn ks d0 i else ucn ks d0 i+1:=by
    show (if ks.getD i d0∈ks.take i then ucn ks d0 i else ucn ks d0 i+1)=_
    by_cases c:ks.getD i d0∈ks.take i
    ·rw [if_pos c,if_pos (decide_eq_true c)]
    ·rw [if_neg c,if_neg (fun h=>c (of_decide_eq_true h))]
   rw [eu]
   refine sn.eq fun k=>?_
   rw [s_f d0 il]
   by_cases h1:k∈ks.take i
   ·simp [h1]
   ·by_cases h2:k=ks.getD i d0
    ·simp [h2]
    ·simp [h1,h2]
  have oth:∀ {c:Addr} {o:Obj},c≠S->y.heap.get? c=some o->hn'.get? c=some o:=fun {c o} nc q=>by rw [only.2 c nc];exact q
  refine wpAny_pure ⟨plainId_quiet PyProof.Rows.F.plain_set_update_loop _,loopX W S far ks d0 hl hn h0 ky h0S h0w uz left (i+1) _ (by lia) (W.frame _ y _ _ wj (Nat.le_add_right _ _) fun c hc o q=>oth (fun z=>far (z▸hc)) q) (fun c o q=>oth (fun z=>by rw [z,h0S] at q;cases q) (ey c o q)) sn fun x mx sx=>?_⟩
  exact out x (Moved.trans W.gtrans ((mv.mono fun b=>List.mem_cons_of_mem _).then_heap (Nat.le_add_right _ _) fun c o hc q=>oth (fun z=>hc (z▸List.mem_cons_self)) q) mx) sx
set_option maxHeartbeats 3200000 in
theorem fill_X{B:Around}{l:Addr}{items:Array Value}{ks:List K}{d0:K}{led:Bool}{F:Fin->Shared->Prop}(calm:B.handled=none)(uz:B.units+4<cLine)(at_l:s.heap.IsList l items)(same:ks.length=items.size)(few:items.size<=64)
  (ky:∀ i v,items[i]? = some v->knd.is (ks.getD i d0) v=true/\v.scannable=true/\hashByValue 8 v=pure true)
  (out:∀ (h':Heap) (tk:Nat),s.toks<=tk->SetX knd h' s.heap.objs.size (fun k=>decide (k∈ks)) (ucn ks d0 items.size) led->Ext s.heap h'->F (.done (.ret .none)) { s with heap:=h',toks:=tk }) :
  wpAny (model prog w) B (Builtin.«set.__init__» ⟨[.ref s.heap.objs.size,.ref l],[]⟩) F E (withSet s led):=by
 have lt_l:l<s.heap.objs.size:=by obtain ⟨o,e,_⟩:=at_l;exact Heap.lt_size e
 have at_l1:(withSet s led).heap.IsList l items:=at_l.push _
 obtain ⟨⟨c,d,dt,sl⟩,e_l,e_c,n_l,e_d⟩:=at_l1
 have e_c:c = .type "list" := e_c
 have e_d:dt = .seq items n_l:=e_d
 subst e_c e_d
 have n1:=PySem.F.sub_list_set
 have n2:=PySem.F.sub_list_frozenset
 have n3:(Value.type "list" == Value.type "dict")=false:=by decide
 have e_S:=x_p s led
 unfold mtSet at e_S
 unfold Builtin.«set.__init__» noKeywords Builtin.Frozenset.updateFrom
 generalize eIt:pyIter=It
 wp_walk
 subst eIt
 have at_l1:(withSet s led).heap.IsList l items:=at_l.push _
 refine wpAny_pyIter_list at_l1 (wpAny_bind (wpAny_runValue ?_))
 have sz:=v_w s led
 have calm1:B.in1.handled=none:=by simp [calm]
 have l_it:l≠(withSet s led).heap.objs.size:=by rw [sz];exact Nat.ne_of_lt (Nat.lt_succ_of_lt lt_l)
 have far:s.heap.objs.size∉[(withSet s led).heap.objs.size,l]:=by
  rw [sz]
  simp only [List.mem_cons,List.not_mem_nil,or_false,not_or]
  exact ⟨Nat.ne_of_lt (Nat.lt_succ_self _),Nat.ne_of_gt lt_l⟩
 refine loopX (knd:=knd) (led:=led) (Walks.list calm1 _ l l_it items).toS s.heap.objs.size far ks d0 same few s.heap ky (v_i (Nat.le_refl _)) (fun b q=>?_) (by lia) items.size 0 _ (Nat.zero_add _) ⟨⟨_,Heap.get?_push_size _ rfl,rfl,rfl⟩,at_l1.push _⟩ (fun b o q=>Heap.get?_push_of_some _ (w_m q))
  ⟨mtSet led,#[],0,_,Heap.get?_push_of_some _ (x_p s led),⟨rfl,rfl,rfl⟩,rfl,(fun e q=>by simp at q),(fun k=>by simp),⟨.inl rfl,rfl,rfl,.nil,rfl,rfl⟩,(by show 0*5<7*3;decide),rfl,(by show 0<=64;decide),.nil⟩ fun y mv sy=>?_
 ·rw [List.mem_singleton.mp q,sz]
  exact v_i (Nat.le_succ _)
 ·have tk:=mv.toks
  have kp:Ext s.heap y.heap:=fun b o q=>by
   have lb:=Heap.lt_size q
   refine mv.heap b o ?_ (Heap.get?_push_of_some _ (w_m q))
   rw [sz]
   simp only [List.mem_cons,List.not_mem_nil,or_false,not_or]
   exact ⟨Nat.ne_of_lt lb,Nat.ne_of_lt (Nat.lt_succ_of_lt lb)⟩
  obtain ⟨hy,gy,dy,ty,oy⟩:=y
  cases (show gy=s.gens from mv.gens)
  cases (show dy=s.drawn from mv.drawn)
  cases (show oy=s.os from mv.os)
  exact wpAny_pure (wpAny_pure (out hy ty tk sy kp))
set_option maxHeartbeats 3200000 in
theorem call_X{l:Addr}{items:Array Value}{ks:List K}{d0:K}{Q:Value->Shared->Prop}(calm:A.handled=none)(uz:A.units+8<cLine)(at_l:s.heap.IsList l items)(same:ks.length=items.size)(few:items.size<=64)
  (ky:∀ i v,items[i]? = some v->knd.is (ks.getD i d0) v=true/\v.scannable=true/\hashByValue 8 v=pure true)
  (out:∀ (h':Heap) (tk:Nat),s.toks<=tk->SetX knd h' s.heap.objs.size (fun k=>decide (k∈ks)) (ucn ks d0 items.size) (ldW w)->Ext s.heap h'->Q (.ref s.heap.objs.size) { s with heap:=h',toks:=tk }) :
  wpAny (model prog w) A (call (.type "set") [.ref l]) Q E s:=by
 obtain ⟨c0,cs,m0⟩:=PySem.F.called_set.mro
 have m1:=PySem.F.called_set.made
 have m2:=PySem.F.called_set.sub
 have m3:=PySem.F.called_set.notType
 have m4:=PySem.F.called_set.canCreate
 have m5:=PySem.F.typeCall_set_1 (.ref l)
 refine wpAny_call (codeAny_of_tree (show wpAny _ _ (callAny (.type "set") _) _ _ _ from wpAny_pure ⟨Code.quiet_builtin _ (by decide +kernel),codeAny_builtin PySem.F.entry_type_call ?_⟩))
 rw [Around.under_plain (weight_type_call_type "set" [.ref l] []) rfl]
 repeat (any_goals (first | assumption | wp_step))
 refine codeAny_mono (new_setX (.ref l) (E:=E) (Q1:=fun x z=>x = .ref s.heap.objs.size/\z=withSet s (ldW w)) ⟨rfl,rfl⟩) fun r z got=>?_
 match r,got with
 | .error _,got=>exact got
 | .ok (.ret _),⟨e1,e2⟩ =>
  subst e1 e2
  have ty:Shared.TypeIs (withSet s (ldW w)) (.ref s.heap.objs.size) "set" := ⟨_,x_p s _,rfl⟩
  have m6:=PySem.F.called_set.init.lookup
  have m7:=PySem.F.called_set.init.bind (.ref s.heap.objs.size)
  repeat (any_goals (first | assumption | wp_step))
  refine codeAny_mono (codeAny_call_builtin (R:=wants (fun x y=>x = .none/\∃ h' tk,s.toks<=tk/\y={ s with heap:=h',toks:=tk }/\SetX knd h' s.heap.objs.size (fun k=>decide (k∈ks)) (ucn ks d0 items.size) (ldW w)/\Ext s.heap h') E) PySem.F.called_set.init.plain PySem.F.entry_set_init
   (check_set_init_1 ty (fill_X (d0:=d0) (by simp [calm]) (show A.units+1+1+4<cLine by lia) at_l same few ky fun h' tk a b c=>⟨rfl,h',tk,a,rfl,b,c⟩))) fun r2 y got2=>?_
  match r2,got2 with
  | .error _,got2=>exact got2
  | .ok (.ret _),⟨e3,h',tk,a,e4,b,c⟩ =>
   subst e3 e4
   repeat (any_goals (first | assumption | wp_step))
   exact out h' tk a b c
end
open PySem PySem.Spec PyProof.Rows
theorem sl_next:Slot "set_iterator" "__next__" "set_iterator.__next__" := .of (owner := "set_iterator") (n := "__next__") (by rw [typeLookup_type,builtinLookup_eq_fast];kernel_rfl) (by decide +kernel) (by decide +kernel) (by decide +kernel) (by first | exact .inl (by decide +kernel) | exact .inr (by decide +kernel)) (by rw [isSubtype_type];kernel_rfl)
theorem l_c:entryFor table "set_iterator.__next__" = some Builtin.«set_iterator.__next__» := entryFor_of_fast (by kernel_rfl)
theorem m_l(a:Value):argsOk "set_iterator.__next__" ⟨[a],[]⟩:=by unfold argsOk;kernel_rfl
theorem j_b:Slot "set_iterator" "__iter__" "set_iterator.__iter__" := .of (owner := "set_iterator") (n := "__iter__") (by rw [typeLookup_type,builtinLookup_eq_fast];kernel_rfl) (by decide +kernel) (by decide +kernel) (by decide +kernel) (by first | exact .inl (by decide +kernel) | exact .inr (by decide +kernel)) (by rw [isSubtype_type];kernel_rfl)
theorem ar_self(a:Value):argsOk "set_iterator.__iter__" ⟨[a],[]⟩:=by unfold argsOk;kernel_rfl
theorem en_self:entryFor table "set_iterator.__iter__" = some Builtin.«dict_keyiterator.__iter__» := entryFor_alias (id' := "dict_keyiterator.__iter__") (by kernel_rfl) rfl (by decide +kernel) (by kernel_rfl)
theorem en_iter:entryFor table "set.__iter__" = some Builtin.«frozenset.__iter__» := entryFor_alias (id' := "frozenset.__iter__") (by kernel_rfl) rfl (by decide +kernel) (by kernel_rfl)
theorem ar_iter(a:Value):argsOk "set.__iter__" ⟨[a],[]⟩:=by unfold argsOk;kernel_rfl
theorem t_p{α:Type}:∀ (l:List α) (i:Nat) (x:α),l[i]? = some x->(x::l.eraseIdx i).Perm l
 | [],i,x,h=>by simp at h
 | a::l,0,x,h=>by
  simp at h
  subst h
  exact List.Perm.refl _
 | a::l,i+1,x,h=>by
  simp at h
  rw [List.eraseIdx_cons_succ]
  exact (List.Perm.swap _ _ _).trans (List.Perm.cons _ (t_p l i x h))
theorem k_p{α:Type}(next:Nat->Nat):∀ (fuel k:Nat) (left:List α) (out:Array α),left.length<=fuel->(pickOrder.go next fuel k left out).toList.Perm (out.toList++left)
 | 0,k,left,out,h=>by
  have:left=[]:=List.eq_nil_of_length_eq_zero (by lia)
  subst this
  unfold pickOrder.go
  rw [List.append_nil]
 | fuel+1,k,left,out,h=>by
  unfold pickOrder.go
  cases e:left[next k%left.length]? with
  | none =>
   have:left=[]:=by
    rcases left with _ | ⟨a,l⟩
    ·rfl
    ·have:=List.getElem?_eq_none_iff.mp e
     have h2:=Nat.mod_lt (next k) (show 0<(a::l).length by simp)
     lia
   subst this
   rw [List.append_nil]
  | some x =>
   have hl:=(List.getElem?_eq_some_iff.mp e).1
   have hx:=(List.getElem?_eq_some_iff.mp e).2
   dsimp only
   refine (k_p next fuel (k+1) _ _ (by rw [List.length_eraseIdx_of_lt hl];lia)).trans ?_
   rw [Array.toList_push,List.append_assoc]
   refine List.Perm.append_left _ ?_
   exact t_p _ _ _ e
def setOrd(w:World)(S:Addr)(es:Array (Int×Value))(ep:Nat):Array (Int×Value):=if w.params.followText "set-order" = true then pickOrder (w.params.setOrder S ep) es else es
theorem o_q(w:World)(S:Addr)(es:Array (Int×Value))(ep:Nat):(setOrd w S es ep).toList.Perm es.toList:=by
 unfold setOrd
 split
 ·have:=k_p (w.params.setOrder S ep) es.size 0 es.toList #[] (by rw [Array.length_toList];lia)
  exact this
 ·exact List.Perm.refl _
theorem u_e(w:World)(S:Addr)(es:Array (Int×Value))(ep:Nat):(setOrd w S es ep).size=es.size:=by rw [<-Array.length_toList,(o_q w S es ep).length_eq,Array.length_toList]
def ItX(h:Heap)(it S:Addr)(slot i n ep:Nat):Prop:=∃ o,h.get? it=some o/\o.cls = .type "set_iterator" /\ o.data = .fields #[rawInt slot,rawInt i,.ref S,rawInt n,rawInt ep]
theorem ItX.ty{s:Shared}{it S:Addr}{slot i n ep:Nat}(x:ItX s.heap it S slot i n ep):s.TypeIs (.ref it) "set_iterator" := let ⟨o,h,c,_⟩:=x;⟨o,h,c⟩
def AtX(w:World)(h:Heap)(S:Addr)(es:Array (Int×Value))(ep:Nat)(t:SetTable):Prop:=(∃ o,h.get? S=some o/\o.ExactSet/\o.data = .set es ep t)/\Tw t es.size (ldW w)/\es.size<=t.mask
section
variable {prog:Program} {w:World} {A:Around} {E:Value->Shared->Prop} {s:Shared} {it S:Addr} {es:Array (Int×Value)} {ep slot i:Nat} {t:SetTable}
theorem t_k{Q:Bool->Shared->Prop}(h:Q (w.params.followText "set-order") s):wpAny (model prog w) A setsByText Q E s:=by
 unfold setsByText
 exact wpAny_bind (wpAny_askSetting (wpAny_pure h))
def nxX(w:World)(S:Addr)(es:Array (Int×Value))(ep:Nat)(t:SetTable)(slot i:Nat):Option (Value×Nat) :=
 if w.params.followText "set-order" = true then ((setOrd w S es ep)[i]?).map fun e=>(e.2,slot) else match es[i]?,t.place[i]? with
  | some (_,x),some j=>some (x,j+1)
  | _,_=>none
theorem j_n{Q:Option (Value×Nat)->Shared->Prop}(X:AtX w s.heap S es ep t)(hb:w.params.followText "set-order" = true\/SetTable.below t.place slot=i)(h:Q (nxX w S es ep t slot i) s):wpAny (model prog w) A (setNext S slot i ep) Q E s:=by
 obtain ⟨⟨o,ho,hex,hd⟩,T,hm⟩:=X
 have hf:=T.fits hm
 unfold nxX at h
 unfold setNext
 refine wpAny_bind (wpAny_setState_of ho hd hf (wpAny_bind (t_k ?_)))
 by_cases c:w.params.followText "set-order" = true
 ·rw [if_pos c] at h
  rw [if_pos c,if_neg (by simp)]
  unfold setWalk
  refine wpAny_bind (wpAny_bind (wpAny_setState_of ho hd hf (wpAny_bind (t_k ?_))))
  rw [if_pos c]
  refine wpAny_bind (wpAny_askSetting (wpAny_pure (wpAny_pure ?_)))
  unfold setOrd at h
  rw [if_pos c] at h
  exact h
 ·rw [if_neg c] at h
  rw [if_neg c]
  show wpAny _ _ (if (!t.plain&&decide (es.size > 1))=true then _ else _) _ _ s
  rw [if_neg (show ¬((!t.plain&&decide (es.size > 1))=true) by rw [T.plain];simp)]
  refine wpAny_bind (show wpAny _ _ (if (!t.led && !es.isEmpty)=true then unsupported "set:maker-not-led" else pure ()) _ _ s from ?_)
  have hl:t.led=true:=by rw [T.led];unfold ldW;rw [Bool.eq_false_iff.mpr c];rfl
  rw [if_neg (by rw [hl];simp)]
  refine wpAny_pure (wpAny_pure ?_)
  rw [hb.resolve_left c]
  exact h
end
end L2
namespace L2
open PySem PySem.Spec PyProof.Rows
section
variable {prog:Program} {w:World} {A:Around} {E:Value->Shared->Prop} {s:Shared} {it S:Addr} {es:Array (Int×Value)} {ep slot i:Nat} {t:SetTable}
def SlX(w:World)(t:SetTable)(slot i:Nat):Prop:=w.params.followText "set-order" = true\/SetTable.below t.place slot=i
theorem nx_item{h:Heap}(X:AtX w h S es ep t)(hb:SlX w t slot i)(hi:i<es.size):∃ e slot',nxX w S es ep t slot i=some (e.2,slot')/\(setOrd w S es ep)[i]? = some e/\SlX w t slot' (i+1):=by
 obtain ⟨_,T,hm⟩:=X
 unfold nxX
 by_cases c:w.params.followText "set-order" = true
 ·rw [if_pos c]
  obtain ⟨e,he⟩:∃ e,(setOrd w S es ep)[i]? = some e:=⟨_,Array.getElem?_eq_getElem (by rw [u_e];exact hi)⟩
  rw [he]
  exact ⟨e,slot,rfl,rfl,.inl c⟩
 ·rw [if_neg c]
  have hp:i<t.place.size:=by rw [T.size];exact hi
  rw [Array.getElem?_eq_getElem hi,Array.getElem?_eq_getElem hp]
  refine ⟨es[i],t.place[i]+1,rfl,?_,.inr (below_at T.rise (Array.getElem?_eq_getElem hp))⟩
  unfold setOrd
  rw [if_neg c]
  exact Array.getElem?_eq_getElem hi
theorem nx_end{h:Heap}(X:AtX w h S es ep t):nxX w S es ep t slot es.size=none:=by
 unfold nxX
 by_cases c:w.params.followText "set-order" = true
 ·rw [if_pos c,Array.getElem?_eq_none (by rw [u_e];exact Nat.le_refl _)]
  rfl
 ·rw [if_neg c,Array.getElem?_eq_none (Nat.le_refl _)]
theorem AtX.keep{h h':Heap}(x:AtX w h S es ep t)(e:∀ o,h.get? S=some o->h'.get? S=some o):AtX w h' S es ep t:=let ⟨⟨o,ho,r⟩,r2⟩:=x;⟨⟨o,e o ho,r⟩,r2⟩
theorem ItX.keep{h h':Heap}{n:Nat}(x:ItX h it S slot i n ep)(e:∀ o,h.get? it=some o->h'.get? it=some o):ItX h' it S slot i n ep:=let ⟨o,ho,r⟩:=x;⟨o,e o ho,r⟩
set_option maxHeartbeats 1000000 in
theorem k_b{Q:Option Value->Shared->Prop}(hit:ItX s.heap it S slot i es.size ep)(X:AtX w s.heap S es ep t)(hb:SlX w t slot i)(hi:i<es.size)
  (h:∀ e slot' h',(setOrd w S es ep)[i]? = some e->SlX w t slot' (i+1)->ItX h' it S slot' (i+1) es.size ep->Heap.SameBut it s.heap h'->Q (some e.2) { s with heap:=h' }):wpAny (model prog w) A (pyNext (.ref it)) Q E s:=by
 obtain ⟨o,ho,hc,hd⟩:=id hit
 obtain ⟨⟨oS,hoS,hex,hdS⟩,T,hm⟩:=id X
 have hf:=T.fits hm
 obtain ⟨e,slot',e1,e2,e3⟩:=nx_item X hb hi
 unfold pyNext
 refine wpAny_bind (wpAny_attempt (wpAny_callSpecial?_slot (name:=Str.ofString "__next__") hit.ty sl_next (wpAny_call_entry sl_next hit.ty l_c ?_ (m_l _))))
 unfold Builtin.«set_iterator.__next__»
 refine wpAny_bind (wpAny_pure ?_)
 refine wpAny_bind (wpAny_fieldsOf ho hd ?_)
 show wpAny _ _ (setEntries S >>= _) _ _ s
 refine wpAny_bind (wpAny_setEntries_of hoS hdS hf ?_)
 rw [if_neg (by simp)]
 show wpAny _ _ (setNext S slot i ep >>= _) _ _ s
 refine wpAny_bind (j_n X hb ?_)
 rw [e1]
 show wpAny _ _ (setField (.ref it) 0 (rawInt slot') >>= _) _ _ s
 refine wpAny_bind (wpAny_setField ho hd (by simp) ?_)
 have d1:=Obj.data_mapFields hd (·.setIfInBounds 0 (rawInt slot'))
 have g1:=Heap.get?_update_self (Obj.mapFields (·.setIfInBounds 0 (rawInt slot'))) ho (Obj.isFreed_of_fields d1)
 refine wpAny_bind (wpAny_setField g1 d1 (by simp) ?_)
 have d2:=Obj.data_mapFields d1 (·.setIfInBounds 1 (rawInt ((i:Int)+1)))
 have g2:=Heap.get?_update_self (Obj.mapFields (·.setIfInBounds 1 (rawInt ((i:Int)+1)))) g1 (Obj.isFreed_of_fields d2)
 refine wpAny_pure ⟨_,rfl,wpAny_pure (h e slot' _ e2 e3 ⟨_,g2,?_,?_⟩ ?_)⟩
 ·rw [Obj.cls_mapFields,Obj.cls_mapFields];exact hc
 ·rw [d2];simp [rawInt]
 ·exact (Heap.SameBut.update ..).trans (Heap.SameBut.update ..)
set_option maxHeartbeats 1000000 in
theorem next_end{Q:Option Value->Shared->Prop}(hh:A.handled=none)(hit:ItX s.heap it S slot es.size es.size ep)(X:AtX w s.heap S es ep t)(hb:SlX w t slot es.size)
  (hQ:∀ h',Heap.ExtBut it s.heap h'->Q none { s with heap:=h' }):wpAny (model prog w) A (pyNext (.ref it)) Q E s:=by
 obtain ⟨o,ho,hc,hd⟩:=id hit
 obtain ⟨⟨oS,hoS,hex,hdS⟩,T,hm⟩:=id X
 have hf:=T.fits hm
 unfold pyNext
 refine wpAny_bind (wpAny_attempt (wpAny_callSpecial?_slot (name:=Str.ofString "__next__") hit.ty sl_next (wpAny_call_entry sl_next hit.ty l_c ?_ (m_l _))))
 unfold Builtin.«set_iterator.__next__»
 refine wpAny_bind (wpAny_pure ?_)
 refine wpAny_bind (wpAny_fieldsOf ho hd ?_)
 show wpAny _ _ (setEntries S >>= _) _ _ s
 refine wpAny_bind (wpAny_setEntries_of hoS hdS hf ?_)
 rw [if_neg (by simp)]
 show wpAny _ _ (setNext S slot es.size ep >>= _) _ _ s
 refine wpAny_bind (j_n X hb ?_)
 rw [nx_end X]
 show wpAny _ _ (setField (.ref it) 2 .none >>= _) _ _ s
 refine wpAny_bind (wpAny_setField ho hd (by simp) ?_)
 show wpAny _ _ (newExc (.type "StopIteration") [] >>= _) _ _ _
 refine wpAny_bind ?_
 simp only [newExc,newTuple]
 refine wpAny_bind (wpAny_newObj_type ?_ (by size_fits))
 refine wpAny_bind (m:=firstArgMember _ _) (wpAny_of_eq (a:=Value.none) (by first | rfl | (simp only [firstArgMember];rfl)) ?_)
 refine wpAny_newObj_type ?_ (by size_fits)
 simp only [raiseNew]
 refine wpAny_bind (wpAny_handled ?_)
 rw [show A.in1.handled=none from hh]
 refine wpAny_bind (wpAny_pure (wpAny_throw ?_))
 refine wpAny_bind (wpAny_isInstance (T := "StopIteration") (b:=true) ⟨_,Heap.get?_push_size _ rfl,rfl⟩ isSubtype_stop ?_)
 exact wpAny_pure (hQ _ (((Heap.SameBut.update ..).extBut.push _).push _))
theorem l_m{n:Nat}{Q:Value->Shared->Prop}(hit:ItX s.heap it S slot i n ep)(h:Q (.ref it) s):wpAny (model prog w) A (pyIter (.ref it)) Q E s:=by
 refine wpAny_pyIter_slot hit.ty j_b (wpAny_call_entry j_b hit.ty en_self ?_ (ar_self _))
 show wpAny _ _ (ret (.ref it)) _ _ s
 exact wpAny_pure ⟨_,rfl, "set_iterator",_,hit.ty,sl_next.lookup,h⟩
theorem iter_set{Q:Value->Shared->Prop}(X:AtX w s.heap S es ep t)
  (h:Q (.ref s.heap.objs.size) { s with heap:=s.heap.push { cls:=.type "set_iterator",data:=.fields #[rawInt 0,rawInt 0,.ref S,rawInt es.size,rawInt ep] } }):wpAny (model prog w) A (pyIter (.ref S)) Q E s:=by
 obtain ⟨⟨oS,hoS,hex,hdS⟩,T,hm⟩:=id X
 have hf:=T.fits hm
 have hT:s.TypeIs (.ref S) "set" := ⟨oS,hoS,hex.1⟩
 refine wpAny_pyIter_slot hT PySem.F.slot_set_iter (wpAny_call_entry PySem.F.slot_set_iter hT en_iter ?_ (ar_iter _))
 unfold Builtin.«frozenset.__iter__»
 refine wpAny_bind (show wpAny _ _ (pure S) _ _ s from wpAny_pure ?_)
 refine wpAny_bind ?_
 unfold Builtin.Frozenset.sizeOf
 refine wpAny_bind (wpAny_setEntries_of hoS hdS hf (wpAny_pure ?_))
 refine wpAny_bind ?_
 unfold setDrawn
 refine wpAny_bind (wpAny_setState_of hoS hdS hf (wpAny_bind (t_k ?_)))
 show wpAny _ _ (pure (!(w.params.followText "set-order")&&(!t.plain&&decide (es.size > 1)))) _ _ s
 refine wpAny_pure ?_
 rw [if_neg (by rw [T.plain];simp)]
 refine wpAny_bind (wpAny_pure ?_)
 refine wpAny_bind (wpAny_setEpoch_of hoS hdS hf ?_)
 refine wpAny_bind ?_
 unfold newFields
 exact wpAny_newObj_type (wpAny_pure ⟨_,rfl, "set_iterator",_,⟨_,Heap.get?_push_size _ rfl,rfl⟩,sl_next.lookup,h⟩)
theorem hint_set{Q:Bool->Shared->Prop}(hT:s.TypeIs (.ref S) "set")(h:Q false s):wpAny (model prog w) A (Builtin.List.listLengthHint (.ref S)) Q E s:=by
 unfold Builtin.List.listLengthHint
 refine wpAny_bind (wpAny_specialOf hT PySem.F.slot_set_len.lookup ?_)
 generalize hid:("set.__len__" : String)=id0
 wp_delta
 rw [show splitId id0=some ("set", "__len__") from by subst hid;decide +kernel]
 subst hid
 refine wpAny_bind (wpAny_isInstance (T := "set") (b:=true) hT (by rw [isSubtype_type];kernel_rfl) ?_)
 refine wpAny_ite_split (fun hab=>absurd hab (by decide)) (fun _=>?_)
 refine wpAny_ite_split (fun _=>?_) (fun hab=>absurd (by decide +kernel) hab)
 refine wpAny_bind (wpAny_typeOf hT ?_)
 exact wpAny_pure h
theorem walk_set(hh:A.handled=none)(I:Addr)(hne:S≠I):Walks prog w A I [I,S] [I] es.size (fun i v=>∃ e,(setOrd w S es ep)[i]? = some e/\v=e.2) (fun i h=>∃ slot,ItX h I S slot i es.size ep/\SlX w t slot i/\AtX w h S es ep t) where
 sub:=fun b hb=>by simp at hb;simp [hb]
 frame:=fun _ _ _ ⟨sl,a,b,c⟩ hk=>⟨sl,a.keep fun o e=>hk I (by simp) o e,b,c.keep fun o e=>hk S (by simp) o e⟩
 item:=fun i s Q E hi ⟨sl,a,b,c⟩ hQ=>k_b a c b hi fun e sl' h' e2 e3 it' hs=>hQ _ h' s.toks ⟨e,e2,rfl⟩ ⟨sl',it',e3,c.keep fun o q=>hs.extBut S o hne q⟩ fun b o hb q=>hs.extBut b o (fun h=>hb (by simp [h])) q
 done:=fun s Q E ⟨sl,a,b,c⟩ hQ=>next_end hh a c b fun h' he=>hQ h' s.toks fun b o hb q=>he b o (fun h=>hb (by simp [h])) q
 self:=fun _ _ _ _ ⟨sl,a,b,c⟩ hQ=>l_m a hQ
theorem src_set:PySem.W.KdlSrc prog w "set" S S es.size (fun i v=>∃ e,(setOrd w S es ep)[i]? = some e/\v=e.2) (fun h=>AtX w h S es ep t) where
 type:=fun _ ⟨⟨o,ho,hx,_⟩,_⟩=>⟨o,ho,hx.1⟩
 there:=fun _ ⟨⟨o,ho,_⟩,_⟩=>⟨Heap.lt_size ho,Heap.lt_size ho⟩
 keep:=fun _ _ X hk=>X.keep fun o e=>hk S (.inl rfl) o e
 notList:=by decide
 notTuple:=by decide
 hint:=fun _ _ _ _ X hq=>hint_set (let ⟨⟨o,ho,hx,_⟩,_⟩:=X;⟨o,ho,hx.1⟩) hq
 iter:=fun _ s hh X=>⟨_,_,(fun _ _ hq=>iter_set X hq),walk_set hh _ (Nat.ne_of_lt (let ⟨⟨o,ho,_⟩,_⟩:=X;Heap.lt_size ho)),0,⟨_,Heap.get?_push_size _ rfl,rfl,rfl⟩,.inr (n_i X.2.1.rise),X.keep fun o e=>Heap.get?_push_of_some _ e⟩
end
open PySem PySem.Spec PyProof.Rows
def inK{K:Type}[DecidableEq K](ks:List K):K->Bool:=fun k=>decide (k∈ks)
theorem inK_iff{K:Type}[DecidableEq K]{ks:List K}{k:K}:inK ks k=true↔k∈ks:=decide_eq_true_iff
def ColR(s:Shared)(w:World)(S:Addr)(es:Array (Int×Value))(ep:Nat)(r:Result)(s':Shared):Prop:=r = .ok (.ret (.ref s.heap.objs.size))/\∃ (h':Heap) (tk:Nat) (acc:Array Value) (c':Nat),s'={ s with heap:=h',toks:=tk }/\(∀ b o,b≠s.heap.objs.size->(s.heap.push (seqObj "list" #[] 0)).get? b=some o->h'.get? b=some o)/\h'.get? s.heap.objs.size=some { cls:=.type "list",dict:=none,data:=.seq acc c',slots:=#[] }/\ItemsOf (fun i v=>∃ e,(setOrd w S es ep)[i]? = some e/\v=e.2) acc es.size
section
variable {prog:Program} {w:World} {A:Around} {E:Value->Shared->Prop} {s:Shared} {S:Addr} {es:Array (Int×Value)} {ep:Nat} {t:SetTable}
set_option maxHeartbeats 1000000 in
theorem q_z{Q:List Value->Shared->Prop}(hh:A.handled=none)(X:AtX w s.heap S es ep t)(hn:es.size<=64)
  (h:∀ h' tk,Ext s.heap h'->s.heap.objs.size<=h'.objs.size->Q ((setOrd w S es ep).toList.map (·.2)) { s with heap:=h',toks:=tk }):wpAny (model prog w) A (collect (.ref S)) Q E s:=by
 have hS:S<s.heap.objs.size:=let ⟨⟨o,ho,_⟩,_⟩:=X;Heap.lt_size ho
 unfold collect
 refine wpAny_bind (wpAny_runValue (codeAny_mono (R:=ColR s w S es ep) (codeAny_builtin entry_proto_collect' ?_) ?_))
 ·show wpAny _ _ (do again (.builtin "list.__iadd__" ⟨[<-newList [],.ref S],[]⟩)) _ _ s
  refine wpAny_bind (wpAny_newList (wpAny_pure ⟨Code.quiet_builtin _ (by decide +kernel),codeAny_builtin entry_list_iadd' ?_⟩))
  rw [Around.under_plainId (by decide +kernel) _]
  exact PySem.W.kdl_extend (R:=ColR s w S es ep) (A:=A) (prog:=prog) (res:=.ref s.heap.objs.size) (s:={ s with heap:=s.heap.push (seqObj "list" #[] 0) }) src_set hh (X.keep fun o e=>Heap.get?_push_of_some _ e) s.heap.objs.size (Nat.ne_of_gt hS) (Nat.ne_of_gt hS) (c₀:=0) (hS:=Heap.get?_push_size _ rfl) (hR:=fun h' tk acc c' hk hl hi=>⟨rfl,h',tk,acc,c',rfl,hk,hl,hi⟩) (hn:=by rw [sizeLine_eq];lia)
 rintro r s' ⟨rfl,h',tk,acc,c',rfl,hk,hl,hi⟩
 show wpAny (model prog w) A (do
   let o <-load s.heap.objs.size
   match o.data with
   | .seq xs _=>pure xs.toList
   | _=>unsupported "internal:collect") Q E { s with heap:=h',toks:=tk }
 refine wpAny_bind (wpAny_load hl ?_)
 have e:acc.toList=(setOrd w S es ep).toList.map (·.2):=by
  refine List.ext_getElem? fun i=>?_
  rw [Array.getElem?_toList,List.getElem?_map,Array.getElem?_toList]
  by_cases c:i<acc.size
  ·rw [Array.getElem?_eq_getElem c]
   obtain ⟨e,e1,e2⟩:=hi.2 i _ (Array.getElem?_eq_getElem c)
   rw [e1,e2]
   rfl
  ·rw [Array.getElem?_eq_none (Nat.le_of_not_lt c),Array.getElem?_eq_none (by rw [u_e,<-hi.1];exact Nat.le_of_not_lt c)]
   rfl
 show wpAny _ _ (pure acc.toList) Q E _
 rw [e]
 exact wpAny_pure (h h' tk (fun b o e=>hk b o (Nat.ne_of_lt (Heap.lt_size e)) (Heap.get?_push_of_some _ e)) (Nat.le_of_lt (Heap.lt_size hl)))
def ival:Value->Int
 | .int x _=>x
 | _=>0
theorem l_j:∀ {us:List Value},(∀ u∈us,∃ x t,u = .int x t)->IntsAre us (us.map ival)
 | [],_=>.nil
 | u::us,h=>by
  obtain ⟨x,t,rfl⟩:=h u (List.mem_cons_self ..)
  exact .cons x t (l_j fun v hv=>h v (List.mem_cons_of_mem _ hv))
theorem sortedSet{ns:List Int}{n:Nat}{R:Value->Shared->Prop}(hh:A.handled=none)(hS:SetX (mixKind prog w) s.heap S (inK (ns.map (Sum.inl:Int->L2.Key))) n (ldW w))
  (q:∀ (h':Heap) (tk:Nat) (us:List Value) (o:Array Value) (js:List Int),Ext s.heap h'->s.heap.objs.size<=h'.objs.size->IntsAre o.toList js->us.length<=64->js.length<=64->js.Pairwise (· < ·)->(∀ k,k∈js↔k∈ns)->R (.ref h'.objs.size) { s with heap:=sortedHeap (h'.push (seqObj "list" us.toArray 0)) h'.objs.size us o,toks:=tk }) :
  wpAny (model prog w) A (call (.builtin "sorted") [.ref S]) R E s:=by
 obtain ⟨oS,es,ep,t,ho,hex,hd,hel,hmem,T,hr,hn,h64,hdis⟩:=hS
 have hm:=msk_le T.tb
 have X:AtX w s.heap S es ep t:=⟨⟨oS,ho,hex,hd⟩,T,by lia⟩
 have pm:=o_q w S es ep
 have hdis':Dis (mixKind prog w) (setOrd w S es ep).toList:=hdis.perm pm.symm
 have shp:∀ e∈(setOrd w S es ep).toList,∃ x t,e.2 = .int x t/\x∈ns:=fun e he=>by
  have he':e∈es.toList:=pm.mem_iff.mp he
  obtain ⟨⟨k,hk,_⟩,_⟩:=hel e he'
  have:=(hmem k).mpr ⟨e,he',hk⟩
  have hk2:=inK_iff.mp this
  obtain ⟨x,hx,rfl⟩:=List.mem_map.mp hk2
  rcases y_f (k:=.inl x) (v:=e.2) hk with ⟨i,t,e1,e2⟩ | ⟨y,t,e1,e2⟩
  ·cases e1
   exact ⟨x,t,e2,hx⟩
  ·cases e1
 refine Calls.call_function_entry kind_sorted plain_sorted entry_sorted (args_sorted1 _) ?_
 unfold Builtin.«sorted»
 have h9:((setOrd w S es ep).toList.map (·.2)).length=es.size:=by rw [List.length_map,Array.length_toList,u_e]
 refine wpAny_bind (m:=checkCount "sorted" 1 1 _) (wpAny_pure (wpAny_bind (q_z (A:=A.in1) hh X (by lia) fun h' tk k1 k2=>wpAny_bind (wpAny_newList ?_ (by rw [h9,sizeLine_eq];lia)))))
 generalize hus:(setOrd w S es ep).toList.map (·.2)=us at h9
 have hi:IntsAre us (us.map ival):=l_j fun u hu=>by
  rw [<-hus] at hu
  obtain ⟨e,he,rfl⟩:=List.mem_map.mp hu
  obtain ⟨x,t,e1,_⟩:=shp e he
  exact ⟨x,t,e1⟩
 have h1:=Heap.get?_push_size h' (o:=seqObj "list" us.toArray 0) rfl
 show wpAny _ _ (do let _ <-holding [.ref _] _;_) _ _ _
 refine wpAny_bind (wpAny_holding (wpAny_call_entry slot_list_sort ⟨_,h1,rfl⟩ entry_list_sort (lsortN (z:={ s with heap:=h'.push (seqObj "list" us.toArray 0),toks:=tk }) h1 hi (by lia) fun o js q1 q2 q3=>⟨_,rfl,?_⟩) (args_list_sort _)))
 have nd:(us.map ival).Nodup:=by
  rw [<-hus,List.map_map,List.nodup_iff_pairwise_ne,List.pairwise_map]
  refine List.Pairwise.imp_of_mem (fun {a b} ha hb hab e=>?_) hdis'
  obtain ⟨x,t,e1,_⟩:=shp a ha
  obtain ⟨y,t',e2,_⟩:=shp b hb
  have e:ival a.2=ival b.2:=e
  rw [e1,e2] at e
  have e:x=y:=e
  subst e
  refine hab (.inl x) ⟨?_,?_⟩
  ·rw [e1];exact u_q (k:=.inl x) ⟨t,rfl⟩
  ·rw [e2];exact u_q (k:=.inl x) ⟨t',rfl⟩
 refine wpAny_pure ⟨_,rfl,q h' tk us o js k1 k2 q1 (by lia) (by rw [q2.length_eq,List.length_map];lia) ?_ fun k=>?_⟩
 ·have nd':js.Nodup:=q2.nodup_iff.mpr nd
  exact (q3.and nd').imp fun h=>Int.lt_iff_le_and_ne.mpr h
 ·rw [q2.mem_iff,<-hus,List.map_map,List.mem_map]
  constructor
  ·rintro ⟨e,he,rfl⟩
   obtain ⟨x,t,e1,hx⟩:=shp e he
   show ival e.2∈ns
   rw [e1]
   exact hx
  ·intro hk
   obtain ⟨e,he,hke⟩:=(hmem (.inl k)).mp (inK_iff.mpr (List.mem_map.mpr ⟨k,hk,rfl⟩))
   refine ⟨e,pm.mem_iff.mpr he,?_⟩
   show ival e.2=k
   rcases y_f (k:=.inl k) (v:=e.2) hke with ⟨i,t,e1,e2⟩ | ⟨y,t,e1,e2⟩
   ·cases e1
    rw [e2];rfl
   ·cases e1
end
def SXp(prog:Program)(w:World)(a:Addr)(ns:List Int)(h:Heap):Prop:=∃ n,SetX (mixKind prog w) h a (inK (ns.map (Sum.inl:Int->L2.Key))) n (ldW w)
theorem sxp_stay{prog:Program}{w:World}{a:Addr}{ns:List Int}:∀ h1 h2:Heap,SXp prog w a ns h1->(∀ o,h1.get? a=some o->h2.get? a=some o)->SXp prog w a ns h2:=fun h1 h2 u k=>by
 obtain ⟨n,o,es,ep,t,e,q⟩:=u
 exact ⟨n,o,es,ep,t,k _ e,q⟩
def tSetW(prog:Program)(w:World)(xs:List V)(H:Hp)(Q:VK):Prop:=∃ (p:Addr) (ks:List Int),xs=[.ref p]/\H p=some (.lst (ks.map V.int))/\ks.length<=64/\∀ a,H a=none->Q (.ref a) (upd H a (.ext (SXp prog w a ks)))
theorem m_s{X:Cx}(hc:X.calm=true)(hu:X.A.units+64<cLine):CallR X (.type "set") (tSetW X.prog X.w):=by
 intro pins s σ H xs us Q I r h
 obtain ⟨p,ks,rfl,hp,hl,q⟩:=h
 obtain ⟨u,rfl,ru⟩:=vals1 r
 cases ru
 obtain ⟨its,rv,pl,hz⟩:=I.list (SqL.of hp)
 have hlen:its.length=ks.length:=by rw [<-rv.length,List.length_map]
 refine call_X (knd:=mixKind X.prog X.w) (ks:=ks.map Sum.inl) (d0:=.inr "") (I.ok.hd hc) (by lia) pl.isList (by rw [List.size_toArray,hlen,List.length_map]) (by rw [List.size_toArray,hlen];exact hl) (fun i v hv=>?_) fun h' tk hto hS hk=>?_
 ·have hv':its[i]? = some v:=by simpa using hv
  obtain ⟨x,hx,hr⟩:=r_e rv i v hv'
  obtain ⟨t,rfl⟩:=hr
  rw [List.getD_eq_getElem?_getD,List.getElem?_map,hx]
  exact ⟨u_q (k:=.inl x) ⟨t,rfl⟩,rfl,rfl⟩
 ·have ho:∃ o,h'.get? s.heap.objs.size=some o:=let ⟨o,_,_,_,e,_⟩:=hS;⟨o,e⟩
  exact ⟨.ref s.heap.objs.size,_,I.laid (a:=s.heap.objs.size) (o:=.ext (SXp X.prog X.w s.heap.objs.size ks)) hk (Nat.le_refl _) ⟨⟨_,hS⟩,ho,sxp_stay⟩,rfl,q _ (I.hok.fresh (Nat.le_refl _))⟩
def tSortW(prog:Program)(w:World)(xs:List V)(H:Hp)(Q:VK):Prop:=∃ (p:Addr) (ns:List Int),xs=[.ref p]/\H p=some (.ext (SXp prog w p ns))/\∀ (a:Addr) (js:List Int),H a=none->js.length<=64->js.Pairwise (· < ·)->(∀ k,k∈js↔k∈ns)->Q (.ref a) (upd H a (.lst (js.map V.int)))
theorem n_m{X:Cx}(hc:X.calm=true):CallR X (.builtin "sorted") (tSortW X.prog X.w):=by
 intro pins s σ H xs us Q I r h
 obtain ⟨p,ns,rfl,hp,q⟩:=h
 obtain ⟨u,rfl,ru⟩:=vals1 r
 cases ru
 obtain ⟨⟨n,hS⟩,_⟩:=(show ObjOk X.prog X.w H s.heap p (.ext (SXp X.prog X.w p ns)) from I.hok p _ hp)
 refine sortedSet (I.ok.hd hc) hS fun h' tk us o js k1 k2 q1 z1 z2 q2 q3=>?_
 have rv':=v_o q1
 have g1:=Heap.get?_push_size h' (o:=seqObj "list" us.toArray 0) rfl
 refine ⟨.ref h'.objs.size,_,I.laid (a:=h'.objs.size) (o:=.lst (js.map V.int)) (t':=tk) (fun b u e=>?_) k2 ⟨?_,?_⟩,rfl,q _ js (I.hok.fresh k2) z2 q2 q3⟩
 ·have hb:=k1 b u e
  have lt:=Heap.lt_size hb
  rw [sortedHeap_old (Nat.ne_of_lt lt) (by rw [size_push'];exact Nat.lt_succ_of_lt lt)]
  exact Heap.get?_push_of_some _ hb
 ·rw [List.length_map,sizeLine_eq]
  lia
 ·obtain ⟨n,hn⟩:=sortedHeap_at (out:=o) g1
  exact ⟨o.toList,n,rv',hn⟩
def tSS(t:TA):TE:=fun σ H Q=>t σ H fun vs H1=>∃ (p:Addr) (ns:List Int),vs=[.ref p]/\H1 p=some (.lst (ns.map V.int))/\ns.length<=64/\∀ (c:Addr) (o:HO),H1 c=none->∀ (a:Addr) (js:List Int),upd H1 c o a=none->js.length<=64->js.Pairwise (· < ·)->(∀ k,k∈js↔k∈ns)->Q (.ref a) (upd (upd H1 c o) a (.lst (js.map V.int)))
theorem t_v{X:Cx}{e:Expr}{t:TA}{p p2 pos pos2:Pos}(hc:X.calm=true)(hu:X.A.units+64<cLine)(hg:Gl X "sorted")(hm:X.mg "sorted" = none)(hv:bootBuiltins "sorted" = some (.builtin "sorted"))(hg2:Gl X "set")(hm2:X.mg "set" = none)(hv2:bootBuiltins "set" = some (.type "set"))
  (ha:PA X [e] t) (he:starEach [e] X.env=(false,eval e X.env)::starEach [] X.env:=by rfl):PE X (.Call (.Name "sorted" p) [.Call (.Name "set" p2) [e] [] pos2] [] pos) (tSS t):=by
 intro pins s σ H Q I h
 have ha':PA X [e] (fun σ0 H0 QA=>∃ Q0,t σ0 H0 Q0/\∀ vs H1,Q0 vs H1->QA vs H1):=fun pos pins s σ H QA I ⟨Q0,h0,h1⟩=>thn (ha pos pins s σ H _ I h0) fun us s1 ⟨vs,H1,I1,r1,q1⟩=>⟨vs,H1,I1,r1,h1 _ _ q1⟩
 have pe:=z_q (p:=p) (pos:=pos) (n_m hc) hg hm hv (z_a (y_q (p:=p2) (pos:=pos2) (m_s hc hu) hg2 hm2 hv2 ha' (he:=he)) z_e)
 refine pe pins s σ H Q I ⟨_,h,fun vs H1 ⟨a,ns,e1,e2,e3,q⟩=>⟨a,ns,e1,e2,e3,fun c hc=>?_⟩⟩
 exact ⟨c,ns,rfl,z_c,fun a js hn z q2 q3=>q c _ hc a js hn z q2 q3⟩
open PySem
theorem inc_eq:∀ {xs ys:List Int},xs.Pairwise (· < ·)->ys.Pairwise (· < ·)->(∀ k,k∈xs↔k∈ys)->xs=ys
 | [],[],_,_,_=>rfl
 | [],y::ys,_,_,h=>by have:=(h y).mpr (List.mem_cons_self ..);cases this
 | x::xs,[],_,_,h=>by have:=(h x).mp (List.mem_cons_self ..);cases this
 | x::xs,y::ys,hx,hy,h=>by
  obtain ⟨hx1,hx2⟩:=List.pairwise_cons.mp hx
  obtain ⟨hy1,hy2⟩:=List.pairwise_cons.mp hy
  have e:x=y:=by
   rcases List.mem_cons.mp ((h x).mp (List.mem_cons_self ..)) with e | e
   ·exact e
   ·rcases List.mem_cons.mp ((h y).mpr (List.mem_cons_self ..)) with e' | e'
    ·exact e'.symm
    ·have:=hy1 x e;have:=hx1 y e';lia
  subst e
  rw [inc_eq hx2 hy2 fun k=>?_]
  constructor
  ·intro hk
   rcases List.mem_cons.mp ((h k).mp (List.mem_cons_of_mem _ hk)) with e | e
   ·have:=hx1 k hk;lia
   ·exact e
  ·intro hk
   rcases List.mem_cons.mp ((h k).mpr (List.mem_cons_of_mem _ hk)) with e | e
   ·have:=hy1 k hk;lia
   ·exact e
structure SgL(m:Nat)(p:Nat×Nat)(js:List Int):Prop where
 up:js.Pairwise (· < ·)
 pos:∀ k:Nat,(k:Int)+1∈js↔p.1.testBit k=true
 neg:∀ k:Nat,-1-(k:Int)∈js↔p.2.testBit k=true
 nz:(0:Int)∉js
 few:∀ k:Nat,p.1.testBit k=true\/p.2.testBit k=true->k<m
 apart:∀ k:Nat,p.1.testBit k=true->p.2.testBit k=true->False
theorem w_y(z:Int):z=0\/(∃ k:Nat,z=(k:Int)+1)\/∃ k:Nat,z = -1-(k:Int):=by
 rcases (show z=0\/0<z\/z<0 by lia) with h | h | h
 ·exact .inl h
 ·exact .inr (.inl ⟨(z-1).toNat,by lia⟩)
 ·exact .inr (.inr ⟨(-1-z).toNat,by lia⟩)
section
variable {m:Nat} {p q:Nat×Nat} {xs ys zs:List Int}
theorem SgL.uniq(h:SgL m p xs)(h':SgL m p ys):xs=ys:=inc_eq h.up h'.up fun z=>by
 rcases w_y z with rfl | ⟨k,rfl⟩ | ⟨k,rfl⟩
 ·exact ⟨fun e=>absurd e h.nz,fun e=>absurd e h'.nz⟩
 ·rw [h.pos,h'.pos]
 ·rw [h.neg,h'.neg]
theorem SgL.same(h:SgL m p xs)(h':SgL m q xs):p=q:=Prod.ext
 (Nat.eq_of_testBit_eq fun k=>Bool.eq_iff_iff.mpr ((h.pos k).symm.trans (h'.pos k)))
 (Nat.eq_of_testBit_eq fun k=>Bool.eq_iff_iff.mpr ((h.neg k).symm.trans (h'.neg k)))
theorem SgL.len(h:SgL m p xs):xs.length<=m:=by
 have nd:(xs.map Int.natAbs).Nodup:=by
  rw [List.nodup_iff_pairwise_ne,List.pairwise_map]
  refine List.Pairwise.imp_of_mem (fun {a b} ha hb hab e=>?_) h.up
  rcases w_y a with rfl | ⟨k,rfl⟩ | ⟨k,rfl⟩
  ·exact h.nz ha
  ·rcases w_y b with rfl | ⟨k',rfl⟩ | ⟨k',rfl⟩
   ·exact h.nz hb
   ·lia
   ·have:k=k':=by lia
    subst this
    exact h.apart k ((h.pos k).mp ha) ((h.neg k).mp hb)
  ·rcases w_y b with rfl | ⟨k',rfl⟩ | ⟨k',rfl⟩
   ·exact h.nz hb
   ·have:k=k':=by lia
    subst this
    exact h.apart k ((h.pos k).mp hb) ((h.neg k).mp ha)
   ·lia
 have:=u_d (ys:=(List.range m).map (· + 1)) nd fun x hx=>by
  obtain ⟨z,hz,rfl⟩:=List.mem_map.mp hx
  rcases w_y z with rfl | ⟨k,rfl⟩ | ⟨k,rfl⟩
  ·exact absurd hz h.nz
  ·exact List.mem_map.mpr ⟨k,List.mem_range.mpr (h.few k (.inl ((h.pos k).mp hz))),by lia⟩
  ·exact List.mem_map.mpr ⟨k,List.mem_range.mpr (h.few k (.inr ((h.neg k).mp hz))),by lia⟩
 rw [List.length_map,List.length_map,List.length_range] at this
 exact this
theorem SgL.nil:SgL m (0,0) []:=⟨.nil,fun k=>by simp,fun k=>by simp,by simp,fun k h=>by simp at h,fun k h=>by simp at h⟩
theorem s_i(i k:Nat):(2^i).testBit k=true↔i=k:=by rw [Nat.testBit_two_pow];exact decide_eq_true_iff
theorem SgL.one{i:Nat}(h:i<m):SgL m (2^i,0) [(i:Int)+1] :=
 ⟨List.pairwise_singleton ..,fun k=>by rw [s_i,List.mem_singleton];lia,fun k=>by rw [List.mem_singleton];simp;lia,by rw [List.mem_singleton];lia,fun k e=>by
  rcases e with e | e
  ·have:=(s_i i k).mp e;lia
  ·simp at e,fun k _ e=>by simp at e⟩
theorem SgL.two{i:Nat}(h:i<m):SgL m (0,2^i) [-1-(i:Int)] :=
 ⟨List.pairwise_singleton ..,fun k=>by rw [List.mem_singleton];simp;lia,fun k=>by rw [s_i,List.mem_singleton];lia,by rw [List.mem_singleton];lia,fun k e=>by
  rcases e with e | e
  ·simp at e
  ·have:=(s_i i k).mp e;lia,fun k e=>by simp at e⟩
theorem SgL.ors(h:SgL m p xs)(h':SgL m q ys)(hz:∀ k,k∈zs↔k∈xs++ys)(k:Nat):((k:Int)+1∈zs↔(p.1|||q.1).testBit k=true)/\(-1-(k:Int)∈zs↔(p.2|||q.2).testBit k=true):=by
 rw [hz,hz,List.mem_append,List.mem_append,h.pos,h'.pos,h.neg,h'.neg,Nat.testBit_or,Nat.testBit_or,Bool.or_eq_true,Bool.or_eq_true]
 exact ⟨Iff.rfl,Iff.rfl⟩
theorem SgL.join(h:SgL m p xs)(h':SgL m q ys)(up:zs.Pairwise (· < ·))(hz:∀ k,k∈zs↔k∈xs++ys)(c:(p.1|||q.1)&&&(p.2|||q.2)=0):SgL m (p.1|||q.1,p.2|||q.2) zs where
 up:=up
 pos:=fun k=>(h.ors h' hz k).1
 neg:=fun k=>(h.ors h' hz k).2
 nz:=by rw [hz,List.mem_append];exact fun e=>e.elim h.nz h'.nz
 few:=fun k e=>by
  rw [Nat.testBit_or,Nat.testBit_or,Bool.or_eq_true,Bool.or_eq_true] at e
  rcases e with (e | e) | (e | e)
  ·exact h.few k (.inl e)
  ·exact h'.few k (.inl e)
  ·exact h.few k (.inr e)
  ·exact h'.few k (.inr e)
 apart:=fun k e1 e2=>by
  have:=Nat.testBit_and (p.1|||q.1) (p.2|||q.2) k
  rw [c,e1,e2] at this
  simp at this
theorem SgL.no(h:SgL m p xs){z:Int}(hz:z∈xs) : -z∉xs:=fun e=>by
 rcases w_y z with rfl | ⟨k,rfl⟩ | ⟨k,rfl⟩
 ·exact h.nz hz
 ·exact h.apart k ((h.pos k).mp hz) ((h.neg k).mp (by rw [show -1-(k:Int) = -((k:Int)+1) by lia];exact e))
 ·exact h.apart k ((h.pos k).mp (by rw [show (k:Int)+1 = -(-1-(k:Int)) by lia];exact e)) ((h.neg k).mp hz)
theorem SgL.yes(h:SgL m p xs)(h':SgL m q ys)(hz:∀ k,k∈zs↔k∈xs++ys)(c:(p.1|||q.1)&&&(p.2|||q.2)≠0):∃ z∈zs,-z∈zs:=by
 obtain ⟨k,hk⟩:=Nat.exists_testBit_of_ne_zero c
 rw [Nat.testBit_and,Bool.and_eq_true] at hk
 exact ⟨_,(h.ors h' hz k).1.mpr hk.1,by rw [show -((k:Int)+1) = -1-(k:Int) by lia];exact (h.ors h' hz k).2.mpr hk.2⟩
end
def rpL(m:Nat)(H:Hp)(v:V):Option Ses->Prop
 | none=>v = .non
 | some none=>∃ a,v = .ref a/\H a=some (.lst [.int 0])
 | some (some p)=>∃ a js,v = .ref a/\H a=some (.lst (js.map V.int))/\SgL m p js
theorem rpL.same{m:Nat}{H J:Hp}{v:V}:∀ {x:Option Ses},rpL m H v x->Same H J->rpL m J v x
 | none,h,_=>h
 | some none,⟨a,e,h⟩,s=>⟨a,e,s _ _ h⟩
 | some (some p),⟨a,js,e,h,g⟩,s=>⟨a,js,e,s _ _ h,g⟩
theorem rpL.non{m:Nat}{H:Hp}{v:V}{x:Option Ses}(h:rpL m H v x):v = .non↔x=none:=by
 rcases x with _ | _ | p
 ·exact ⟨fun _=>rfl,fun _=>h⟩
 ·obtain ⟨a,e,_⟩:=h
  exact ⟨(fun q=>by rw [e] at q;cases q),nofun⟩
 ·obtain ⟨a,js,e,_⟩:=h
  exact ⟨(fun q=>by rw [e] at q;cases q),nofun⟩
theorem rpL.up{m:Nat}{H:Hp}{p:Addr}{us:List V}{o:HO}{v:V}:∀ {x:Option Ses},rpL m H v x->H p=some (.lst (.non::us))->rpL m (upd H p o) v x
 | none,h,_=>h
 | some none,⟨a,e,h⟩,hp=>⟨a,e,by rw [z_n (fun z=>by rw [z,hp] at h;cases h)];exact h⟩
 | some (some q),⟨a,js,e,h,g⟩,hp=>⟨a,js,e,by
  rw [z_n (fun z=>by
   rw [z,hp] at h
   cases js with
   | nil=>cases h
   | cons j js=>cases h)]
  exact h,g⟩
def dLi(js:List Int):PyData:=.list (js.map PyData.int)
theorem m_w(js:List Int):Cmp 64 (dLi js):=(Cmp.list (Cmp.ints js)).mono (show 1<=64 by decide)
theorem s_m(js ks:List Int):PyData.eqv (dLi js) (dLi ks)=decide (js=ks):=u_o js ks
theorem rpL.dat{K:PySem.W.Frag}{m:Nat}{H:Hp}{v:V}:∀ {x:Option Ses},rpL m H v x->∃ d,RdD K H d v/\Cmp 64 d/\match x with | none=>d = .none | some none=>d=dLi [0] | some (some p)=>∃ js,d=dLi js/\SgL m p js
 | none,h=>⟨.none,by unfold RdD;exact h,Cmp.none,rfl⟩
 | some none,⟨a,e,h⟩=>⟨dLi [0],by rw [e];exact RdD.lst (SqL.of h) (RdDs.ints [0]),m_w _,rfl⟩
 | some (some p),⟨a,js,e,h,g⟩=>⟨dLi js,by rw [e];exact RdD.lst (SqL.of h) (RdDs.ints js),m_w _,js,rfl,g⟩
theorem rpL.eqv{K:PySem.W.Frag}{m:Nat}{H:Hp}{v v':V}{x x':Option Ses}(h:rpL m H v x)(h':rpL m H v' x'):∃ d d',RdD K H d v/\RdD K H d' v'/\Cmp 64 d/\Cmp 64 d'/\PyData.eqv d d'=decide (x=x'):=by
 obtain ⟨d,r,c,e⟩:=h.dat (K:=K)
 obtain ⟨d',r',c',e'⟩:=h'.dat (K:=K)
 refine ⟨d,d',r,r',c,c',?_⟩
 rcases x with _ | _ | p<;>rcases x' with _ | _ | q
 ·rw [e,e'];rfl
 ·rw [e,e'];rfl
 ·obtain ⟨js,e',_⟩:=e'
  rw [e,e'];rfl
 ·rw [e,e'];rfl
 ·rw [e,e',s_m];rfl
 ·obtain ⟨js,e',g⟩:=e'
  rw [e,e',s_m,decide_eq_false (fun q=>g.nz (by rw [<-q];simp))]
  rfl
 ·obtain ⟨js,e,g⟩:=e
  rw [e,e'];rfl
 ·obtain ⟨js,e,g⟩:=e
  rw [e,e',s_m,decide_eq_false (fun q=>g.nz (by rw [q];simp))]
  rfl
 ·obtain ⟨js,e,g⟩:=e
  obtain ⟨ks,e',g'⟩:=e'
  rw [e,e',s_m]
  refine decide_eq_decide.mpr ⟨fun q=>?_,fun q=>?_⟩
  ·subst q;rw [g.same g']
  ·cases q;exact g.uniq g'
def gkr(R:Nat->Nat)(zs:List (Nat×Nat)):List (Nat×Ses):=zs.flatMap fun p=>[(R p.1,some (2^p.2,0)),(R p.1^^^1,some (0,2^p.2))]
theorem u_c{β:Type}(k:Nat)(w:β)(E:List (Nat×β))(x:Nat):lkG ((k,w)::E) x=if k=x then some w else lkG E x:=by
 unfold lkG
 rw [List.find?_cons]
 by_cases c:k=x
 ·simp [c]
 ·simp [c]
theorem givR_eq(R:Nat->Nat)(ls:List Nat)(e:Nat):givR R ls e=if 0=R e then some none else if 1=R e then some (some (0,0)) else lkG (gkr R ls.zipIdx) (R e):=by
 unfold givR gkR
 rw [u_c,u_c]
 rfl
theorem gkr_at{R:Nat->Nat}{ls:List Nat}{i x e:Nat}(hx:ls[i]? = some x):lkG (gkr R (ls.zipIdx.drop i)) (R e)=if R x=R e then some (some (2^i,0)) else if R x^^^1=R e then some (some (0,2^i)) else lkG (gkr R (ls.zipIdx.drop (i+1))) (R e):=by
 have hz:ls.zipIdx[i]? = some (x,i):=by rw [List.getElem?_zipIdx,hx];simp
 have hd:ls.zipIdx.drop i=(x,i)::ls.zipIdx.drop (i+1):=by
  obtain ⟨hl,e⟩:=List.getElem?_eq_some_iff.mp hz
  rw [List.drop_eq_getElem_cons hl,e]
 rw [hd]
 show lkG ((R x,some (2^i,0))::(R x^^^1,some (0,2^i))::gkr R (ls.zipIdx.drop (i+1))) (R e)=_
 rw [u_c,u_c]
theorem gkr_end{R:Nat->Nat}{ls:List Nat}{e:Nat}:lkG (gkr R (ls.zipIdx.drop ls.length)) (R e)=none:=by
 rw [List.drop_of_length_le (by rw [List.length_zipIdx];exact Nat.le_refl _)]
 rfl
def comS(R:Nat->Nat)(ls:List Nat)(F:Nat->Option Ses)(e:Nat):Option Ses:=match givR R ls e with
 | some w=>some w
 | none=>if e%2=1 then none else F (e/2)
def knS(R:Nat->Nat)(L:Nat)(gs:List (Nat×Nat))(ls:List Nat)(k:Nat):Option Ses:=if L<k then match gs[k-L-1]? with
  | some p=>bthS (valR R L gs ls p.1) (valR R L gs ls p.2)
  | none=>none
 else none
theorem u_h{R:Nat->Nat}{L:Nat}{gs:List (Nat×Nat)}{ls:List Nat}(hg:GtO L gs)(e:Nat):valR R L gs ls e=comS R ls (knS R L gs ls) e:=by
 unfold valR
 rw [r_t hg]
 unfold rhsG comS knS
 cases givR R ls e with
 | some w=>rfl
 | none =>
  dsimp only
  by_cases c:e%2=1
  ·rw [if_pos c,if_pos c]
   split<;>rfl
  ·rw [if_neg c,if_neg c]
   rfl
def gooR(R:Nat->Nat)(L:Nat)(gs:List (Nat×Nat))(a b:Nat)(ls:List Nat):Bool:=decide (ls.length<=64/\Dst R ls/\valR R L gs ls a≠none/\valR R L gs ls a=valR R L gs ls b)
theorem r_q:∀ ws:List Int,(ws.map V.int).all flatV=true
 | []=>rfl
 | w::ws=>r_q ws
theorem o_f(z:Int):∀ ws:List Int,inV (V.int z) (ws.map V.int)=decide (z∈ws)
 | []=>rfl
 | w::ws=>by
  have ih:=o_f z ws
  unfold inV at ih ⊢
  rw [List.map_cons,List.any_cons,ih]
  show (decide (w=z) || _)=_
  by_cases c:w=z
  ·subst c;simp
  ·have:¬z=w:=fun h=>c h.symm
   simp [c,this]
theorem cut_two{es:List Nat}(h:2<=es.length):cutV (z_h es) (some 2) none=z_h (es.drop 2):=by
 unfold cutV
 rw [show HT.sIx (z_h es).length 0 (some 2)=2 by rw [show (2:Int)=((2:Nat):Int) from rfl,HT.sIx_nat,z_i];lia,HT.sIx_none,List.take_of_length_le (by rw [List.length_drop];exact Nat.le_refl _)]
 unfold z_h
 rw [List.map_drop]
theorem cut_lst2{es:List Nat}(h:2<=es.length):cutV (z_h es) none (some (-2))=z_h (es.take (es.length-2)):=by
 unfold cutV
 rw [HT.sIx_none,List.drop_zero,Nat.sub_zero,show HT.sIx (z_h es).length (z_h es).length (some (-2))=es.length-2 by
  show (if (-2:Int)<0 then (-2+((z_h es).length:Int)).toNat else min (-2:Int).toNat (z_h es).length)=es.length-2
  rw [if_pos (by decide),z_i]
  lia]
 unfold z_h
 rw [List.map_take]
theorem o_l{Ls:List Nat}{k:Nat}(h0:0<k)(h:k<=Ls.length):atI (z_h Ls) (-(k:Int))=some (.int (Ls.getD (Ls.length-k) 0:Nat)):=by
 have e:=y_n (Ls:=Ls) (k:=Ls.length-k) (by lia)
 unfold atI at e ⊢
 rw [z_i] at e ⊢
 have e1:ixN Ls.length (-(k:Int))=some (Ls.length-k):=by
  unfold ixN
  rw [if_neg (by lia),if_pos (by lia)]
  congr 1
  lia
 have e2:ixN Ls.length ((Ls.length-k:Nat):Int)=some (Ls.length-k):=by
  unfold ixN
  rw [if_pos (by lia),if_pos (by lia)]
  congr 1
 rw [e2] at e
 rw [e1]
 exact e
theorem t_s:∀ (es:List Nat) (k:Nat),(z_h es).eraseIdx k=z_h (es.eraseIdx k)
 | [],_=>rfl
 | e::es,0=>rfl
 | e::es,k+1=>by
  show V.int (e:Int)::(z_h es).eraseIdx k=_
  rw [t_s es k]
  rfl
theorem nats_set(es:List Nat)(k x:Nat):(z_h es).set k (.int (x:Int))=z_h (es.set k x):=by
 unfold z_h
 rw [List.map_set]
theorem ix_nat{n k:Nat}(h:k<n):ixN n (k:Int)=some k:=by
 unfold ixN
 rw [if_pos (by lia),if_pos (by lia),Int.toNat_natCast]
theorem inc_len{js:List Int}{es:List Nat}(up:js.Pairwise (· < ·))(h:∀ k∈js,k∈es.map (fun e:Nat=>(e:Int))):js.length<=es.length:=by
 have nn:∀ k∈js,0<=k/\k.toNat∈es:=fun k hk=>by
  obtain ⟨e,he,rfl⟩:=List.mem_map.mp (h k hk)
  exact ⟨by lia,by rw [Int.toNat_natCast];exact he⟩
 have nd:(js.map Int.toNat).Nodup:=by
  rw [List.nodup_iff_pairwise_ne,List.pairwise_map]
  refine List.Pairwise.imp_of_mem (fun {a b} ha hb hab e=>?_) up
  have h1:=(nn a ha).1
  have h2:=(nn b hb).1
  lia
 have:=u_d (ys:=es) nd fun x hx=>by
  obtain ⟨k,hk,rfl⟩:=List.mem_map.mp hx
  exact (nn k hk).2
 rwa [List.length_map] at this
def n_d(C:Addr):Sp:=fun vs H Q _=>∃ (net g o l st lt:Addr) (rs:List Addr) (L n a b:Nat) (gs:List (Nat×Nat)) (R:Nat->Nat) (ls:List Nat),vs=[.ref net,.ref o,.ref st]/\StpG C H net g o l st lt rs L n a b gs R ls "row" /\ ls.length<=65/\∀ H',Ch l H H'->ClsAt C H' o l n R->Q (.bl (decide (ls.length<=64/\Dst R ls))) H'
def n_b(C tp2:Addr)(lp2:Pos)(lq2:Str):Sp:=fun vs H Q _=>∃ (net g o l st lt:Addr) (rs:List Addr) (L n a b:Nat) (gs:List (Nat×Nat)) (R:Nat->Nat) (ls:List Nat),vs=[.ref net,.ref o,.ref st]/\StpG C H net g o l st lt rs L n a b gs R ls "row" /\ ls.length<=65/\H tp2=some (.tbl lp2 lq2)/\∀ H',Ch l H H'->ClsAt C H' o l n R->Q (.bl (gooR R L gs a b ls)) H'
def s_c:Sp:=fun vs H Q _=>∃ (pl pt ps:Addr) (Ls ls L0:List Nat) (us:List V) (e n:Nat) (R:Nat->Nat) (F:Nat->Option Ses),vs=[.ref pl,.ref pt,.ref ps,.int (e:Int)]/\H pl=some (.lst (z_h Ls))/\Uf n L0 R/\Lb n Ls R/\0<n/\H pt=some (.tup (z_h ls))/\ls.length<=64/\(∀ e∈ls,e<2*n)/\e<2*n /\
 H ps=some (.lst us)/\(∀ k u,us[k]? = some u->rpL ls.length H u (F k))/\e/2<us.length/\∀ v H',Same H H'->rpL ls.length H' v (comS R ls F e)->Q v H'
def s_b:Sp:=fun vs H Q _=>∃ (v1 v2:V) (x y:Option Ses) (m:Nat),vs=[v1,v2]/\m<=32/\rpL m H v1 x/\rpL m H v2 y/\∀ v H',Same H H'->rpL m H' v (bthS x y)->Q v H'
def q_p(C:Addr):Sp:=fun vs H Q _=>∃ (net g o l st lt pl:Addr) (rs:List Addr) (L n a b:Nat) (gs:List (Nat×Nat)) (R:Nat->Nat) (ls Ls:List Nat),vs=[.ref net,.ref pl,.ref st]/\StpG C H net g o l st lt rs L n a b gs R ls "row" /\ n<=1000/\(ls.length<=32\/ls.length=65)/\H pl=some (.lst (z_h Ls))/\Lb n Ls R /\
 ∀ H',Same H H'->Q (.bl (gooR R L gs a b ls)) H'
def s_e:Sp:=fun vs H Q _=>∃ (net g pe:Addr) (rs:List Addr) (L:Nat) (gs:List (Nat×Nat)) (es:List Nat) (lf:Bool),vs=[.ref net,.ref pe,.bl lf]/\IsNet H net g rs (L:Int) (gI gs)/\GtO L gs/\H pe=some (.lst (z_h es))/\1<=es.length/\es.length<=32/\(∀ e∈es,e<2*(1+L+gs.length))/\gs.length<=100 /\
 ∀ (t net' g':Addr) (rs':List Addr) (gs':List (Nat×Nat)) (top:Nat) H',Same H H'->H' t=some (.tup [.ref net',.int (top:Int)])->IsNet H' net' g' rs' (L:Int) (gI gs')->GtO L gs'->gs'.length=gs.length+(es.length-1)->top<2*(1+L+gs'.length)->Q (.ref t) H'
def s_d:Sp:=fun vs H Q _=>∃ (net g r tp pe:Addr) (rs:List Addr) (L n f s:Nat) (gs:List (Nat×Nat)) (rw:List Int) (es:List Nat),vs=[.ref net,.ref r,.ref tp,.ref pe]/\IsNet H net g rs (L:Int) (gI gs)/\n=1+L+gs.length/\2<=n/\n<=1000/\H r=some (.lst (rw.map V.int))/\rw.length=10/\Drawn rw/\H tp=some (.tup [.int (f:Int),.int (s:Int)])/\f<2*n/\s<2*n/\H pe=some (.lst (z_h es))/\es.length<=32/\(∀ e∈es,e<2*n) /\
 ∀ (st lt:Addr) (a b:Nat) (ls:List Nat) H',Same H H'->H' st=some (.tup [.str "row",.int (a:Int),.int (b:Int),.ref lt])->H' lt=some (.tup (z_h ls))->a<2*n->b<2*n->(∀ e∈ls,e<2*n)->(ls.length<=32\/ls.length=65)->Q (.ref st) H'
open PySem PySem.Spec PyProof.Rows
end L2
set_option maxHeartbeats 4000000
namespace K37
open PySem L2
def top(i:Nat):Stmt:=PySem.Challenge.pw_lampforge_k37_rows_good_or_not.main.body.getD i (.Pass ⟨0,0,0,0⟩)
abbrev w_j:Stmt:=top 1
abbrev x_h:Stmt:=top 2
abbrev x_v:Stmt:=top 4
abbrev v_n:Stmt:=top 6
abbrev w_t:Stmt:=top 10
abbrev w_u:Stmt:=top 11
abbrev z_x:Stmt:=top 12
abbrev w_l:Stmt:=top 13
abbrev z_v:Stmt:=top 14
abbrev x_r:Stmt:=top 15
abbrev w_i:Stmt:=top 16
abbrev t_f:Stmt:=top 17
abbrev y_y:Stmt:=inClass (top 19) 0
abbrev y_r:Stmt:=inClass (top 19) 1
abbrev x_c:Stmt:=inClass (top 19) 2
abbrev y_z:Stmt:=inClass (top 19) 3
abbrev t_e:Stmt:=top 21
abbrev t_d:Stmt:=top 22
abbrev w_h:Stmt:=top 23
abbrev v_m:Stmt:=top 24
abbrev v_k:Stmt:=top 25
abbrev v_j:Stmt:=top 26
abbrev t_c:Stmt:=top 27
abbrev v_l:Stmt:=top 28
abbrev k_w:Stmt:=top 29
theorem p_p:FnScope ["thing"] ["thing"] (z_p w_j):=⟨rfl,rfl,rfl,by decide +kernel,rfl,by decide +kernel,by decide +kernel⟩
theorem r_a:FnScope ["thing", "low", "high"] ["thing", "low", "high"] (z_p x_h):=⟨rfl,rfl,rfl,by decide +kernel,rfl,by decide +kernel,by decide +kernel⟩
theorem k_y:FnScope ["thing", "knots"] ["thing", "knots"] (z_p v_n):=⟨rfl,rfl,rfl,by decide +kernel,rfl,by decide +kernel,by decide +kernel⟩
theorem sc_is_good:FnScope ["net", "classes", "step", "found"] ["net", "classes", "step"] (z_p w_t):=⟨rfl,rfl,rfl,by decide +kernel,rfl,by decide +kernel,by decide +kernel⟩
theorem sc_is_step:FnScope ["net", "classes", "thing", "knots", "knots_of_leaves"] ["net", "classes", "thing"] (z_p w_u):=⟨rfl,rfl,rfl,by decide +kernel,rfl,by decide +kernel,by decide +kernel⟩
theorem sc_sets_of_both:FnScope ["net", "classes", "step", "given", "power", "leaf"] ["net", "classes", "step"] (z_p z_v):=⟨rfl,rfl,rfl,by decide +kernel,rfl,by decide +kernel,by decide +kernel⟩
theorem sc_both_sets:FnScope ["one", "other", "leaves", "contraries"] ["one", "other"] (z_p x_r):=⟨rfl,rfl,rfl,by decide +kernel,rfl,by decide +kernel,by decide +kernel⟩
theorem sc_found_of:FnScope ["net", "classes", "given", "ends", "turned", "both", "found", "gates", "waiting", "end", "things"] ["net", "classes", "given", "ends", "turned", "both"] (z_p w_i):=⟨rfl,rfl,rfl,by decide +kernel,rfl,by decide +kernel,by decide +kernel⟩
theorem sc_below:FnScope ["net", "end"] ["net", "end"] (z_p t_f):=⟨rfl,rfl,rfl,by decide +kernel,rfl,by decide +kernel,by decide +kernel⟩
theorem t_g:FnScope ["self", "knots"] ["self", "knots"] (z_p y_y):=⟨rfl,rfl,rfl,by decide +kernel,rfl,by decide +kernel,by decide +kernel⟩
theorem sc_Classes_least:FnScope ["self", "end", "lesser", "way", "passed"] ["self", "end"] (z_p y_r):=⟨rfl,rfl,rfl,by decide +kernel,rfl,by decide +kernel,by decide +kernel⟩
theorem sc_Classes_join:FnScope ["self", "one", "other", "low", "high"] ["self", "one", "other"] (z_p y_z):=⟨rfl,rfl,rfl,by decide +kernel,rfl,by decide +kernel,by decide +kernel⟩
theorem sc_L_row:FnScope ["_law_script", "_law_at", "_law_many", "_law_cell", "_law_rest", "_law_great", "_law_row_here", "_law_k", "_law_one"] ["_law_script", "_law_at", "_law_many"] (z_p t_e):=⟨rfl,rfl,rfl,by decide +kernel,rfl,by decide +kernel,by decide +kernel⟩
theorem sc_L_net:FnScope ["_law_row_here", "_law_sizes", "_law_leaves", "_law_gates", "_law_k"] ["_law_row_here", "_law_sizes"] (z_p t_d):=⟨rfl,rfl,rfl,by decide +kernel,rfl,by decide +kernel,by decide +kernel⟩
theorem sc_L_joined:FnScope ["_law_labels", "_law_one", "_law_other", "_law_pairs"] ["_law_labels", "_law_one", "_law_other"] (z_p w_h):=⟨rfl,rfl,rfl,by decide +kernel,rfl,by decide +kernel,by decide +kernel⟩
theorem sc_L_tree:FnScope ["_law_net_here", "_law_ends", "_law_left", "_law_gates", "_law_row_here"] ["_law_net_here", "_law_ends", "_law_left"] (z_p v_m):=⟨rfl,rfl,rfl,by decide +kernel,rfl,by decide +kernel,by decide +kernel⟩
theorem sc_L_come:FnScope ["_law_labels", "_law_leaves", "_law_sets", "_law_end", "_law_k"] ["_law_labels", "_law_leaves", "_law_sets", "_law_end"] (z_p v_k):=⟨rfl,rfl,rfl,by decide +kernel,rfl,by decide +kernel,by decide +kernel⟩
theorem sc_L_both:FnScope ["_law_mine", "_law_yours", "_law_both_here", "_law_place"] ["_law_mine", "_law_yours"] (z_p v_j):=⟨rfl,rfl,rfl,by decide +kernel,rfl,by decide +kernel,by decide +kernel⟩
theorem sc_L_due:FnScope ["_law_net_here", "_law_labels", "_law_step_here", "_law_leaves", "_law_seen", "_law_leaf", "_law_sets", "_law_a", "_law_b", "_law_mine"] ["_law_net_here", "_law_labels", "_law_step_here"] (z_p t_c):=⟨rfl,rfl,rfl,by decide +kernel,rfl,by decide +kernel,by decide +kernel⟩
theorem sc_L_step:FnScope ["_law_net_here", "_law_row_here", "_law_tops", "_law_ends", "_law_many", "_law_one", "_law_other", "_law_leaves"] ["_law_net_here", "_law_row_here", "_law_tops", "_law_ends"] (z_p v_l):=⟨rfl,rfl,rfl,by decide +kernel,rfl,by decide +kernel,by decide +kernel⟩
theorem sc_law:FnScope ["_law_script", "_law_sizes", "_law_net_here", "_law_row_here", "_law_wide", "_law_ends", "_law_first", "_law_again", "_law_second", "_law_many", "_law_some", "_law_labels", "_law_k", "_law_leaves", "_law_step_here", "_law_said"] ["_law_script"] (z_p k_w):=⟨rfl,rfl,rfl,by decide +kernel,rfl,by decide +kernel,by decide +kernel⟩
abbrev y_j:Pos:=⟨49,4,50,52⟩
abbrev y_k:Str := "bits_of_both.<locals>.turned"
abbrev z_u:Pos:=⟨61,52,61,72⟩
abbrev z_s:Str := "sets_of_both.<locals>.<lambda>"
set_option genInjectivity false in
set_option genSizeOfSpec false in
structure Ad where
 a_is_whole:Addr
 d_is_whole:FuncData
 a_is_between:Addr
 d_is_between:FuncData
 a_all_stands:Addr
 d_all_stands:FuncData
 a_is_end:Addr
 d_is_end:FuncData
 a_is_good:Addr
 d_is_good:FuncData
 a_is_step:Addr
 d_is_step:FuncData
 a_bits_of_both:Addr
 d_bits_of_both:FuncData
 a_both_bits:Addr
 d_both_bits:FuncData
 a_sets_of_both:Addr
 d_sets_of_both:FuncData
 a_both_sets:Addr
 d_both_sets:FuncData
 a_found_of:Addr
 d_found_of:FuncData
 a_below:Addr
 d_below:FuncData
 a_Classes_init:Addr
 d_Classes_init:FuncData
 a_Classes_least:Addr
 d_Classes_least:FuncData
 a_Classes_alike:Addr
 d_Classes_alike:FuncData
 a_Classes_join:Addr
 d_Classes_join:FuncData
 a_L_row:Addr
 d_L_row:FuncData
 a_L_net:Addr
 d_L_net:FuncData
 a_L_joined:Addr
 d_L_joined:FuncData
 a_L_tree:Addr
 d_L_tree:FuncData
 a_L_come:Addr
 d_L_come:FuncData
 a_L_both:Addr
 d_L_both:FuncData
 a_L_due:Addr
 d_L_due:FuncData
 a_L_step:Addr
 d_L_step:FuncData
 a_law:Addr
 d_law:FuncData
 a_MOST_LEAVES:Addr
 c_Classes:Addr
 tc_bits_of_both:Addr
 tp_bits_of_both:Addr
 tc_sets_of_both:Addr
 tp_sets_of_both:Addr
def q_t:Sp:=fun vs H Q _=>∃ i:Int,vs=[.int i]/\Q (.bl true) H
def j_f:Sp:=fun vs H Q _=>∃ i lo hi:Int,vs=[.int i,.int lo,.int hi]/\Q (.bl (decide (lo<=i)&&decide (i<=hi))) H
def j_g:Sp:=fun vs H Q _=>∃ i k:Int,vs=[.int i,.int k]/\Q (.bl (decide (0<=i)&&decide (i<=2*k-1))) H
def nv_any:Sp:=fun _ _ _ _=>False
theorem no_fn{P:Program}{w:World}{K:PySem.W.Frag}{mg:Str->Option Value}{base:Heap}{k:Nat}{f:Addr}{fd:FuncData}{ps:List Str}:FnOk P w K mg base CX0 k f fd ps nv_any:=⟨fun vs H Q E q=>(show False from q).elim,fun _ _ _ _ _ _ _ _ _ _ _ _ _ q=>(show False from q).elim⟩
def j_h(K:PySem.W.Frag)(P:Addr)(lp:Pos)(lq:Str)(P2:Addr)(lp2:Pos)(lq2:Str):Sp:=fun vs H Q _=>∃ (a:Addr) (ns:List Int),vs=[.ref a]/\SqL K H a (ns.map V.int)/\ns.length<=63/\H P=some (.tbl lp lq)/\H P2=some (.tbl lp2 lq2)/\∀ H',Q (.bl true) H'
structure Tx(w:World)(K:PySem.W.Frag)(mg:Str->Option Value)(A:Ad):Prop where
 abs:mg "abs" = none
 all:mg "all" = none
 bool:mg "bool" = none
 int:mg "int" = none
 isinstance:mg "isinstance" = none
 len:mg "len" = none
 list:mg "list" = none
 max:mg "max" = none
 min:mg "min" = none
 range:mg "range" = none
 set:mg "set" = none
 sorted:mg "sorted" = none
 str:mg "str" = none
 tuple:mg "tuple" = none
 g_MOST_LEAVES:mg "MOST_LEAVES" = some (.ref A.a_MOST_LEAVES)
 D_MOST_LEAVES:TopD w K A.a_MOST_LEAVES [("stands",V.int 6),("row",V.int 64)]
 g_LOW:∃ t,mg "LOW" = some (.str "low" t)
 F_is_whole:Fun K "is_whole" "is_whole" w_j A.a_is_whole A.d_is_whole
 B_is_whole:Binds K A.d_is_whole ["thing"] []
 M_is_whole:mg "is_whole" = some (.ref A.a_is_whole)
 F_is_between:Fun K "is_between" "is_between" x_h A.a_is_between A.d_is_between
 B_is_between:Binds K A.d_is_between ["thing", "low", "high"] []
 M_is_between:mg "is_between" = some (.ref A.a_is_between)
 F_all_stands:Fun K "all_stands" "all_stands" x_v A.a_all_stands A.d_all_stands
 B_all_stands:Binds K A.d_all_stands ["many"] []
 M_all_stands:mg "all_stands" = some (.ref A.a_all_stands)
 F_is_end:Fun K "is_end" "is_end" v_n A.a_is_end A.d_is_end
 B_is_end:Binds K A.d_is_end ["thing", "knots"] []
 M_is_end:mg "is_end" = some (.ref A.a_is_end)
 F_is_good:Fun K "is_good" "is_good" w_t A.a_is_good A.d_is_good
 B_is_good:Binds K A.d_is_good ["net", "classes", "step"] []
 M_is_good:mg "is_good" = some (.ref A.a_is_good)
 F_is_step:Fun K "is_step" "is_step" w_u A.a_is_step A.d_is_step
 B_is_step:Binds K A.d_is_step ["net", "classes", "thing"] []
 M_is_step:mg "is_step" = some (.ref A.a_is_step)
 F_bits_of_both:Fun K "bits_of_both" "bits_of_both" z_x A.a_bits_of_both A.d_bits_of_both
 B_bits_of_both:Binds K A.d_bits_of_both ["net", "classes", "step"] []
 M_bits_of_both:mg "bits_of_both" = some (.ref A.a_bits_of_both)
 F_both_bits:Fun K "both_bits" "both_bits" w_l A.a_both_bits A.d_both_bits
 B_both_bits:Binds K A.d_both_bits ["one", "other"] []
 M_both_bits:mg "both_bits" = some (.ref A.a_both_bits)
 F_sets_of_both:Fun K "sets_of_both" "sets_of_both" z_v A.a_sets_of_both A.d_sets_of_both
 B_sets_of_both:Binds K A.d_sets_of_both ["net", "classes", "step"] []
 M_sets_of_both:mg "sets_of_both" = some (.ref A.a_sets_of_both)
 F_both_sets:Fun K "both_sets" "both_sets" x_r A.a_both_sets A.d_both_sets
 B_both_sets:Binds K A.d_both_sets ["one", "other"] []
 M_both_sets:mg "both_sets" = some (.ref A.a_both_sets)
 F_found_of:Fun K "found_of" "found_of" w_i A.a_found_of A.d_found_of
 B_found_of:Binds K A.d_found_of ["net", "classes", "given", "ends", "turned", "both"] []
 M_found_of:mg "found_of" = some (.ref A.a_found_of)
 F_below:Fun K "below" "below" t_f A.a_below A.d_below
 B_below:Binds K A.d_below ["net", "end"] []
 M_below:mg "below" = some (.ref A.a_below)
 F_Classes_init:Fun K "__init__" "Classes.__init__" y_y A.a_Classes_init A.d_Classes_init
 B_Classes_init:Binds K A.d_Classes_init ["self", "knots"] []
 mk_Classes:Mk K A.c_Classes A.a_Classes_init
 F_Classes_least:Fun K "least" "Classes.least" y_r A.a_Classes_least A.d_Classes_least
 B_Classes_least:Binds K A.d_Classes_least ["self", "end"] []
 me_Classes_least:Meth K A.c_Classes "least" A.a_Classes_least
 F_Classes_alike:Fun K "alike" "Classes.alike" x_c A.a_Classes_alike A.d_Classes_alike
 B_Classes_alike:Binds K A.d_Classes_alike ["self", "one", "other"] []
 me_Classes_alike:Meth K A.c_Classes "alike" A.a_Classes_alike
 F_Classes_join:Fun K "join" "Classes.join" y_z A.a_Classes_join A.d_Classes_join
 B_Classes_join:Binds K A.d_Classes_join ["self", "one", "other"] []
 me_Classes_join:Meth K A.c_Classes "join" A.a_Classes_join
 F_L_row:Fun K "_law_row" "_law_row" t_e A.a_L_row A.d_L_row
 B_L_row:Binds K A.d_L_row ["_law_script", "_law_at", "_law_many"] []
 M_L_row:mg "_law_row" = some (.ref A.a_L_row)
 F_L_net:Fun K "_law_net" "_law_net" t_d A.a_L_net A.d_L_net
 B_L_net:Binds K A.d_L_net ["_law_row_here", "_law_sizes"] []
 M_L_net:mg "_law_net" = some (.ref A.a_L_net)
 F_L_joined:Fun K "_law_joined" "_law_joined" w_h A.a_L_joined A.d_L_joined
 B_L_joined:Binds K A.d_L_joined ["_law_labels", "_law_one", "_law_other"] []
 M_L_joined:mg "_law_joined" = some (.ref A.a_L_joined)
 F_L_tree:Fun K "_law_tree" "_law_tree" v_m A.a_L_tree A.d_L_tree
 B_L_tree:Binds K A.d_L_tree ["_law_net_here", "_law_ends", "_law_left"] []
 M_L_tree:mg "_law_tree" = some (.ref A.a_L_tree)
 F_L_come:Fun K "_law_come" "_law_come" v_k A.a_L_come A.d_L_come
 B_L_come:Binds K A.d_L_come ["_law_labels", "_law_leaves", "_law_sets", "_law_end"] []
 M_L_come:mg "_law_come" = some (.ref A.a_L_come)
 F_L_both:Fun K "_law_both" "_law_both" v_j A.a_L_both A.d_L_both
 B_L_both:Binds K A.d_L_both ["_law_mine", "_law_yours"] []
 M_L_both:mg "_law_both" = some (.ref A.a_L_both)
 F_L_due:Fun K "_law_due" "_law_due" t_c A.a_L_due A.d_L_due
 B_L_due:Binds K A.d_L_due ["_law_net_here", "_law_labels", "_law_step_here"] []
 M_L_due:mg "_law_due" = some (.ref A.a_L_due)
 F_L_step:Fun K "_law_step" "_law_step" v_l A.a_L_step A.d_L_step
 B_L_step:Binds K A.d_L_step ["_law_net_here", "_law_row_here", "_law_tops", "_law_ends"] []
 M_L_step:mg "_law_step" = some (.ref A.a_L_step)
 F_law:Fun K "law" "law" k_w A.a_law A.d_law
 B_law:Binds K A.d_law ["_law_script"] []
 M_law:mg "law" = some (.ref A.a_law)
 cl_Classes:Cls K A.c_Classes
 M_Classes:mg "Classes" = some (.ref A.c_Classes)
 n_Classes_lesser:NoAttr K A.c_Classes "lesser"
 L_bits_of_both:A.d_bits_of_both.code = .ref A.tc_bits_of_both
 L_sets_of_both:A.d_sets_of_both.code = .ref A.tc_sets_of_both
section
variable {P:Program} {w:World} {K:PySem.W.Frag} {mg:Str->Option Value} {base:Heap} {A:Ad}
seal L2.PE L2.PA L2.PT L2.PS L2.PSs
theorem p_l(T:Tx w K mg A):FnOk P w K mg base CX0 1 A.a_is_whole A.d_is_whole ["thing"] q_t:=by
 refine T.F_is_whole.ok p_p (fun vs H Q E h=>?_) (fun cdv A' outer s H vs Q E hr h=>?_)
 ·obtain ⟨i,rfl,q⟩:=h
  rfl
 obtain ⟨i,rfl,q⟩:=h
 refine ⟨_,(z_j (z_w (q_i (z_q (x_f (T := "int")) rfl T.isinstance PyProof.Rows.boot_isinstance (z_a (pv 0) (z_a (v_p (v:=.ty "int") rfl T.int PyProof.Rows.boot_int rfl) z_e))) (q_j (pe_not (z_q (x_f (T := "bool")) rfl T.isinstance PyProof.Rows.boot_isinstance (z_a (pv 0) (z_a (v_p (v:=.ty "bool") rfl T.bool PyProof.Rows.boot_bool rfl) z_e)))))))),?_⟩
 refine ⟨_,rfl,_,_,true,rfl,TyOf.int _,rfl,_,rfl,?_⟩
 exact iteT ⟨_,rfl,_,_,false,rfl,TyOf.int _,rfl,_,rfl,q⟩
theorem s_s(T:Tx w K mg A)(G_is_whole:FnOk P w K mg base CX0 1 A.a_is_whole A.d_is_whole ["thing"] q_t):FnOk P w K mg base CX0 2 A.a_is_between A.d_is_between ["thing", "low", "high"] j_f:=by
 refine T.F_is_between.ok r_a (fun vs H Q E h=>?_) (fun cdv A' outer s H vs Q E hr h=>?_)
 ·obtain ⟨i,lo,hi,rfl,q⟩:=h
  rfl
 obtain ⟨i,lo,hi,rfl,q⟩:=h
 refine ⟨_,(z_j (z_w (q_i (y_c G_is_whole (hr.mono (by first | decide | lia)) rfl T.M_is_whole T.F_is_whole.kp T.B_is_whole .nil pass0 (z_a (pv 0) z_e)) (q_j (pe_chain op_le op_le (pv 1) (pv 0) (pv 2)))))),?_⟩
 refine ⟨_,rfl,i,rfl,_,rfl,?_⟩
 refine iteT ⟨_,rfl,_,rfl,_,_,rfl,rfl,_,rfl,?_⟩
 by_cases h:lo<=i
 ·rw [decide_eq_true h,Bool.true_and] at q
  exact y_s (decide_eq_true h) ⟨_,rfl,_,_,rfl,rfl,q⟩
 ·rw [decide_eq_false h,Bool.false_and] at q
  exact y_h (decide_eq_false h) q
theorem k_h(T:Tx w K mg A)(G_is_between:FnOk P w K mg base CX0 2 A.a_is_between A.d_is_between ["thing", "low", "high"] j_f):FnOk P w K mg base CX0 3 A.a_is_end A.d_is_end ["thing", "knots"] j_g:=by
 refine T.F_is_end.ok k_y (fun vs H Q E h=>?_) (fun cdv A' outer s H vs Q E hr h=>?_)
 ·obtain ⟨i,k,rfl,q⟩:=h
  rfl
 obtain ⟨i,k,rfl,q⟩:=h
 refine ⟨_,(z_j (z_w (y_c G_is_between (hr.mono (by first | decide | lia)) rfl T.M_is_between T.F_is_between.kp T.B_is_between .nil pass0 (z_a (pv 0) (z_a z_b (z_a (z_k t_t (z_k y_p z_b (pv 1)) z_b) z_e)))))),?_⟩
 exact ⟨_,rfl,_,rfl,_,_,rfl,rfl,.inl ⟨by decide,by decide⟩,_,_,rfl,rfl,i,_,_,rfl,q⟩
theorem w_n(T:Tx w K mg A):FnOk P w K mg base CX0 1 A.a_Classes_least A.d_Classes_least ["self", "end"] (x_o A.c_Classes):=by
 refine T.F_Classes_least.ok sc_Classes_least (fun vs H Q E h=>?_) (fun cdv A' outer s H vs Q E hr h=>?_)
 ·obtain ⟨o,l,n,R,e,rfl,⟨⟨dx,ho⟩,L,hl,u,hn⟩,he,q⟩:=h
  rfl
 obtain ⟨o,l,n,R,e,rfl,⟨⟨dx,ho⟩,L,hl,u,hn⟩,he,q⟩:=h
 refine ⟨_,(z_d (z_t (i:=2) sc_Classes_least.nd rfl (Or.inl rfl) (pe_fld (pv 0) rfl))
  (z_d (z_t (i:=3) sc_Classes_least.nd rfl (Or.inl rfl) (x_l z_e))
  (z_d (s_y PassesOwn.never (z_r op_ne (z_k y_o (z_o z_m (pv 2) (z_k y_o (pv 1) z_b) (fun _ _=>rfl)) z_b) (z_k y_o (pv 1) z_b) (nomark _))
    (z_d (w_a (t_a PySem.F.plainAttrs_list PySem.F.slot_list_append PySem.F.type_list_append x_g (pv 3) (z_a (pv 1) z_e)))
  (z_j (z_t (i:=1) sc_Classes_least.nd rfl (Or.inl rfl) (z_k w_o (z_o z_m (pv 2) (z_k y_o (pv 1) z_b) (fun _ _=>rfl)) (z_k z_z (pv 1) z_b))))))
  (z_d (w_s PassesOwn.never rfl (v_d (pv 3)) (y_i (i:=4) sc_Classes_least.nd rfl (Or.inl rfl))
    (z_j (t_x (z_k w_o (pv 1) (z_k z_z (pv 4) z_b)) (k_n (pv 2) (z_k y_o (pv 4) z_b) r_b))))
  (z_j (z_w (pv 1))))))),?_⟩
 have nol:o≠l:=ClsAt.ne (C:=A.c_Classes) ⟨⟨dx,ho⟩,L,hl,u,hn⟩
 refine ⟨_,rfl,o,A.c_Classes,dx,_,_,rfl,ho,T.cl_Classes,T.n_Classes_lesser,r_y,?_⟩
 refine ⟨zl0,fun pw hpw=>?_⟩
 have nlw:l≠pw:=z_g hl hpw
 have now:o≠pw:=z_g ho hpw
 let WI:Nat->St->Hp->Prop:=fun m σ H1=>∃ (c:Nat) (ws:List Nat),σ=[some (.ref o),some (.int (c:Int)),some (.ref l),some (.ref pw),none]/\m=c/\Same H H1/\H1 pw=some (.lst (z_h ws))/\c/2<n/\R c=R e/\ws.length+c/2<=e/2/\∀ w∈ws,w/2<n/\R w=R e/\R w/2<w/2
 refine ⟨WI,⟨e,e,[],rfl,rfl,z_f hpw _,z_c,he,rfl,by simp,fun _ h=>nomatch h⟩,?_⟩
 rintro m σ H1 ⟨c,ws,rfl,rfl,s1,hw1,hc,hR,hlen,hall⟩
 have hl1:=s1 _ _ hl
 have hat:=at_nats (L:=L) (c:=m) (by rw [u.len];exact hc)
 refine ⟨_,rfl,_,rfl,_,_,rfl,rfl,⟨by decide,by decide⟩,l,_,_,_,rfl,rfl,SqL.of hl1,hat,_,_,rfl,rfl,⟨by decide,by decide⟩,_,rfl,_,_,rfl,rfl,⟨by decide,by decide⟩,rfl,_,rfl,?_⟩
 by_cases hroot:L.getD (m/2) 0/2=m/2
 ·refine y_h (by rw [decide_eq_true (congrArg V.int (show ((L.getD (m/2) 0:Nat):Int)/2=(m:Int)/2 by lia))];rfl) ?_
  have hRm:=u.here hc hroot
  rw [hR] at hRm
  refine ⟨_,rfl,pw,rfl,⟨_,SqL.of hw1⟩,v_z (xs:=z_h ws) (fun i σ H'=>∃ (z:Option V) (L':List Nat),σ=[some (.ref o),some (.int (m:Int)),some (.ref l),some (.ref pw),z]/\Ch l H1 H'/\H' l=some (.lst (z_h L'))/\Uf n L' R) ⟨_,L,rfl,Ch.refl,hl1,u⟩ ?_ ?_ ?_⟩
  ·rintro i σ H' _ ⟨z,L',rfl,ch,_,_⟩
   exact SqL.of (ch _ _ (Ne.symm nlw) hw1)
  ·rintro i v σ H' hv ⟨z,L',rfl,ch,hl',u'⟩
   have hv':∃ w∈ws,v = .int ((w:Nat):Int):=by
    have:=List.mem_of_getElem? hv
    unfold z_h at this
    obtain ⟨w,hw,e⟩:=List.mem_map.mp this
    exact ⟨w,hw,e.symm⟩
   obtain ⟨w,hw,rfl⟩:=hv'
   obtain ⟨a1,a2,a3⟩:=hall w hw
   have hx:Builtin.bitXor (m:Int) ((w:Int)%2)=((m^^^(w%2):Nat):Int):=by
    rw [show (w:Int)%2=((w%2:Nat):Int) by lia]
    exact w_b m (w%2)
   refine ⟨_,rfl,_,rfl,_,_,rfl,rfl,(by show (0:Int)<2;decide),_,_,rfl,rfl,_,rfl,_,rfl,_,_,rfl,rfl,⟨by decide,by decide⟩,l,_,_,w/2,rfl,rfl,hl',?_,?_⟩
   ·exact o_h (by rw [u'.len];exact a1)
   ·dsimp only
    rw [hx,q_a]
    refine ⟨_,_,rfl,ch.trans (Ch.put _),z_c,?_⟩
    have:=u'.press a1 a3
    rw [a2,hRm] at this
    exact this
  ·rintro σ H' ⟨z,L',rfl,ch,hl',u'⟩
   refine ⟨_,rfl,?_⟩
   rw [<-hRm]
   exact q H' ((s1.ch).trans ch) ⟨⟨dx,ch _ _ nol (s1 _ _ ho)⟩,L',hl',u',hn⟩
 ·refine y_s (by rw [decide_eq_false (by intro h;injection h with h;lia)];rfl) ?_
  obtain ⟨b1,b2,b3⟩:=u.lt hc hroot
  have hx:Builtin.bitXor ((L.getD (m/2) 0:Nat):Int) ((m:Int)%2)=((L.getD (m/2) 0^^^(m%2):Nat):Int):=by
   rw [show (m:Int)%2=((m%2:Nat):Int) by lia]
   exact w_b _ _
  have hd:=j_j (L.getD (m/2) 0) (m%2) (by lia)
  refine ⟨fun σ' H'=>∃ m',m'<m/\WI m' σ' H',fun _ _ h=>h,?_⟩
  refine ⟨_,rfl,.inl ⟨rfl,_,SqL.of hw1⟩,_,rfl,pw,_,_,rfl,rfl,hw1,y_l (by rw [z_i];lia),?_⟩
  refine ⟨_,rfl,_,rfl,_,_,rfl,rfl,⟨by decide,by decide⟩,l,_,_,_,rfl,rfl,SqL.of (by rw [z_n nlw];exact hl1),hat,_,rfl,_,_,rfl,rfl,(by show (0:Int)<2;decide),_,_,rfl,rfl,?_⟩
  dsimp only
  rw [hx]
  refine ⟨_,?_,_,ws++[m],rfl,rfl,x_s s1 hpw _,?_,?_,?_,?_,?_⟩
  ·lia
  ·rw [z_c];unfold z_h;rw [List.map_append];rfl
  ·lia
  ·rw [<-b3];exact hR
  ·rw [List.length_append,List.length_singleton];lia
  ·intro w hw
   rcases List.mem_append.mp hw with h | h
   ·exact hall w h
   ·rw [List.mem_singleton.mp h]
    exact ⟨hc,hR,b1⟩
theorem m_c(T:Tx w K mg A)(G_Classes_least:FnOk P w K mg base CX0 1 A.a_Classes_least A.d_Classes_least ["self", "end"] (x_o A.c_Classes))(G_is_end:FnOk P w K mg base CX0 3 A.a_is_end A.d_is_end ["thing", "knots"] j_g):FnOk P w K mg base CX0 4 A.a_is_step A.d_is_step ["net", "classes", "thing"] (n_d A.c_Classes):=by
 refine T.F_is_step.ok sc_is_step (fun vs H Q E h=>?_) (fun cdv A' outer s H vs Q E hr h=>?_)
 ·obtain ⟨net,g,o,l,st,lt,rs,L,n,a,b,gs,R,ls,rfl,hS,h65,q⟩:=h
  rfl
 obtain ⟨net,g,o,l,st,lt,rs,L,n,a,b,gs,R,ls,rfl,hS,h65,q⟩:=h
 obtain D_MOST_LEAVES:=T.D_MOST_LEAVES
 have hu64:=hr.units
 refine ⟨_,(z_d (y_x (PW.pt (t_m (t_y (x_m (z_q (x_f (T := "tuple")) rfl T.isinstance PyProof.Rows.boot_isinstance (z_a (pv 2) (z_a (v_p (v:=.ty "tuple") rfl T.tuple PyProof.Rows.boot_tuple rfl) z_e))) (fun _=>rfl))) (t_m (z_r op_ne (z_q y_d rfl T.len PySem.boot_len (z_a (pv 2) z_e)) z_b (nomark _)) (v_v (t_y (x_m (z_q (x_f (T := "tuple")) rfl T.isinstance PyProof.Rows.boot_isinstance (z_a (z_o y_a (pv 2) z_b (fun _ _=>rfl)) (z_a (v_p (v:=.ty "tuple") rfl T.tuple PyProof.Rows.boot_tuple rfl) z_e))) (fun _=>rfl))))))) (z_j (z_w v_x)) z_y)
  (z_d (y_x (PW.pt (t_m (t_y (x_m (z_q (x_f (T := "str")) rfl T.isinstance PyProof.Rows.boot_isinstance (z_a (z_o y_a (pv 2) z_b (fun _ _=>rfl)) (z_a (v_p (v:=.ty "str") rfl T.str PyProof.Rows.boot_str rfl) z_e))) (fun _=>rfl))) (t_m (z_r (q_h D_MOST_LEAVES) (z_o y_a (pv 2) z_b (fun _ _=>rfl)) (v_c (v:=.ref A.a_MOST_LEAVES) rfl T.g_MOST_LEAVES rfl) rfl) (v_v (z_r q_e (z_q y_d rfl T.len PySem.boot_len (z_a (z_o y_a (pv 2) z_b (fun _ _=>rfl)) z_e)) (z_o (ix_top D_MOST_LEAVES) (v_c (v:=.ref A.a_MOST_LEAVES) rfl T.g_MOST_LEAVES rfl) (z_o y_a (pv 2) z_b (fun _ _=>rfl)) (fun _ _=>rfl)) (nomark _)))))) (z_j (z_w v_x)) z_y)
  (z_d (z_t (i:=3) sc_is_step.nd rfl (Or.inr rfl) (z_k y_g (z_k y_g z_b (z_o y_a (pv 0) z_b (fun _ _=>rfl))) (z_q y_d rfl T.len PySem.boot_len (z_a (z_o y_a (pv 0) z_b (fun _ _=>rfl)) z_e))))
  (z_d (y_x (t_y (x_m (z_q call_all rfl T.all PyProof.Rows.boot_all (z_a (v_b [3] (fun _ _ h=>h) rfl (t_w (z_k op_catE (u_f j_c (pv 2) (v_q z_b) (v_q z_b)) (z_o y_a (pv 2) z_b (fun _ _=>rfl)))) (fun _ _ _ _=>x_j) (fun _ _ _ _=>(y_c G_is_end (hr.mono (by first | decide | lia)) rfl T.M_is_end T.F_is_end.kp T.B_is_end .nil pass0 (z_a (pv 0) (z_a (pv 1) z_e)))) rfl (show ∀ j∈([3]:List Nat),j<5 by decide) (show (["end", "knots"]:List Str).Nodup by decide +kernel)) z_e)) (fun _=>rfl))) (z_j (z_w v_x)) z_y)
  (z_d (v_r [1] sc_is_step.nd (i:=4) rfl (Or.inl rfl) (fun _ _ h=>h) rfl (t_w (z_o y_a (pv 2) z_b (fun _ _=>rfl))) (fun _ _ _ _=>x_j) (fun _ _ _ _=>(z_k y_o (x_z (pv 1) T.cl_Classes T.me_Classes_least G_Classes_least (hr.mono (by first | decide | lia)) T.B_Classes_least .nil pass0 (z_a (pv 0) z_e)) z_b)) rfl (show ∀ j∈([1]:List Nat),j<5 by decide) (show (["leaf", "classes"]:List Str).Nodup by decide +kernel) (by with_unfolding_all rfl))
  (z_j (z_w (q_i (x_y v_u z_b (pv 4) rfl) (q_j (x_y w_e (z_q n_j rfl T.len PySem.boot_len (z_a (y_q (m_r rfl hu64) rfl T.set PyProof.Rows.boot_set (z_a (pv 4) z_e)) z_e)) (z_q y_d rfl T.len PySem.boot_len (z_a (pv 4) z_e)) (nomark _))))))))))),?_⟩
 obtain ⟨⟨L0,hl0⟩,x0,ho0⟩:=hS.ng.cls.lst
 have nol:o≠l:=hS.ng.cls.ne
 have nst:st≠l:=x_k hS.st hl0
 have nlt:lt≠l:=x_k hS.lt hl0
 have hkvs:List.lookup ("row" : Str) [(("stands" : Str),V.int 6),(("row" : Str),V.int 64)]=some (.int 64):=rfl
 refine ⟨_,rfl,_,_,true,rfl,TyOf.tup hS.st,rfl,_,rfl,y_h rfl ?_⟩
 refine ⟨_,rfl,_,_,rfl,.inr ⟨_,SqT.of hS.st,rfl⟩,rfl,_,rfl,y_h (by show (!decide (V.int ((4:Nat):Int)=V.int 4))=false;decide) ?_⟩
 refine ⟨_,rfl,st,_,_,_,rfl,rfl,SqT.of hS.st,rfl,_,_,true,rfl,TyOf.tup hS.lt,rfl,_,rfl,y_h rfl ?_⟩
 refine ⟨_,rfl,st,_,_,_,rfl,rfl,SqT.of hS.st,rfl,_,_,true,rfl,TyOf.str _,rfl,_,rfl,y_h rfl ?_⟩
 refine ⟨_,rfl,st,_,_,_,rfl,rfl,SqT.of hS.st,rfl,_,rfl,rfl,_,rfl,y_h (by rw [hkvs];rfl) ?_⟩
 refine ⟨_,rfl,st,_,_,_,rfl,rfl,SqT.of hS.st,rfl,_,_,rfl,.inr ⟨_,SqT.of hS.lt,rfl⟩,_,rfl,st,_,_,_,rfl,rfl,SqT.of hS.st,rfl,_,_,rfl,rfl,hkvs,_,_,rfl,rfl,_,rfl,?_⟩
 rw [z_i]
 by_cases h6:ls.length<=64
 case neg =>
  have:=q H Ch.refl hS.ng.cls
  rw [decide_eq_false (fun h=>h6 h.1)] at this
  exact y_s (decide_eq_true (by lia)) this
 refine y_h (decide_eq_false (by lia)) ?_
 refine ⟨_,rfl,net,_,_,_,rfl,rfl,SqT.of hS.ng.net.p,rfl,_,_,rfl,rfl,_,rfl,net,_,_,_,rfl,rfl,SqT.of hS.ng.net.p,rfl,_,_,rfl,.inl ⟨_,SqL.of hS.ng.net.g.1,rfl⟩,_,_,rfl,rfl,?_⟩
 have hlen:=Paired.length hS.ng.net.g.2
 unfold gI at hlen
 rw [List.length_map] at hlen
 refine ⟨_,rfl,_,rfl,_,rfl,st,_,rfl,hS.st,fun p1 H1 s1 e1=>⟨_,rfl,st,_,_,_,rfl,rfl,SqT.of (s1 _ _ hS.st),rfl,p1,lt,_,_,rfl,rfl,e1,s1 _ _ hS.lt,small (by rw [z_i];show 2+ls.length<=_;lia),fun p2 H2 s2 e2=>?_⟩⟩
 have e2':H2 p2=some (.tup (z_h (a::b::ls))):=e2
 have hall:∀ e∈a::b::ls,e<2*n:=fun e he=>by
  rcases List.mem_cons.mp he with rfl | he
  ·exact hS.ha
  rcases List.mem_cons.mp he with rfl | he
  ·exact hS.hb
  ·exact hS.hl e he
 have hn:=hS.ng.hn
 refine ⟨p2,rfl,⟨_,SqT.of e2'⟩,v_y (xs:=z_h (a::b::ls)) (fun i ys J=>H2=J/\ys=List.replicate i (V.bl true)) ⟨rfl,rfl⟩ ?_ ?_ ?_ ?_⟩
 ·rintro i ys J _ ⟨rfl,_⟩
  exact SqT.of e2'
 ·rintro i ys J hi ⟨rfl,rfl⟩
  rw [List.length_replicate]
  rw [z_i] at hi
  exact y_l (by have:(a::b::ls).length=ls.length+2:=rfl;lia)
 ·rintro i v ys J hv ⟨rfl,rfl⟩
  obtain ⟨hi,rfl⟩:=x_b hv
  have hsi:(a::b::ls)[i]? = some ((a::b::ls).getD i 0):=by rw [List.getD_eq_getElem?_getD,List.getElem?_eq_getElem hi];rfl
  have he:=hall _ (List.mem_of_getElem? hsi)
  generalize (a::b::ls).getD i 0=e at he ⊢
  unfold tYes
  refine iteT ⟨_,rfl,_,rfl,_,_,rfl,rfl,?_⟩
  rw [List.replicate_succ']
  congr 2
  rw [List.length_map]
  simp only [Bool.and_eq_true,decide_eq_true_eq,V.bl.injEq]
  lia
 rintro ys J ⟨rfl,rfl⟩ pb hpb
 refine ⟨rfl,pb,List.replicate (z_h (a::b::ls)).length true,rfl,SqL.of (by rw [z_c,List.map_replicate]),_,rfl,y_h (by simp) ?_⟩
 have s3:=(s1.trans s2).trans (z_f hpb (.lst (List.replicate (z_h (a::b::ls)).length (V.bl true))))
 generalize upd H2 pb (.lst (List.replicate (z_h (a::b::ls)).length (V.bl true)))=H3 at s3 ⊢
 refine ⟨_,rfl,st,_,_,_,rfl,rfl,SqT.of (s3 _ _ hS.st),rfl,lt,rfl,⟨_,SqT.of (s3 _ _ hS.lt)⟩,v_y (xs:=z_h ls) (fun i ys J=>Ch l H J/\ClsAt A.c_Classes J o l n R/\ys=z_h ((ls.take i).map fun e=>R e/2)) ⟨s3.ch,hS.ng.cls.same s3,rfl⟩ ?_ ?_ ?_ ?_⟩
 ·rintro i ys J _ ⟨cJ,_,_⟩
  exact SqT.of (cJ _ _ nlt hS.lt)
 ·rintro i ys J hi ⟨_,_,rfl⟩
  rw [z_i,List.length_map,List.length_take]
  exact y_l (by lia)
 ·rintro i v ys J hv ⟨cJ,CJ,rfl⟩
  obtain ⟨hi,rfl⟩:=x_b hv
  have hsi:ls[i]? = some (ls.getD i 0):=by rw [List.getD_eq_getElem?_getD,List.getElem?_eq_getElem hi];rfl
  have he:=hS.hl _ (List.mem_of_getElem? hsi)
  rw [x_w hsi]
  generalize ls.getD i 0=e at he ⊢
  obtain ⟨dx1,ho1⟩:=CJ.1
  unfold tYes
  refine iteT ⟨_,rfl,o,dx1,_,rfl,ho1,t_l (by decide),_,rfl,o,l,n,R,e,rfl,CJ,by lia,fun J2 ch2 C2=>⟨_,_,rfl,rfl,⟨by decide,by decide⟩,cJ.trans ch2,C2,?_⟩⟩
  rw [List.map_append,List.map_cons,List.map_nil,y_t]
  rfl
 rintro ys J ⟨cJ,CJ,rfl⟩ pk hpk
 rw [z_i,List.take_length]
 have t1:=z_f hpk (.lst (z_h (ls.map fun e=>R e/2)))
 have c1:=cJ.trans t1.ch
 have C1:=CJ.same t1
 have k1:=z_c (H:=J) (a:=pk) (o:=.lst (z_h (ls.map fun e=>R e/2)))
 dsimp only [gName]
 generalize upd J pk (.lst (z_h (ls.map fun e=>R e/2)))=J1 at t1 c1 C1 k1 ⊢
 refine ⟨_,rfl,pk,_,rfl,.inl (SqL.of k1),rfl,v_g _,_,rfl,?_⟩
 have hin:=s_o 0 (ls.map fun e=>R e/2)
 by_cases h0:0∈ls.map fun e=>R e/2
 ·refine y_h (by show (!inV (V.int ((0:Nat):Int)) _)=false;rw [hin,decide_eq_true h0];rfl) ?_
  have:=q J1 c1 C1
  rw [decide_eq_false (fun h=>by
   obtain ⟨e,he,e0⟩:=List.mem_map.mp h0
   exact h.2.1 e he e0)] at this
  exact this
 ·refine y_s (by show (!inV (V.int ((0:Nat):Int)) _)=true;rw [hin,decide_eq_false h0];rfl) ?_
  refine ⟨_,rfl,pk,(ls.map fun e=>R e/2).map (fun k:Nat=>(k:Int)),rfl,by rw [<-w_d];exact k1,by rw [List.length_map,List.length_map];lia,fun sa hsa=>?_⟩
  have t2:=z_f hsa (STO sa (ucI ((ls.map fun e=>R e/2).map (fun k:Nat=>(k:Int)))))
  refine ⟨sa,_,rfl,z_c,_,rfl,_,_,rfl,.inl ⟨_,SqL.of (t2 _ _ k1),rfl⟩,rfl,?_⟩
  have:=q _ (c1.trans t2.ch) (C1.same t2)
  have e:decide (V.int (ucI ((ls.map fun e=>R e/2).map (fun k:Nat=>(k:Int))):Nat)=V.int ((z_h (ls.map fun e=>R e/2)).length:Nat))=decide (ls.length<=64/\Dst R ls):=by
   have hu:=ucI_iff (ks:=ls.map fun e=>R e/2)
   rw [z_i]
   refine decide_eq_decide.mpr ⟨fun h=>?_,fun h=>?_⟩
   ·injection h with h
    exact ⟨h6,fun e he e0=>h0 (List.mem_map.mpr ⟨e,he,e0⟩),hu.mp (by lia)⟩
   ·rw [hu.mpr h.2.2]
  rw [e]
  exact this
theorem o_n(T:Tx w K mg A):FnOk P w K mg base CX0 1 A.a_below A.d_below ["net", "end"] q_r:=by
 refine T.F_below.ok sc_below (fun vs H Q E h=>?_) (fun cdv A' outer s H vs Q E hr h=>?_)
 ·obtain ⟨net,g,rs,L,gs,e,rfl,hN,hL,hn,q⟩:=h
  rfl
 obtain ⟨net,g,rs,L,gs,e,rfl,hN,hL,hn,q⟩:=h
 refine ⟨_,(z_j (z_w (s_u (z_r w_e (z_k z_z (pv 1) z_b) z_b (nomark _)) (w_g (z_a (z_k t_t (pv 1) z_b) z_e)) (z_o z_m (z_o y_a (pv 0) z_b (fun _ _=>rfl)) (z_k t_t (z_k t_t (z_k y_o (pv 1) z_b) (z_o y_a (pv 0) z_b (fun _ _=>rfl))) z_b) (fun _ _=>rfl))))),?_⟩
 by_cases ho:e%2=1
 ·refine ⟨_,rfl,_,_,rfl,rfl,(by show (0:Int)<2;decide),rfl,_,rfl,?_⟩
  refine y_s (decide_eq_true (by show V.int ((e:Int)%2)=V.int 1;congr 1;lia)) ?_
  refine ⟨_,rfl,_,_,rfl,rfl,zl1,fun t ht=>q t _ (z_f ht _) ?_⟩
  rw [z_c]
  unfold belN
  rw [if_pos ho]
  show some (HO.tup [V.int ((e:Int)-1)])=some (HO.tup [V.int ((e-1:Nat):Int)])
  rw [show (e:Int)-1=((e-1:Nat):Int) by lia]
 ·refine ⟨_,rfl,_,_,rfl,rfl,(by show (0:Int)<2;decide),rfl,_,rfl,?_⟩
  refine y_h (decide_eq_false (by show ¬V.int ((e:Int)%2)=V.int 1;intro h;injection h with h;lia)) ?_
  have hlen:=Paired.length hN.g.2
  unfold gI at hlen
  rw [List.length_map] at hlen
  have hk:e/2-L-1<rs.length:=by lia
  have hr:rs[e/2-L-1]? = some rs[e/2-L-1]:=List.getElem?_eq_getElem hk
  obtain ⟨p',hp',hrt⟩:=u_z hN.g.2 hr
  unfold gI at hp'
  rw [List.getElem?_map] at hp'
  obtain ⟨p,hp,rfl⟩:=Option.map_eq_some_iff.mp hp'
  have hat:atI (rs.map V.ref) ((e:Int)/2-(L:Int)-1)=some (.ref rs[e/2-L-1]):=by
   rw [show (e:Int)/2-(L:Int)-1=((e/2-L-1:Nat):Int) by lia]
   exact w_q (by rw [List.getElem?_map,hr];rfl)
  refine ⟨_,rfl,net,_,_,_,rfl,rfl,SqT.of hN.p,rfl,_,rfl,_,_,rfl,rfl,⟨by decide,by decide⟩,_,rfl,net,_,_,_,rfl,rfl,SqT.of hN.p,rfl,_,_,rfl,rfl,_,_,rfl,rfl,g,_,_,_,rfl,rfl,SqL.of hN.g.1,hat,q _ H (Same.refl H) ?_⟩
  rw [hrt]
  unfold belN
  rw [if_neg ho,hp]
  rfl
theorem p_k(T:Tx w K mg A)(G_Classes_least:FnOk P w K mg base CX0 1 A.a_Classes_least A.d_Classes_least ["self", "end"] (x_o A.c_Classes))(G_below:FnOk P w K mg base CX0 1 A.a_below A.d_below ["net", "end"] q_r):FnOk P w K mg base CX0 2 A.a_found_of A.d_found_of ["net", "classes", "given", "ends", "turned", "both"] (q_s A.c_Classes P w K mg base):=by
 refine T.F_found_of.ok sc_found_of (fun vs H Q E h=>?_) (fun cdv A' outer s H vs Q E hr h=>?_)
 ·obtain ⟨β,rp,tur,bth,okf,net,g,o,l,gd,et,f,ab,rs,L,n,a,b,gs,R,kvs,gv,fo,ofb,fdt,fdb,pt,pb,rfl,hrp,hN,hG,hn,hC,hgd,hgv,het,ha,hb,ngl,hF,q⟩:=h
  rfl
 obtain ⟨β,rp,tur,bth,okf,net,g,o,l,gd,et,f,ab,rs,L,n,a,b,gs,R,kvs,gv,fo,ofb,fdt,fdb,pt,pb,rfl,hrp,hN,hG,hn,hC,hgd,hgv,het,ha,hb,ngl,hF,q⟩:=h
 have hu:=hu_of hr
 refine ⟨_,(z_d (z_t (i:=6) sc_found_of.nd rfl (Or.inr rfl) pe_dnewK)
  (z_d (z_t (i:=7) sc_found_of.nd rfl (Or.inl rfl) (x_l z_e))
  (z_d (z_t (i:=8) sc_found_of.nd rfl (Or.inl rfl) (y_q x_t rfl T.list PyProof.Rows.boot_list (z_a (pv 3) z_e)))
  (z_d (s_y PassesOwn.never (z_r q_e (z_q y_d rfl T.len PySem.boot_len (z_a (pv 8) z_e)) z_b (nomark _))
    (z_d (z_t (i:=9) sc_found_of.nd rfl (Or.inl rfl) (pe_bm0 PySem.F.plainAttrs_list PySem.F.slot_list_pop PySem.F.type_list_pop mt_pop (pv 8)))
  (z_d (y_x (pt_cmp (pc_din hu (pv 9) (pv 6))) (z_j p_n) z_y)
  (z_d (s_x hu (pv 6) (pv 9) (pe_dget1 hu (pv 2) (x_z (pv 1) T.cl_Classes T.me_Classes_least G_Classes_least (hr.mono (by first | decide | lia)) T.B_Classes_least .nil pass0 (z_a (pv 9) z_e)) ⟨rfl,rfl,rfl,rfl⟩) rfl)
  (z_j (y_x (PW.pt (o_v (z_r q_g (p_m hu (pv 6) (pv 9) (fun _ _=>rfl)) w_f (nomark _)) (s_z (z_r q_e (z_k y_o (pv 9) z_b) (z_o y_a (pv 0) z_b (fun _ _=>rfl)) (nomark _))))) (z_d (w_a (t_a PySem.F.plainAttrs_list PySem.F.slot_list_append PySem.F.type_list_append x_g (pv 7) (z_a (pv 9) z_e)))
  (z_j (w_a (t_a PySem.F.plainAttrs_list PySem.F.slot_list_extend PySem.F.type_list_extend m_a (pv 8) (z_a (y_c G_below (hr.mono (by first | decide | lia)) rfl T.M_below T.F_below.kp T.B_below .nil pass0 (z_a (pv 0) (z_a (pv 9) z_e))) z_e))))) z_y))))))
  (z_d (w_s PassesOwn.never rfl (v_d (z_q n_k rfl T.sorted PyProof.Rows.boot_sorted (z_a (pv 7) z_e))) (y_i (i:=9) sc_found_of.nd rfl (Or.inl rfl))
    (z_d (v_r [6] sc_found_of.nd (i:=10) rfl (Or.inl rfl) (fun _ _ h=>h) rfl (t_w (y_c G_below (hr.mono (by first | decide | lia)) rfl T.M_below T.F_below.kp T.B_below .nil pass0 (z_a (pv 0) (z_a (pv 9) z_e)))) (fun _ _ _ _=>x_j) (fun _ _ _ _=>(p_m hu (pv 1) (pv 0) (fun _ _=>rfl))) rfl (show ∀ j∈([6]:List Nat),j<11 by decide) (show (["lesser", "found"]:List Str).Nodup by decide +kernel) (by with_unfolding_all rfl))
  (z_j (s_x hu (pv 6) (pv 9) (s_u (z_r w_e (z_k z_z (pv 9) z_b) z_b (nomark _)) (o_s (i:=4) rfl (Or.inl rfl) (z_a (z_o z_m (pv 10) z_b (fun _ _=>rfl)) z_e)) (o_s (i:=5) rfl (Or.inl rfl) (z_a (z_o z_m (pv 10) z_b (fun _ _=>rfl)) (z_a (z_o z_m (pv 10) z_b (fun _ _=>rfl)) z_e)))) rfl))))
  (z_j (z_w (v_b [6] (fun _ _ h=>h) rfl (t_w (pv 3)) (fun _ _ _ _=>x_j) (fun _ _ _ _=>(p_m hu (pv 1) (pv 0) (fun _ _=>rfl))) rfl (show ∀ j∈([6]:List Nat),j<11 by decide) (show (["end", "found"]:List Str).Nodup by decide +kernel))))))))),?_⟩
 have hcap:=hC.cap
 have gn:∀ e,((gv (R e)).map fun _=>0)=none↔gv (R e)=none:=fun e=>by cases gv (R e)<;>simp
 have hS0:∀ e∈List.range (2*n),e<2*n/\(gv (R e)=none->L<e/2->∀ d∈belN L gs e,d∈List.range (2*n)):=fun e he=>⟨List.mem_range.mp he,fun _ hl d hd=>List.mem_range.mpr (Nat.lt_trans ((p_y hG hn (List.mem_range.mp he) hl).1 d hd) (List.mem_range.mp he))⟩
 have ha0:=List.mem_range.mpr ha
 have hb0:=List.mem_range.mpr hb
 obtain ⟨⟨L0,hl0⟩,x0,ho0⟩:=hC.lst
 have netl:et≠l:=x_k het hl0
 have ngdl:gd≠l:=fun e=>by rw [e,hl0] at hgd;cases hgd
 have nol:o≠l:=hC.ne
 intro fd hfd
 have s1:=z_f hfd (.dK [])
 have f1:=z_c (H:=H) (a:=fd) (o:=.dK [])
 dsimp only [gName]
 generalize upd H fd (.dK [])=H1 at s1 f1 ⊢
 refine ⟨zl0,fun pg hpg=>?_⟩
 have s2:=s1.trans (z_f hpg (.lst []))
 have f2:=(z_f hpg (.lst [])) _ _ f1
 have g2:=z_c (H:=H1) (a:=pg) (o:=.lst [])
 have hpgH:=s1.free hpg
 have nfg:fd≠pg:=z_g f1 hpg
 dsimp only [gName]
 generalize upd H1 pg (.lst [])=H2 at s2 f2 g2 ⊢
 refine ⟨_,rfl,et,_,rfl,.inr (SqT.of (s2 _ _ het)),fun pw hpw=>?_⟩
 have s3:=s2.trans (z_f hpw (.lst [.int (a:Int),.int (b:Int)]))
 have f3:=(z_f hpw (.lst [.int (a:Int),.int (b:Int)])) _ _ f2
 have g3:=(z_f hpw (.lst [.int (a:Int),.int (b:Int)])) _ _ g2
 have w3:=z_c (H:=H2) (a:=pw) (o:=.lst [.int (a:Int),.int (b:Int)])
 have hpwH:=s2.free hpw
 have nfw:fd≠pw:=z_g f2 hpw
 have ngw:pg≠pw:=z_g g2 hpw
 dsimp only [gName]
 generalize upd H2 pw (.lst [.int (a:Int),.int (b:Int)])=H3 at s3 f3 g3 w3 ⊢
 clear s1 f1 s2 f2 g2 hpg hpw
 have nfo:o≠fd:=z_g ho0 hfd
 have ngo:o≠pg:=z_g ho0 hpgH
 have nwo:o≠pw:=z_g ho0 hpwH
 have nfl:l≠fd:=z_g hl0 hfd
 have ngl':l≠pg:=z_g hl0 hpgH
 have nwl:l≠pw:=z_g hl0 hpwH
 refine ⟨fun m σ J=>∃ (x9:Option V) (S gts wt:List Nat) (kvF:List (Key×V)),σ=[some (.ref net),some (.ref o),some (.ref gd),some (.ref et),some (.ref f),some (.ref ab),some (.ref fd),some (.ref pg),some (.ref pw),x9,none]/\Ch l H J/\ClsAt A.c_Classes J o l n R/\J fd=some (.dK kvF)/\FdG rp J kvF S (fun e=>gv (R e)) S.length/\J pg=some (.lst (z_h gts))/\J pw=some (.lst (z_h wt))/\FndI (fun e=>(gv (R e)).map fun _=>0) L a b (List.range (2*n)) gs S gts wt/\m+3*S.length=6*n+10+wt.length/\gts.length<=S.length,⟨6*n+12,_,[],[],[a,b],[],rfl,s3.ch,hC.same s3,f3,FdG.nil,g3,w3,⟨.nil,(fun _ h=>nomatch h),fun e he=>?_,.nil,fun e=>?_,(fun _ h=>nomatch h),.inr List.mem_cons_self,.inr (List.mem_cons_of_mem _ List.mem_cons_self),Nat.le_refl _⟩,rfl,Nat.le_refl _⟩,?_⟩
 ·simp only [List.mem_cons,List.not_mem_nil,or_false] at he
  rcases he with rfl | rfl<;>assumption
 ·constructor
  ·exact fun h=>nomatch h
  ·exact fun h=>nomatch h.1
 rintro m σ J ⟨x9,S,gts,wt,kvF,rfl,cJ,hCJ,fJ,hFd,gJ,wJ,hI,hm,hgl⟩
 have hS60:=q_u hI.nd hI.hs
 rw [List.length_range] at hS60
 have hwl:=hI.wl
 refine ⟨_,rfl,_,_,rfl,.inl ⟨_,SqL.of wJ,rfl⟩,_,_,rfl,rfl,_,rfl,?_⟩
 by_cases hw0:wt=[]
 ·refine y_h (decide_eq_false (by rw [hw0];decide)) ?_
  subst hw0
  have hin:∀ d,d∈S\/d∈([]:List Nat)->d∈S:=fun d h=>h.elim id fun h=>nomatch h
  have hga:∀ e∈gts,e∈S/\gv (R e)=none/\L<e/2:=fun e h=>let ⟨x1,x2,x3⟩:=(hI.gi e).mp h;⟨x1,(gn e).mp x2,x3⟩
  have hV0:∀ d∈S,(fun e=>gv (R e)) d=(if d∈gts/\d∉([]:List Nat) then none else gvG (fun e=>gv (R e)) L gs tur bth d):=fun d hd=>by
   by_cases c:d∈gts
   ·rw [if_pos ⟨c,List.not_mem_nil⟩]
    exact (hga d c).2.1
   ·rw [if_neg (fun h=>c h.1)]
    cases hgd':gv (R d) with
    | some w=>show gv (R d)=_;rw [hgd'];exact (gvG_giv (giv:=fun e=>gv (R e)) hG (show (fun e=>gv (R e)) d=some w from hgd')).symm
    | none =>
     show gv (R d)=_
     rw [hgd']
     refine (gvG_low (giv:=fun e=>gv (R e)) (e:=d) hG (show (fun e=>gv (R e)) d=none from hgd') fun hl=>c ((hI.gi d).mpr ⟨hd,(gn d).mpr hgd',hl⟩)).symm
  dsimp only
  refine ⟨_,rfl,pg,gts.map (fun k:Nat=>(k:Int)),rfl,(by rw [<-w_d];exact gJ),(by rw [List.length_map];lia),fun ps ns' hps hpm hpw=>?_⟩
  obtain ⟨sg,rfl,psg,hsort⟩:=sort_nat hpm hpw
  rw [<-w_d]
  have ndg:=psg.nodup_iff.mpr hI.gn
  have lsg:=psg.length_eq
  have hpsH:H ps=none:=l_g cJ hCJ hps
  have v1:=z_f hps (.lst (z_h sg))
  have c1:=cJ.trans v1.ch
  have p1:=z_c (H:=J) (a:=ps) (o:=.lst (z_h sg))
  have f1:=v1 _ _ fJ
  have C1:=hCJ.same v1
  have nfp:ps≠fd:=(z_g fJ hps).symm
  generalize upd J ps (.lst (z_h sg))=J1 at v1 c1 p1 f1 C1 ⊢
  have npl:ps≠l:=fun e=>by rw [e,hl0] at hpsH;cases hpsH
  refine ⟨ps,rfl,⟨_,SqL.of p1⟩,v_z (xs:=z_h sg) (fun i σ J'=>∃ (y9 y10:Option V) (kvF:List (Key×V)),σ=[some (.ref net),some (.ref o),some (.ref gd),some (.ref et),some (.ref f),some (.ref ab),some (.ref fd),some (.ref pg),some (.ref pw),y9,y10]/\Ch l H J'/\ClsAt A.c_Classes J' o l n R/\J' ps=some (.lst (z_h sg))/\J' fd=some (.dK kvF)/\FdG rp J' kvF S (fun d=>if d∈gts/\d∉sg.take i then none else gvG (fun e=>gv (R e)) L gs tur bth d) (S.length+i)) ⟨_,_,kvF,rfl,c1,C1,p1,f1,(hFd.kp hrp v1.kpt).congr hV0⟩ ?_ ?_ ?_⟩
  ·rintro i σ J' _ ⟨_,_,_,_,_,_,h,_⟩
   exact SqL.of h
  ·rintro i v σ J2 hv ⟨y9,y10,kv2,rfl,c2,C2,p2,f2,hF2⟩
   obtain ⟨hi',rfl⟩:=x_b hv
   have hsi:sg[i]? = some (sg.getD i 0):=by rw [List.getD_eq_getElem?_getD,List.getElem?_eq_getElem hi'];rfl
   generalize sg.getD i 0=e at hsi
   have heg:e∈gts:=psg.mem_iff.mp (List.mem_of_getElem? hsi)
   obtain ⟨heS,hegv,hel⟩:=hga e heg
   have he2:=(hS0 e (hI.hs e heS)).1
   obtain ⟨hb1,hb2⟩:=p_y hG hn he2 hel
   have hnot:=take_not ndg hsi
   have hcl:∀ d∈belN L gs e,d∈S/\(if d∈gts/\d∉sg.take i then none else gvG (fun e=>gv (R e)) L gs tur bth d)=gvG (fun e=>gv (R e)) L gs tur bth d:=fun d hd=>by
    refine ⟨hin d (hI.cl e heg d hd),if_neg fun h=>h.2 ?_⟩
    exact r_d hsort hsi (psg.mem_iff.mpr h.1) (hb1 d hd)
   have N2:=hN.chl c2 ngl hl0
   refine ⟨_,rfl,_,rfl,net,g,rs,L,gs,e,rfl,N2,hel,by lia,fun t J3 s3' ht=>?_⟩
   have f3':=s3' _ _ f2
   refine ⟨t,rfl,⟨_,SqT.of ht⟩,v_y (xs:=z_h (belN L gs e)) (fun j ys J'=>J3=J'/\ys.length=j/\∀ k d,k<j->(belN L gs e)[k]? = some d->∃ v,ys[k]? = some v/\rp J3 v (gvG (fun e=>gv (R e)) L gs tur bth d)) ⟨rfl,rfl,fun k d h=>absurd h (Nat.not_lt_zero _)⟩ ?_ ?_ ?_ ?_⟩
   ·rintro j ys J' _ ⟨rfl,_⟩
    exact SqT.of ht
   ·rintro j ys J' hj ⟨rfl,hy,_⟩
    rw [z_i] at hj
    exact y_l (by lia)
   ·rintro j y ys J' hy ⟨rfl,hyl,hya⟩
    obtain ⟨hj,rfl⟩:=x_b hy
    have hdj:(belN L gs e)[j]? = some ((belN L gs e).getD j 0):=by rw [List.getD_eq_getElem?_getD,List.getElem?_eq_getElem hj];rfl
    generalize (belN L gs e).getD j 0=d at hdj
    obtain ⟨hdS,hdv⟩:=hcl d (List.mem_of_getElem? hdj)
    obtain ⟨vd,hvd,rvd⟩:=(hF2.2 d).2 hdS
    dsimp only at rvd
    rw [hdv] at rvd
    have hdg:=DGet.k (k:=.inl (d:Int)) f3'
    rw [hvd] at hdg
    unfold tYes
    refine iteT ⟨_,rfl,_,rfl,fd,_,rfl,hdg,rfl,by rw [List.length_append,hyl];rfl,fun k d' hk hd'=>?_⟩
    by_cases ck:k<j
    ·obtain ⟨v',a1,a2⟩:=hya k d' ck hd'
     exact ⟨v',by rw [List.getElem?_append_left (by lia)];exact a1,a2⟩
    ·have ek:k=j:=by lia
     subst ek
     rw [hdj] at hd'
     cases hd'
     exact ⟨vd,by rw [List.getElem?_append_right (by lia),hyl,Nat.sub_self];rfl,hrp.kp s3'.kpt rvd⟩
   rintro ys J' ⟨rfl,hyl,hya⟩ pt' hpt
   rw [z_i] at hyl hya
   have v4:=s3'.trans (z_f hpt (.lst ys))
   have v34:=z_f hpt (.lst ys)
   have t4:=z_c (H:=J3) (a:=pt') (o:=.lst ys)
   dsimp only [gName]
   generalize upd J3 pt' (.lst ys)=J4 at v4 v34 t4 ⊢
   have f4:=v4 _ _ f2
   have c4:=c2.trans v4.ch
   have C4:=C2.same v4
   have p4:=v4 _ _ p2
   have kl:=hF2.1
   obtain ⟨uf,hff⟩:=hF.ft
   have nfl2:f≠l:=fun e=>by rw [e,hl0] at hff;cases hff
   have ff4:=c4 _ _ nfl2 hff
   have cd4:okf J4:=hF.okc hl0 c4
   have fin:∀ (v:V) (J5:Hp),Same J4 J5->rp J5 v (gvG (fun e=>gv (R e)) L gs tur bth e)->∃ (y9 y10:Option V) (kvF:List (Key×V)),[some (.ref net),some (.ref o),some (.ref gd),some (.ref et),some (.ref f),some (.ref ab),some (.ref fd),some (.ref pg),some (.ref pw),some (.int (e:Int)),some (.ref pt')]=[some (.ref net),some (.ref o),some (.ref gd),some (.ref et),some (.ref f),some (.ref ab),some (.ref fd),some (.ref pg),some (.ref pw),y9,y10]/\Ch l H (upd J5 fd (.dK (putK kv2 (.inl (e:Int)) v)))/\ClsAt A.c_Classes (upd J5 fd (.dK (putK kv2 (.inl (e:Int)) v))) o l n R/\(upd J5 fd (.dK (putK kv2 (.inl (e:Int)) v))) ps=some (.lst (z_h sg))/\(upd J5 fd (.dK (putK kv2 (.inl (e:Int)) v))) fd=some (.dK kvF)/\FdG rp (upd J5 fd (.dK (putK kv2 (.inl (e:Int)) v))) kvF S (fun d=>if d∈gts/\d∉sg.take (i+1) then none else gvG (fun e=>gv (R e)) L gs tur bth d) (S.length+(i+1)):=fun v J5 s5 hv=>by
    refine ⟨_,_,_,rfl,(c4.trans s5.ch).fr hfd,(C4.same s5).up nfo nfl _,by rw [z_n nfp];exact s5 _ _ p4,z_c,?_⟩
    have kp5:KpT J5 (upd J5 fd (.dK (putK kv2 (.inl (e:Int)) v))):=KpT.up (s5 _ _ f4) nofun
    have hFe:(if e∈gts/\e∉sg.take (i+1) then none else gvG (fun e=>gv (R e)) L gs tur bth e)=gvG (fun e=>gv (R e)) L gs tur bth e:=if_neg fun h=>h.2 (by rw [x_w hsi];exact List.mem_append_right _ (List.mem_singleton.mpr rfl))
    refine ((hF2.kp hrp (v4.kpt.trans s5.kpt)).set (F':=fun d=>if d∈gts/\d∉sg.take (i+1) then none else gvG (fun e=>gv (R e)) L gs tur bth d) heS (fun d hd hde=>?_) (by rw [hFe];exact hv)).kp hrp kp5
    show (if d∈gts/\d∉sg.take i then none else gvG (fun e=>gv (R e)) L gs tur bth d)=if d∈gts/\d∉sg.take (i+1) then none else gvG (fun e=>gv (R e)) L gs tur bth d
    have hiff:d∉sg.take (i+1)↔d∉sg.take i:=by
     rw [x_w hsi,List.mem_append,List.mem_singleton]
     exact ⟨fun h q=>h (.inl q),fun h q=>q.elim h hde⟩
    simp only [hiff]
   refine ⟨_,rfl,_,_,rfl,rfl,(by show (0:Int)<2;decide),rfl,_,rfl,?_⟩
   by_cases hodd:e%2=1
   ·refine y_s (decide_eq_true (by show V.int ((e:Int)%2)=V.int 1;congr 1;lia)) ?_
    have eb:belN L gs e=[e-1]:=by unfold belN;rw [if_pos hodd]
    rw [eb] at hya
    obtain ⟨v0,y0,r0⟩:=hya 0 (e-1) (by simp) rfl
    refine ⟨f,rfl,fo,.inr ⟨uf,ff4⟩,⟨_,hF.dt⟩,_,rfl,pt',_,_,_,rfl,rfl,SqL.of t4,w_q y0,.inr ⟨uf,ff4⟩,1,fdt,_,_,hF.Ft,hr.mono (by first | decide | lia),hF.Bt,v0,_,rfl,hrp.kp v34.kpt r0,cd4,fun v' J5 s5 hv'=>?_⟩
    refine ⟨_,rfl,_,rfl,fd,_,rfl,DPut.k (k:=.inl (e:Int)) (s5 _ _ f4) (y_l (by lia)),fin _ J5 s5 ?_⟩
    rw [gvG_odd (giv:=fun e=>gv (R e)) (e:=e) hG hegv hel hodd]
    exact hv'
   ·refine y_h (decide_eq_false (by show ¬V.int ((e:Int)%2)=V.int 1;intro h;injection h with h;lia)) ?_
    cases hp:gs[e/2-L-1]? with
    | none=>exact absurd (List.getElem?_eq_none_iff.mp hp) (by lia)
    | some p =>
    have eb:belN L gs e=[p.1,p.2]:=by unfold belN;rw [if_neg hodd,hp]
    rw [eb] at hya
    obtain ⟨v0,y0,r0⟩:=hya 0 p.1 (by simp) rfl
    obtain ⟨v1',y1,r1⟩:=hya 1 p.2 (by simp) rfl
    refine ⟨ab,rfl,ofb,.inl hF.lb,⟨_,hF.db⟩,_,rfl,pt',_,_,_,rfl,rfl,SqL.of t4,w_q y0,_,rfl,pt',_,_,_,rfl,rfl,SqL.of t4,(show atI ys ((1:Nat):Int)=some v1' from w_q y1),.inl hF.lb,1,fdb,_,_,hF.Fb,hr.mono (by first | decide | lia),hF.Bb,v0,v1',_,_,rfl,hrp.kp v34.kpt r0,hrp.kp v34.kpt r1,fun v' J5 s5 hv'=>?_⟩
    refine ⟨_,rfl,_,rfl,fd,_,rfl,DPut.k (k:=.inl (e:Int)) (s5 _ _ f4) (y_l (by lia)),fin _ J5 s5 ?_⟩
    rw [gvG_even (giv:=fun e=>gv (R e)) (e:=e) hG hegv hel hodd hp]
    exact hv'
  rintro σ J2 ⟨y9,y10,kv2,rfl,c2,C2,p2,f2,hF2⟩
  rw [z_i,List.take_length] at hF2
  have e2:=c2 _ _ netl het
  have hval:∀ d∈S,∃ v,valV kv2 (.inl (d:Int))=some v/\rp J2 v (gvG (fun e=>gv (R e)) L gs tur bth d):=fun d hd=>by
   obtain ⟨v,a1,a2⟩:=(hF2.2 d).2 hd
   have:(if d∈gts/\d∉sg then none else gvG (fun e=>gv (R e)) L gs tur bth d)=gvG (fun e=>gv (R e)) L gs tur bth d:=if_neg fun h=>h.2 (psg.mem_iff.mpr h.1)
   dsimp only at a2
   rw [this] at a2
   exact ⟨v,a1,a2⟩
  obtain ⟨va,hva,rva⟩:=hval a (hin a hI.ca)
  obtain ⟨vb,hvb,rvb⟩:=hval b (hin b hI.cb)
  refine ⟨_,rfl,et,rfl,⟨_,SqT.of e2⟩,v_y (xs:=[.int (a:Int),.int (b:Int)]) (fun j ys J'=>J2=J'/\ys=[va,vb].take j) ⟨rfl,rfl⟩ ?_ ?_ ?_ ?_⟩
  ·rintro j ys J' _ ⟨rfl,_⟩
   exact SqT.of e2
  ·rintro j ys J' hj ⟨rfl,rfl⟩
   rw [List.length_take]
   exact y_l (by have:j<2:=hj;lia)
  ·rintro j y ys J' hy ⟨rfl,rfl⟩
   have hj:j<2:=(List.getElem?_eq_some_iff.mp hy).1
   unfold tYes
   have h01:j=0\/j=1:=by lia
   rcases h01 with rfl | rfl
   ·cases hy
    have hdg:=DGet.k (k:=.inl (a:Int)) f2
    rw [hva] at hdg
    exact iteT ⟨_,rfl,_,rfl,fd,_,rfl,hdg,rfl,rfl⟩
   ·cases hy
    have hdg:=DGet.k (k:=.inl (b:Int)) f2
    rw [hvb] at hdg
    exact iteT ⟨_,rfl,_,rfl,fd,_,rfl,hdg,rfl,rfl⟩
  rintro ys J' ⟨rfl,rfl⟩ p hp
  have hpH:H p=none:=l_g c2 C2 hp
  have v5:=z_f hp (.lst [va,vb])
  exact q p va vb _ hpH (c2.trans v5.ch) (C2.same v5) z_c (hrp.kp v5.kpt rva) (hrp.kp v5.kpt rvb)
 ·obtain ⟨wt',e,rfl⟩:=last_ex hw0
  refine y_s (decide_eq_true (by rw [z_i,List.length_append];show (0:Int)<((wt'.length+1:Nat):Int);lia)) ?_
  have he0:=hI.hw e (List.mem_append_right _ (List.mem_singleton.mpr rfl))
  have he:=(hS0 e he0).1
  have hpop:∀ (A:List V) (x:V),(A++[x])[(A++[x]).length-1]? = some x:=fun A x=>by rw [List.length_append];simp
  rw [y_t] at wJ
  have hmW:wt'.length+1<=2+2*S.length:=by rw [List.length_append] at hwl;exact hwl
  rw [List.length_append] at hm
  have hm':m+3*S.length=6*n+10+(wt'.length+1):=hm
  refine ⟨fun σ' J'=>∃ m',m'<m/\∃ (x9:Option V) (S gts wt:List Nat) (kvF:List (Key×V)),σ'=[some (.ref net),some (.ref o),some (.ref gd),some (.ref et),some (.ref f),some (.ref ab),some (.ref fd),some (.ref pg),some (.ref pw),x9,none]/\Ch l H J'/\ClsAt A.c_Classes J' o l n R/\J' fd=some (.dK kvF)/\FdG rp J' kvF S (fun e=>gv (R e)) S.length/\J' pg=some (.lst (z_h gts))/\J' pw=some (.lst (z_h wt))/\FndI (fun e=>(gv (R e)).map fun _=>0) L a b (List.range (2*n)) gs S gts wt/\m'+3*S.length=6*n+10+wt.length/\gts.length<=S.length,fun _ _ h=>h,?_⟩
  refine ⟨_,rfl,.inl ⟨rfl,_,SqL.of wJ⟩,pw,_,_,rfl,rfl,wJ,hpop _ _,?_⟩
  rw [List.dropLast_concat]
  have c1:=cJ.fr (o:=.lst (z_h wt')) hpwH
  have C1:=hCJ.up nwo nwl (.lst (z_h wt'))
  have w1:=z_c (H:=J) (a:=pw) (o:=.lst (z_h wt'))
  have f1:(upd J pw (.lst (z_h wt'))) fd=some (.dK kvF):=by rw [z_n nfw];exact fJ
  have g1:(upd J pw (.lst (z_h wt'))) pg=some (.lst (z_h gts)):=by rw [z_n ngw];exact gJ
  dsimp only [gName]
  have k1:KpT J (upd J pw (.lst (z_h wt'))):=KpT.up wJ nofun
  generalize upd J pw (.lst (z_h wt'))=J1 at c1 C1 w1 f1 g1 k1 ⊢
  have hdg:=DGet.k (k:=.inl (e:Int)) f1
  have hF1:=hFd.kp hrp k1
  by_cases heS:e∈S
  ·obtain ⟨ve,hve,_⟩:=(hFd.2 e).2 heS
   rw [hve] at hdg
   refine ⟨_,rfl,_,rfl,fd,_,rfl,hdg,_,rfl,?_⟩
   refine iteT ?_
   exact ⟨m-1,by lia,_,S,gts,wt',kvF,rfl,c1,C1,f1,hF1,g1,w1,hI.old heS,by lia,hgl⟩
  ·rw [(hFd.2 e).1 heS] at hdg
   refine ⟨_,rfl,_,rfl,fd,_,rfl,hdg,_,rfl,?_⟩
   refine iteF ?_
   have d1:J1 gd=some (.dK kvs):=c1 _ _ ngdl hgd
   obtain ⟨dx1,ho1⟩:=C1.1
   refine ⟨_,rfl,gd,rfl,.inl ⟨kvs,.inl d1⟩,_,rfl,o,dx1,_,rfl,ho1,t_l (by decide),_,rfl,o,l,n,R,e,rfl,C1,by lia,fun J2 ch2 C2=>?_⟩
   have d2:=ch2 _ _ ngdl d1
   have f2:=ch2 _ _ nfl.symm f1
   have g2:=ch2 _ _ ngl'.symm g1
   have w2:=ch2 _ _ nwl.symm w1
   have c2:=c1.trans ch2
   have hdg2:=DGet.k (k:=.inl ((R e:Nat):Int)) d2
   obtain ⟨vg,hvg,rvg⟩:∃ vg,(valV kvs (.inl ((R e:Nat):Int))).getD .non=vg/\rp J2 vg (gv (R e)):=by
    cases hge:gv (R e) with
    | none =>
     have h1:=(hgv (R e)).1 hge
     exact ⟨.non,by rw [h1];rfl,hrp.non J2⟩
    | some bb =>
     obtain ⟨v,h1,h2⟩:=(hgv (R e)).2 bb hge
     exact ⟨v,by rw [h1];rfl,hrp.kp (c2.kpt hl0) h2⟩
   refine ⟨_,hdg2,?_⟩
   dsimp only
   rw [hvg]
   have kl:=hFd.1
   refine ⟨_,rfl,_,rfl,fd,_,rfl,DPut.k (k:=.inl (e:Int)) f2 (y_l (by lia)),?_⟩
   obtain ⟨⟨L1,hl1⟩,_⟩:=C1.lst
   have hF2':=(hF1.kp hrp (ch2.kpt hl1)).new (e:=e) (v:=vg) rvg
   have k3:KpT J2 (upd J2 fd (.dK (putK kvF (.inl (e:Int)) vg))):=KpT.up f2 nofun
   have hF3:FdG rp (upd J2 fd (.dK (putK kvF (.inl (e:Int)) vg))) (putK kvF (.inl (e:Int)) vg) (S++[e]) (fun e=>gv (R e)) (S++[e]).length:=by
    rw [List.length_append]
    exact hF2'.kp hrp k3
   have c3:=c2.fr (o:=.dK (putK kvF (.inl (e:Int)) vg)) hfd
   have C3:=C2.up nfo nfl (.dK (putK kvF (.inl (e:Int)) vg))
   have f3:=z_c (H:=J2) (a:=fd) (o:=.dK (putK kvF (.inl (e:Int)) vg))
   have g3:(upd J2 fd (.dK (putK kvF (.inl (e:Int)) vg))) pg=some (.lst (z_h gts)):=by rw [z_n nfg.symm];exact g2
   have w3:(upd J2 fd (.dK (putK kvF (.inl (e:Int)) vg))) pw=some (.lst (z_h wt')):=by rw [z_n nfw.symm];exact w2
   have rv3:=hrp.kp k3 rvg
   generalize upd J2 fd (.dK (putK kvF (.inl (e:Int)) vg))=J3 at c3 C3 f3 g3 w3 hF3 rv3 ⊢
   have hdg3:=DGet.k (k:=.inl (e:Int)) f3
   rw [w_z,if_pos rfl] at hdg3
   have lS:(S++[e]).length=S.length+1:=by rw [List.length_append];rfl
   have hS2:S.length+1<=2*n:=by
    have:=q_u (S:=S++[e]) (S0:=List.range (2*n)) (List.pairwise_append.mpr ⟨hI.nd,List.pairwise_singleton _ _,fun x hx y hy z=>heS (by rw [<-List.mem_singleton.mp hy,<-z];exact hx)⟩) (fun d hd=>(List.mem_append.mp hd).elim (hI.hs d) fun hd=>by rw [List.mem_singleton.mp hd];exact he0)
    rwa [lS,List.length_range] at this
   refine ⟨_,rfl,_,rfl,fd,_,rfl,hdg3,rfl,_,rfl,?_⟩
   cases hge:gv (R e) with
   | some w =>
    rw [hge] at rv3
    refine y_h (decide_eq_false (hrp.som rv3)) (iteF ?_)
    exact ⟨m-4,by lia,_,S++[e],gts,wt',_,rfl,c3,C3,f3,hF3,g3,w3,hI.plain heS (fun h=>by have:=(gn e).mp h.1;rw [hge] at this;cases this),by lia,by lia⟩
   | none =>
    rw [hge] at rv3
    refine y_s (decide_eq_true (hrp.nof rv3)) ?_
    have N3:=hN.chl c3 ngl hl0
    refine ⟨_,rfl,_,_,rfl,rfl,⟨by decide,by decide⟩,_,rfl,net,_,_,_,rfl,rfl,SqT.of N3.p,rfl,_,_,rfl,rfl,_,rfl,?_⟩
    by_cases hel:L<e/2
    ·refine y_s (decide_eq_true (by lia)) ?_
     refine ⟨_,rfl,.inl ⟨rfl,_,SqL.of g3⟩,_,rfl,pg,_,_,rfl,rfl,g3,y_l (by rw [z_i];lia),?_⟩
     rw [<-y_t]
     have c4:=c3.fr (o:=.lst (z_h (gts++[e]))) hpgH
     have C4:=C3.up ngo ngl' (.lst (z_h (gts++[e])))
     have g4:=z_c (H:=J3) (a:=pg) (o:=.lst (z_h (gts++[e])))
     have f4:(upd J3 pg (.lst (z_h (gts++[e])))) fd=some (.dK (putK kvF (.inl (e:Int)) vg)):=by rw [z_n nfg];exact f3
     have w4:(upd J3 pg (.lst (z_h (gts++[e])))) pw=some (.lst (z_h wt')):=by rw [z_n ngw.symm];exact w3
     have k4:KpT J3 (upd J3 pg (.lst (z_h (gts++[e])))):=KpT.up g3 nofun
     generalize upd J3 pg (.lst (z_h (gts++[e])))=J4 at c4 C4 g4 f4 w4 k4 ⊢
     have N4:=hN.chl c4 ngl hl0
     obtain ⟨hb1,hb2⟩:=p_y hG hn he hel
     refine ⟨_,rfl,.inl ⟨rfl,_,SqL.of w4⟩,_,rfl,_,rfl,net,g,rs,L,gs,e,rfl,N4,hel,by lia,fun t J5 s5 ht=>⟨pw,t,_,_,rfl,rfl,s5 _ _ w4,ht,small (by rw [z_i,z_i];lia),?_⟩⟩
     have c5:=(c4.trans s5.ch).fr (o:=.lst (z_h wt'++z_h (belN L gs e))) hpwH
     have C5:=(C4.same s5).up nwo nwl (.lst (z_h wt'++z_h (belN L gs e)))
     have ew:z_h wt'++z_h (belN L gs e)=z_h (wt'++belN L gs e):=by unfold z_h;rw [List.map_append]
     have hI5:=hI.gate hG hn he ((hS0 e he0).2 hge hel) heS ((gn e).mpr hge) hel
     have k5:KpT J5 (upd J5 pw (.lst (z_h wt'++z_h (belN L gs e)))):=KpT.up (s5 _ _ w4) nofun
     have hF5:=((hF3.kp hrp k4).kp hrp s5.kpt).kp hrp k5
     refine ⟨m-4+(belN L gs e).length,by lia,_,S++[e],gts++[e],wt'++belN L gs e,_,rfl,c5,C5,by rw [z_n nfw];exact s5 _ _ f4,hF5,by rw [z_n ngw];exact s5 _ _ g4,by rw [z_c,ew],hI5,by rw [lS,List.length_append];lia,by rw [List.length_append,List.length_append];have:[e].length=1:=rfl;lia⟩
    ·refine y_h (decide_eq_false (by lia)) ?_
     exact ⟨m-4,by lia,_,S++[e],gts,wt',_,rfl,c3,C3,f3,hF3,g3,w3,hI.plain heS (fun h=>hel h.2),by lia,by lia⟩
theorem q_d(T:Tx w K mg A):FnOk P w K mg base CX0 1 A.a_both_sets A.d_both_sets ["one", "other"] (p_q rpS bthS):=by
 refine T.F_both_sets.ok sc_both_sets (fun vs H Q E h=>?_) (fun cdv A' outer s H vs Q E hr h=>?_)
 ·obtain ⟨v1,v2,x,y,rfl,r1,r2,q⟩:=h
  rfl
 obtain ⟨v1,v2,x,y,rfl,r1,r2,q⟩:=h
 obtain ⟨t_LOW,g_LOW⟩:=T.g_LOW
 have hu64:=hr.units
 refine ⟨_,(z_d (y_x (PW.pt (t_m (z_r (u_y hu64) (pv 0) (v_c (v:=.str "low") rfl g_LOW ⟨_,rfl⟩) (nomark _)) (v_v (z_r (u_y hu64) (pv 1) (v_c (v:=.str "low") rfl g_LOW ⟨_,rfl⟩) (nomark _))))) (z_j (z_w (v_c (v:=.str "low") rfl g_LOW ⟨_,rfl⟩))) z_y)
  (z_d (y_x (PW.pt (t_m (z_r q_g (pv 0) w_f (nomark _)) (v_v (z_r q_g (pv 1) w_f (nomark _))))) (z_j (z_w w_f)) z_y)
  (z_d (z_t (i:=2) sc_both_sets.nd rfl (Or.inl rfl) (z_k op_or (z_o y_a (pv 0) z_b (fun _ _=>rfl)) (z_o y_a (pv 1) z_b (fun _ _=>rfl))))
  (z_d (z_t (i:=3) sc_both_sets.nd rfl (Or.inl rfl) (z_k op_or (z_o y_a (pv 0) z_b (fun _ _=>rfl)) (z_o y_a (pv 1) z_b (fun _ _=>rfl))))
  (z_j (z_w (s_u (z_r op_ne (z_k op_and (pv 2) (pv 3)) z_b (nomark _)) (v_c (v:=.str "low") rfl g_LOW ⟨_,rfl⟩) (w_g (z_a (pv 2) (z_a (pv 3) z_e)))))))))),?_⟩
 have qS:∀ z,bthS x y=z->rpS H (match z with | none=>.non | some none=>.str "low" | some (some _)=>.non) z->Q (match z with | none=>.non | some none=>.str "low" | some (some _)=>.non) H:=fun z e h=>q _ H (Same.refl H) (by rw [e];exact h)
 refine ⟨_,rfl,dSe x,.str "low",o_y r1,(by unfold RdD;rfl),u_n x,l_u,_,rfl,?_⟩
 rw [show PyData.eqv (dSe x) (.str "low")=decide (x=some none) from p_a x (some none),Bool.false_xor]
 by_cases hx:x=some none
 ·refine y_s (decide_eq_true hx) (iteT ?_)
  exact q _ H (Same.refl H) (by rw [hx];rfl)
 refine y_h (decide_eq_false hx) ?_
 refine ⟨_,rfl,dSe y,.str "low",o_y r2,(by unfold RdD;rfl),u_n y,l_u,_,rfl,?_⟩
 rw [show PyData.eqv (dSe y) (.str "low")=decide (y=some none) from p_a y (some none),Bool.false_xor]
 by_cases hy:y=some none
 ·refine y_s (decide_eq_true hy) ?_
  refine q _ H (Same.refl H) ?_
  rw [hy]
  rcases x with _ | _ | p<;>first | rfl | exact absurd rfl hx
 refine y_h (decide_eq_false hy) ?_
 refine ⟨_,rfl,rfl,_,rfl,?_⟩
 rcases x with _ | _ | p
 ·have e1:v1 = .non:=r1
  refine y_s (decide_eq_true e1) (iteT ?_)
  refine q _ H (Same.refl H) ?_
  rcases y with _ | _ | p<;>first | rfl | exact absurd rfl hy
 ·exact absurd rfl hx
 refine y_h (decide_eq_false (rpS_ok.som r1)) ?_
 refine ⟨_,rfl,rfl,_,rfl,?_⟩
 rcases y with _ | _ | p'
 ·have e2:v2 = .non:=r2
  exact y_s (decide_eq_true e2) (q _ H (Same.refl H) rfl)
 ·exact absurd rfl hy
 refine y_h (decide_eq_false (rpS_ok.som r2)) ?_
 obtain ⟨t1,e1,h1⟩:=r1
 obtain ⟨t2,e2,h2⟩:=r2
 subst e1 e2
 refine ⟨_,rfl,t1,_,_,_,rfl,rfl,SqT.of h1,rfl,_,rfl,t2,_,_,_,rfl,rfl,SqT.of h2,rfl,_,_,rfl,rfl,?_⟩
 refine ⟨_,rfl,t1,_,_,_,rfl,rfl,SqT.of h1,rfl,_,rfl,t2,_,_,_,rfl,rfl,SqT.of h2,rfl,_,_,rfl,rfl,?_⟩
 dsimp only [gName]
 rw [k_j,k_j]
 refine ⟨_,rfl,_,rfl,_,_,rfl,rfl,?_⟩
 dsimp only
 rw [p_x]
 refine ⟨rfl,_,rfl,?_⟩
 by_cases c:(p.1|||p'.1)&&&(p.2|||p'.2)=0
 ·refine y_h (by show (!decide (V.int (((p.1|||p'.1)&&&(p.2|||p'.2):Nat):Int)=V.int 0))=false;rw [c];rfl) ?_
  refine ⟨_,rfl,_,rfl,zl2,fun t ht=>q _ _ (z_f ht _) ?_⟩
  have e:bthS (some (some p)) (some (some p'))=some (some (p.1|||p'.1,p.2|||p'.2)):=by show some (jnS p p')=_;unfold jnS;rw [if_pos c]
  rw [e]
  exact ⟨t,rfl,z_c⟩
 ·refine y_s (by show (!decide (V.int (((p.1|||p'.1)&&&(p.2|||p'.2):Nat):Int)=V.int 0))=true;rw [decide_eq_false (fun h=>c (by injection h with h;lia))];rfl) ?_
  refine q _ H (Same.refl H) ?_
  have e:bthS (some (some p)) (some (some p'))=some none:=by show some (jnS p p')=_;unfold jnS;rw [if_neg c]
  rw [e]
  rfl
theorem u_x(T:Tx w K mg A)(C_sets_of_both:LamAt mg base A.tc_sets_of_both A.tp_sets_of_both)(G_found_of:∀ base':Heap,FnOk P w K mg base' CX0 2 A.a_found_of A.d_found_of ["net", "classes", "given", "ends", "turned", "both"] (q_s A.c_Classes P w K mg base'))(G_both_sets:FnOk P w K mg base CX0 1 A.a_both_sets A.d_both_sets ["one", "other"] (p_q rpS bthS))(G_Classes_least:FnOk P w K mg base CX0 1 A.a_Classes_least A.d_Classes_least ["self", "end"] (x_o A.c_Classes)):FnOk P w K mg base CX0 3 A.a_sets_of_both A.d_sets_of_both ["net", "classes", "step"] (n_c A.c_Classes A.tp_sets_of_both z_u z_s):=by
 refine T.F_sets_of_both.okC T.L_sets_of_both sc_sets_of_both (fun vs H Q E h=>?_) (fun A' outer s H vs Q E hr h=>?_)
 ·obtain ⟨net,g,o,l,st,lt,rs,L,n,a,b,gs,R,ls,wd,rfl,hS,h64,hd,hP,q⟩:=h
  rfl
 obtain ⟨net,g,o,l,st,lt,rs,L,n,a,b,gs,R,ls,wd,rfl,hS,h64,hd,hP,q⟩:=h
 obtain ⟨t_LOW,g_LOW⟩:=T.g_LOW
 have hu:=hu_of hr
 refine ⟨_,(z_d (z_t (i:=3) sc_sets_of_both.nd rfl (Or.inl rfl) (k_l (u_g z_b (v_c (v:=.str "low") rfl g_LOW ⟨_,rfl⟩) (u_g z_b (w_g (z_a z_b (z_a z_b z_e))) k_s)) rfl rfl (by simp) (by decide)))
  (z_d (z_t (i:=4) sc_sets_of_both.nd rfl (Or.inl rfl) z_b)
  (z_d (w_s PassesOwn.never rfl (t_w (z_o y_a (pv 2) z_b (fun _ _=>rfl))) (y_i (i:=5) sc_sets_of_both.nd rfl (Or.inl rfl))
    (z_d (s_x hu (pv 3) (x_z (pv 1) T.cl_Classes T.me_Classes_least G_Classes_least (hr.mono (by first | decide | lia)) T.B_Classes_least .nil pass0 (z_a (pv 5) z_e)) (w_g (z_a (pv 4) (z_a z_b z_e))) rfl)
  (z_d (s_x hu (pv 3) (z_k w_o (x_z (pv 1) T.cl_Classes T.me_Classes_least G_Classes_least (hr.mono (by first | decide | lia)) T.B_Classes_least .nil pass0 (z_a (pv 5) z_e)) z_b) (w_g (z_a z_b (z_a (pv 4) z_e))) rfl)
  (z_j (z_t (i:=4) sc_sets_of_both.nd rfl (Or.inl rfl) (z_k y_p (pv 4) z_b))))))
  (z_j (z_w (y_c (G_found_of base) (hr.mono (by first | decide | lia)) rfl T.M_found_of T.F_found_of.kp T.B_found_of .nil pass0 (z_a (pv 0) (z_a (pv 1) (z_a (pv 3) (z_a (u_f j_c (pv 2) (v_q z_b) (v_q z_b)) (z_a (pe_lamV (qual:=z_s) C_sets_of_both rfl (by first | rfl | decide) rfl rfl) (z_a (pe_fnV rfl T.M_both_sets) z_e)))))))))))),?_⟩
 obtain ⟨⟨L0,hl0⟩,x0,ho0⟩:=hS.ng.cls.lst
 have nol:o≠l:=hS.ng.cls.ne
 have nst:st≠l:=x_k hS.st hl0
 have nlt:lt≠l:=x_k hS.lt hl0
 have ntp:A.tp_sets_of_both≠l:=fun e=>by rw [e,hl0] at hP;cases hP
 intro gd hgd
 refine ⟨zl2,fun t0 ht0=>?_⟩
 have ngt:gd≠t0:=z_g z_c ht0
 refine ⟨by rw [z_n ngt];exact z_c,[(.inl ((0:Nat):Int),.str "low"),(.inl ((1:Nat):Int),.ref t0)],rfl,(by show 2<=15;decide),?_⟩
 have s0:Same H (upd (upd H gd (.dK [])) t0 (.tup [.int 0,.int 0])):=(z_f hgd _).trans (z_f ht0 _)
 have f0:(upd (upd H gd (.dK [])) t0 (.tup [.int 0,.int 0])) t0=some (.tup [.int ((0:Nat):Int),.int ((0:Nat):Int)]):=z_c
 have k0:GvO (upd (upd H gd (.dK [])) t0 (.tup [.int 0,.int 0])) rpS (putK (putK ([]:List (Key×V)) (Sum.inl ((0:Nat):Int):Key) (V.str "low")) (Sum.inl ((1:Nat):Int):Key) (.ref t0)) (lkG [(0,(none:Ses)),(1,some (0,0))]):=((GvO.nil.new (k:=0) (w:=(none:Ses)) (v:=.str "low") rfl rfl).new (k:=1) (w:=(some (0,0):Ses)) (v:=.ref t0) rfl ⟨t0,rfl,f0⟩)
 have l0:(putK (putK ([]:List (Key×V)) (Sum.inl ((0:Nat):Int):Key) (V.str "low")) (Sum.inl ((1:Nat):Int):Key) (.ref t0)).length<=2:=Nat.le_trans (y_m _ _ _) (Nat.succ_le_succ (Nat.le_trans (y_m _ _ _) (Nat.le_refl _)))
 rw [show mergeK [] [((.inl ((0:Nat):Int):Key),V.str "low"),(.inl ((1:Nat):Int),.ref t0)]=putK (putK ([]:List (Key×V)) (Sum.inl ((0:Nat):Int):Key) (V.str "low")) (Sum.inl ((1:Nat):Int):Key) (.ref t0) from rfl]
 generalize putK (putK ([]:List (Key×V)) (Sum.inl ((0:Nat):Int):Key) (V.str "low")) (Sum.inl ((1:Nat):Int):Key) (.ref t0)=kv0 at k0 l0 ⊢
 have s2:Same H (upd (upd (upd H gd (.dK [])) t0 (.tup [.int 0,.int 0])) gd (.dK kv0)):=x_s s0 hgd _
 have f2:=z_c (H:=upd (upd H gd (.dK [])) t0 (.tup [.int 0,.int 0])) (a:=gd) (o:=.dK kv0)
 have k2:=k0.kp rpS_ok (KpT.up (o':=.dK kv0) (show (upd (upd H gd (.dK [])) t0 (.tup [.int 0,.int 0])) gd=some (.dK []) by rw [z_n ngt];exact z_c) nofun)
 dsimp only [gName]
 generalize upd (upd (upd H gd (.dK [])) t0 (.tup [.int 0,.int 0])) gd (.dK kv0)=H2 at s2 f2 k2 ⊢
 have ngl:l≠gd:=z_g hl0 hgd
 have ngo:o≠gd:=z_g ho0 hgd
 clear s0 f0 k0 ht0
 refine ⟨_,rfl,st,_,_,_,rfl,rfl,SqT.of (s2 _ _ hS.st),rfl,lt,rfl,⟨_,SqT.of (s2 _ _ hS.lt)⟩,l_f (xs:=z_h ls) (fun i σ J=>∃ (x5:Option V) (kvs:List (Key×V)),σ=[some (.ref net),some (.ref o),some (.ref st),some (.ref gd),some (.int ((2^i:Nat):Int)),x5]/\Ch l H J/\ClsAt A.c_Classes J o l n R/\J gd=some (.dK kvs)/\kvs.length<=2+2*i/\GvO J rpS kvs (lkG (gkR R (ls.zipIdx.take i)))) ⟨_,kv0,rfl,s2.ch,hS.ng.cls.same s2,f2,l0,k2⟩ ?_ ?_ ?_⟩
 ·rintro i σ J _ ⟨_,_,rfl,cJ,_⟩
  exact SqT.of (cJ _ _ nlt hS.lt)
 ·rintro i v σ J hv ⟨x5,kvs,rfl,cJ,CJ,dJ,lk,hk⟩
  obtain ⟨hi,rfl⟩:=x_b hv
  have hsi:ls[i]? = some (ls.getD i 0):=by rw [List.getD_eq_getElem?_getD,List.getElem?_eq_getElem hi];rfl
  have hnew:=dst_newR hd hsi
  have hel:=hS.hl _ (List.mem_of_getElem? hsi)
  have htk:=x_w (show ls.zipIdx[i]? = some (ls.getD i 0,i) by rw [List.getElem?_zipIdx,hsi];simp)
  generalize ls.getD i 0=e at hsi hnew htk hel ⊢
  obtain ⟨⟨LJ,hlJ⟩,_⟩:=CJ.lst
  refine ⟨_,rfl,zl2,fun t ht=>?_⟩
  have v1:=z_f ht (.tup [.int ((2^i:Nat):Int),.int 0])
  have t1:=z_c (H:=J) (a:=t) (o:=.tup [.int ((2^i:Nat):Int),.int 0])
  have c1:=cJ.trans v1.ch
  have C1:=CJ.same v1
  have d1:=v1 _ _ dJ
  have hk1:=hk.kp rpS_ok v1.kpt
  generalize upd J t (.tup [.int ((2^i:Nat):Int),.int 0])=J1 at v1 t1 c1 C1 d1 hk1 ⊢
  obtain ⟨dx1,ho1⟩:=C1.1
  obtain ⟨⟨L1,hl1⟩,_⟩:=C1.lst
  refine ⟨_,rfl,_,rfl,o,dx1,_,rfl,ho1,t_l (by decide),_,rfl,o,l,n,R,e,rfl,C1,by lia,fun J2 ch2 C2=>?_⟩
  have d2:=ch2 _ _ ngl.symm d1
  have t2:=ch2 _ _ (x_k t1 hl1) t1
  have hk2:=(hk1.kp rpS_ok (ch2.kpt hl1)).new (w:=(some (2^i,0):Ses)) (v:=.ref t) (hnew (R e) rfl) ⟨t,rfl,t2⟩
  refine ⟨gd,_,rfl,DPut.k (k:=.inl ((R e:Nat):Int)) d2 (y_l (by lia)),?_⟩
  have c3:=(c1.trans ch2).fr (o:=.dK (putK kvs (.inl ((R e:Nat):Int)) (.ref t))) hgd
  have C3:=C2.up ngo ngl (.dK (putK kvs (.inl ((R e:Nat):Int)) (.ref t)))
  have d3:=z_c (H:=J2) (a:=gd) (o:=.dK (putK kvs (.inl ((R e:Nat):Int)) (.ref t)))
  have hk3:=hk2.kp rpS_ok (KpT.up (o':=.dK (putK kvs (.inl ((R e:Nat):Int)) (.ref t))) d2 nofun)
  have l3:=y_m kvs (.inl ((R e:Nat):Int)) (.ref t)
  generalize upd J2 gd (.dK (putK kvs (.inl ((R e:Nat):Int)) (.ref t)))=J3 at c3 C3 d3 hk3 ⊢
  generalize putK kvs (.inl ((R e:Nat):Int)) (.ref t)=kv3 at d3 hk3 l3
  clear hk2 hk1 hk v1 t1 c1 C1 d1 t2 d2 C2 ch2
  refine ⟨_,rfl,zl2,fun t' ht'=>?_⟩
  have v4:=z_f ht' (.tup [.int 0,.int ((2^i:Nat):Int)])
  have t4:=z_c (H:=J3) (a:=t') (o:=.tup [.int 0,.int ((2^i:Nat):Int)])
  have c4:=c3.trans v4.ch
  have C4:=C3.same v4
  have d4:=v4 _ _ d3
  have hk4:=hk3.kp rpS_ok v4.kpt
  generalize upd J3 t' (.tup [.int 0,.int ((2^i:Nat):Int)])=J4 at v4 t4 c4 C4 d4 hk4 ⊢
  obtain ⟨dx4,ho4⟩:=C4.1
  obtain ⟨⟨L4,hl4⟩,_⟩:=C4.lst
  refine ⟨_,rfl,_,rfl,o,dx4,_,rfl,ho4,t_l (by decide),_,rfl,o,l,n,R,e,rfl,C4,by lia,fun J5 ch5 C5=>?_⟩
  have x1:Builtin.bitXor ((R e:Nat):Int) 1=((R e^^^1:Nat):Int):=w_b (R e) 1
  have d5:=ch5 _ _ ngl.symm d4
  have t5:=ch5 _ _ (x_k t4 hl4) t4
  have hk5:=(hk4.kp rpS_ok (ch5.kpt hl4)).new (k:=R e^^^1) (w:=(some (0,2^i):Ses)) (v:=.ref t') (by
   rw [o_k,hnew (R e^^^1) (xor1 (R e)).1]
   exact if_neg fun h=>(xor1 (R e)).2.1 h.symm) ⟨t',rfl,t5⟩
  refine ⟨_,_,rfl,rfl,gd,_,rfl,(by dsimp only;rw [x1];exact DPut.k (k:=.inl ((R e^^^1:Nat):Int)) d5 (y_l (by lia))),?_⟩
  have l5:=y_m kv3 (.inl ((R e^^^1:Nat):Int)) (.ref t')
  refine ⟨_,rfl,_,_,rfl,rfl,.inr ⟨by decide,by decide⟩,?_⟩
  refine ⟨some (.int (e:Int)),_,?_,(c4.trans ch5).fr hgd,C5.up ngo ngl _,z_c,by lia,?_⟩
  ·show [some (V.ref net),some (.ref o),some (.ref st),some (.ref gd),some (.int (((2^i:Nat):Int)*2)),some (.int (e:Int))]=_
   rw [show ((2^i:Nat):Int)*2=((2^(i+1):Nat):Int) by rw [Nat.pow_succ];lia]
  ·rw [htk,gkR_snoc]
   exact hk5.kp rpS_ok (KpT.up d5 nofun)
 rintro σ J ⟨x5,kvs,rfl,cJ,CJ,dJ,lk,hk⟩
 rw [z_i,show ls.zipIdx.take ls.length=ls.zipIdx from List.take_of_length_le (by rw [List.length_zipIdx];lia)] at hk
 refine ⟨_,rfl,_,rfl,_,rfl,_,rfl,_,rfl,_,rfl,st,_,rfl,cJ _ _ nst hS.st,fun et J1 sm1 het=>?_⟩
 have c1:=cJ.trans sm1.ch
 refine ⟨c1 _ _ ntp hP,fun f c' fo J2 sm2 hfn hff hlm hcd=>?_⟩
 have c2:=c1.trans sm2.ch
 obtain ⟨fdt,Ft,Bt,dt⟩:=lamv_ok (P:=P) (w:=w) (K:=K) (mg:=mg) (base:=base) (f:=f) hlm rfl rfl rfl rfl (fun pm ctv u=>rfl) (fun A outer s H=>w_f)
 obtain ⟨oc,od,kV,doc,pm,an,cdv,ct,osl,eD,lk',hcd'⟩:=T.F_both_sets.ex
 have okc:∀ {m:Addr} {ys:List V} {J':Hp},J2 m=some (.lst ys)->Ch m J2 J'->(∃ u,J' f=some (.frz fo u))/\IsCd J' c' z_s:=fun {m ys J'} hm cm=>by
  obtain ⟨oc,u,ws,tq,e1,e2⟩:=hcd
  exact ⟨⟨_,cm _ _ (fun e=>by have:=hff;rw [e,hm] at this;cases this) hff⟩,oc,u,ws,tq,cm _ _ (fun e=>by rw [e,hm] at e1;cases e1) e1,e2⟩
 refine ⟨Ses,rpS,fun _=>none,bthS,fun J'=>(∃ u,J' f=some (.frz fo u))/\IsCd J' c' z_s,net,g,o,l,gd,et,f,A.a_both_sets,rs,L,n,a,b,gs,R,kvs,lkG (gkR R ls.zipIdx),fo,_,fdt,A.d_both_sets,_,_,rfl,rpS_ok,hS.ng.net.chl c2 hS.ng.gl hl0,hS.ng.gt,hS.ng.hn,(CJ.same sm1).same sm2,sm2 _ _ (sm1 _ _ dJ),hk.kp rpS_ok (sm1.kpt.trans sm2.kpt),sm2 _ _ het,hS.ha,hS.hb,hS.ng.gl,⟨⟨_,hff⟩,dt,okc,?_,Bt,lk',rfl,G_both_sets,T.B_both_sets⟩,fun p va vb J3 hp ch3 C3 e3 ra rb=>q p va vb J3 (c2.trans ch3) C3 e3 ra rb⟩
 refine Ft.imp fun vs H Q E h=>?_
 obtain ⟨v,x,rfl,rv,⟨⟨u,hf⟩,hcd⟩,q⟩:=h
 exact ⟨v,u,rfl,hf,hcd,q _ H (Same.refl H) rfl⟩
theorem m_b(T:Tx w K mg A)(G_is_step:FnOk P w K mg base CX0 4 A.a_is_step A.d_is_step ["net", "classes", "thing"] (n_d A.c_Classes))(G_bits_of_both:FnOk P w K mg base CX0 1 A.a_bits_of_both A.d_bits_of_both ["net", "classes", "step"] nv_any)(G_sets_of_both:FnOk P w K mg base CX0 3 A.a_sets_of_both A.d_sets_of_both ["net", "classes", "step"] (n_c A.c_Classes A.tp_sets_of_both z_u z_s)):FnOk P w K mg base CX0 5 A.a_is_good A.d_is_good ["net", "classes", "step"] (n_b A.c_Classes A.tp_sets_of_both z_u z_s):=by
 refine T.F_is_good.ok sc_is_good (fun vs H Q E h=>?_) (fun cdv A' outer s H vs Q E hr h=>?_)
 ·obtain ⟨net,g,o,l,st,lt,rs,L,n,a,b,gs,R,ls,rfl,hS,h65,hP2,q⟩:=h
  rfl
 obtain ⟨net,g,o,l,st,lt,rs,L,n,a,b,gs,R,ls,rfl,hS,h65,hP2,q⟩:=h
 have hu64:=hr.units
 refine ⟨_,(z_d (y_x (t_y (x_m (y_c G_is_step (hr.mono (by first | decide | lia)) rfl T.M_is_step T.F_is_step.kp T.B_is_step .nil pass0 (z_a (pv 0) (z_a (pv 1) (z_a (pv 2) z_e)))) (fun _=>rfl))) (z_j (z_w v_x)) z_y)
  (z_d (y_x (z_r w_e (z_o y_a (pv 2) z_b (fun _ _=>rfl)) pe_str (nomark _)) (z_j (z_t (i:=3) sc_is_good.nd rfl (Or.inl rfl) (y_c G_bits_of_both (hr.mono (by first | decide | lia)) rfl T.M_bits_of_both T.F_bits_of_both.kp T.B_bits_of_both .nil pass0 (z_a (pv 0) (z_a (pv 1) (z_a (pv 2) z_e)))))) (z_j (z_t (i:=3) sc_is_good.nd rfl (Or.inl rfl) (y_c G_sets_of_both (hr.mono (by first | decide | lia)) rfl T.M_sets_of_both T.F_sets_of_both.kp T.B_sets_of_both .nil pass0 (z_a (pv 0) (z_a (pv 1) (z_a (pv 2) z_e)))))))
  (z_j (z_w (q_i (x_y k_i (z_o z_m (pv 3) z_b (fun _ _=>rfl)) w_f (nomark _)) (q_j (x_y (u_y hu64) (z_o z_m (pv 3) z_b (fun _ _=>rfl)) (z_o z_m (pv 3) z_b (fun _ _=>rfl)) (nomark _)))))))),?_⟩
 obtain ⟨⟨L0,hl0⟩,x0,ho0⟩:=hS.ng.cls.lst
 have n2:A.tp_sets_of_both≠l:=fun e=>by rw [e,hl0] at hP2;cases hP2
 refine ⟨_,rfl,_,rfl,_,rfl,net,g,o,l,st,lt,rs,L,n,a,b,gs,R,ls,rfl,hS,h65,fun H1 c1 C1=>⟨_,rfl,?_⟩⟩
 by_cases hst:ls.length<=64/\Dst R ls
 case neg =>
  have:=q H1 c1 C1
  unfold gooR at this
  rw [decide_eq_false (fun h=>hst ⟨h.1,h.2.1⟩)] at this
  exact y_s (by rw [decide_eq_false hst];rfl) this
 refine y_h (by rw [decide_eq_true hst];rfl) ?_
 have hS1:=hS.ch c1 C1
 refine ⟨_,rfl,st,_,_,_,rfl,rfl,SqT.of hS1.st,rfl,rfl,_,rfl,y_h (by decide) ?_⟩
 refine ⟨_,rfl,_,rfl,_,rfl,net,g,o,l,st,lt,rs,L,n,_,_,gs,R,_,_,rfl,hS1,hst.1,hst.2,c1 _ _ n2 hP2,fun p va vb H2 c2 C2 fp ra rb=>?_⟩
 have hq:=q H2 (c1.trans c2) C2
 unfold gooR at hq
 refine ⟨_,rfl,p,_,_,_,rfl,rfl,SqL.of fp,rfl,rfl,_,rfl,?_⟩
 cases hva:valR R L gs ls a with
 | none =>
  rw [hva] at ra
  rw [hva,decide_eq_false (fun h=>h.2.2.1 rfl)] at hq
  exact y_h (by rw [decide_eq_true (rpS_ok.nof ra)];rfl) hq
 | some x =>
  rw [hva] at ra hq
  refine y_s (by rw [decide_eq_false (rpS_ok.som ra)];rfl) ⟨_,rfl,p,_,_,_,rfl,rfl,SqL.of fp,rfl,_,rfl,p,_,_,_,rfl,rfl,SqL.of fp,rfl,?_⟩
  refine ⟨dSe (some x),dSe (valR R L gs ls b),o_y ra,o_y rb,u_n _,u_n _,?_⟩
  rw [p_a,Bool.false_xor]
  have e:decide (some x=valR R L gs ls b)=decide (ls.length<=64/\Dst R ls/\some x≠none/\some x=valR R L gs ls b):=decide_eq_decide.mpr ⟨fun h=>⟨hst.1,hst.2,nofun,h⟩,fun h=>h.2.2.2⟩
  rw [e]
  exact hq
theorem u_v(T:Tx w K mg A):FnOk P w K mg base CX0 1 A.a_Classes_init A.d_Classes_init ["self", "knots"] (q_n A.c_Classes):=by
 refine T.F_Classes_init.ok t_g (fun vs H Q E h=>?_) (fun cdv A' outer s H vs Q E hr h=>?_)
 ·obtain ⟨o,dx,n,rfl,ho,hn,q⟩:=h
  rfl
 obtain ⟨o,dx,n,rfl,ho,hn,q⟩:=h
 refine ⟨_,(z_j (ps_fld (pv 0) (v_b [] (fun _ _ h=>h) rfl (y_w rfl T.range (z_a (pv 1) z_e)) (fun _ _ _ _=>x_j) (fun _ _ _ _=>(z_k y_p z_b (pv 0))) rfl (show ∀ j∈([]:List Nat),j<2 by decide) (show (["knot"]:List Str).Nodup by decide +kernel)) rfl)),?_⟩
 refine ⟨_,rfl,_,rfl,by lia,by lia,x_n (lo:=0) (fun i ys H'=>H=H'/\ys=z_h ((List.range i).map fun k=>2*k)) ⟨rfl,rfl⟩ ?_ ?_ ?_⟩
 ·rintro i ys H' hi ⟨rfl,rfl⟩
  rw [z_i,List.length_map,List.length_range]
  exact y_l (by lia)
 ·rintro i ys H' hi ⟨rfl,rfl⟩
  unfold tYes
  refine iteT ⟨_,rfl,_,_,rfl,rfl,.inl ⟨by decide,by decide⟩,?_⟩
  refine ⟨rfl,?_⟩
  rw [List.range_succ,List.map_append]
  unfold z_h
  rw [List.map_append]
  congr 1
  show [V.int (2*(0+(i:Int)))]=[V.int ((2*i:Nat):Int)]
  rw [Int.zero_add,Int.natCast_mul]
  rfl
 ·rintro ys H' ⟨rfl,rfl⟩ pl hpl
  have nol:o≠pl:=z_g ho hpl
  refine ⟨_,rfl,o,A.c_Classes,dx,[],rfl,(by rw [z_n nol];exact ho),T.cl_Classes,T.n_Classes_lesser,by decide,?_⟩
  refine q pl _ hpl (fun b o' nb e=>?_) ⟨⟨dx,z_c⟩,_,(by rw [z_n (Ne.symm nol),z_c]),?_,hn⟩
  ·rw [z_n nb,z_n (z_g e hpl)]
   exact e
  ·have:((n:Int)-0).toNat=n:=by lia
   simp only [Int.toNat_natCast,Int.sub_zero]
   exact Uf.init n
theorem u_w(T:Tx w K mg A)(G_Classes_least:FnOk P w K mg base CX0 1 A.a_Classes_least A.d_Classes_least ["self", "end"] (x_o A.c_Classes)):FnOk P w K mg base CX0 2 A.a_Classes_join A.d_Classes_join ["self", "one", "other"] (q_o A.c_Classes):=by
 refine T.F_Classes_join.ok sc_Classes_join (fun vs H Q E h=>?_) (fun cdv A' outer s H vs Q E hr h=>?_)
 ·obtain ⟨o,l,n,R,a,b,rfl,hC,ha,hb,q⟩:=h
  rfl
 obtain ⟨o,l,n,R,a,b,rfl,hC,ha,hb,q⟩:=h
 refine ⟨_,(z_d (z_t (i:=3) sc_Classes_join.nd rfl (Or.inl rfl) (z_q (r_n rfl) rfl T.min PyProof.Rows.boot_min (z_a (x_z (pv 0) T.cl_Classes T.me_Classes_least G_Classes_least (hr.mono (by first | decide | lia)) T.B_Classes_least .nil pass0 (z_a (pv 1) z_e)) (z_a (x_z (pv 0) T.cl_Classes T.me_Classes_least G_Classes_least (hr.mono (by first | decide | lia)) T.B_Classes_least .nil pass0 (z_a (pv 2) z_e)) z_e))))
  (z_d (z_t (i:=4) sc_Classes_join.nd rfl (Or.inl rfl) (z_q (r_m rfl) rfl T.max PyProof.Rows.boot_max (z_a (x_z (pv 0) T.cl_Classes T.me_Classes_least G_Classes_least (hr.mono (by first | decide | lia)) T.B_Classes_least .nil pass0 (z_a (pv 1) z_e)) (z_a (x_z (pv 0) T.cl_Classes T.me_Classes_least G_Classes_least (hr.mono (by first | decide | lia)) T.B_Classes_least .nil pass0 (z_a (pv 2) z_e)) z_e))))
  (z_d (y_x (z_r w_e (pv 3) (pv 4) (nomark _)) (z_j (z_w v_x)) z_y)
  (z_d (y_x (z_r w_e (z_k w_o (pv 3) z_b) (pv 4) (nomark _)) (z_j (z_w v_x)) z_y)
  (z_d (t_x (z_k w_o (pv 3) (z_k z_z (pv 4) z_b)) (k_n (pe_fld (pv 0) rfl) (z_k y_o (pv 4) z_b) r_b))
  (z_j (z_w v_x))))))),?_⟩
 obtain ⟨dx1,ho1⟩:=hC.1
 refine ⟨_,rfl,o,dx1,_,rfl,ho1,t_l (by decide),_,rfl,o,l,n,R,a,rfl,hC,ha,fun H1 ch1 hC1=>?_⟩
 obtain ⟨dx2,ho2⟩:=hC1.1
 refine ⟨_,rfl,o,dx2,_,rfl,ho2,t_l (by decide),_,rfl,o,l,n,R,b,rfl,hC1,hb,fun H2 ch2 hC2=>?_⟩
 refine ⟨_,_,rfl,?_⟩
 obtain ⟨dx3,ho3⟩:=hC2.1
 refine ⟨_,rfl,o,dx3,_,rfl,ho3,t_l (by decide),_,rfl,o,l,n,R,a,rfl,hC2,ha,fun H3 ch3 hC3=>?_⟩
 obtain ⟨dx4,ho4⟩:=hC3.1
 refine ⟨_,rfl,o,dx4,_,rfl,ho4,t_l (by decide),_,rfl,o,l,n,R,b,rfl,hC3,hb,fun H4 ch4 hC4=>?_⟩
 refine ⟨_,_,rfl,?_⟩
 have ch4:=((ch1.trans ch2).trans ch3).trans ch4
 have elo:(if ((R b:Nat):Int)<((R a:Nat):Int) then ((R b:Nat):Int) else ((R a:Nat):Int))=((min (R a) (R b):Nat):Int):=by
  split<;>lia
 have ehi:(if ((R b:Nat):Int) > ((R a:Nat):Int) then ((R b:Nat):Int) else ((R a:Nat):Int))=((max (R a) (R b):Nat):Int):=by
  split<;>lia
 obtain ⟨⟨dx,ho⟩,L,hl,u,hn⟩:=id hC4
 have lea:=u.le ha
 have leb:=u.le hb
 have rra:=u.rr ha
 have rrb:=u.rr hb
 have c1:=y_u (R a)
 have c2:=y_u (R b)
 have c3:=u_m (R a)
 have c4:=u_m (R b)
 generalize hlo:min (R a) (R b)=lo at elo q
 generalize hhi:max (R a) (R b)=hi at ehi q
 rw [elo,ehi]
 have c5:=y_u lo
 have c6:=u_m lo
 have xl:Builtin.bitXor ((lo:Nat):Int) 1=((lo^^^1:Nat):Int):=w_b lo 1
 refine ⟨_,rfl,_,rfl,rfl,_,rfl,?_⟩
 rcases q with ⟨h1,q⟩ | ⟨h1,q⟩ | ⟨h1,h2,q⟩
 ·refine y_s (decide_eq_true (by congr 1;lia)) ?_
  exact q H4 ch4 hC4
 ·refine y_h (decide_eq_false (by intro h;injection h with h;lia)) ?_
  refine ⟨_,rfl,_,_,rfl,rfl,_,rfl,rfl,_,rfl,?_⟩
  refine y_s (decide_eq_true (by dsimp only;rw [xl];congr 1;lia)) ?_
  exact q H4 ch4 hC4
 ·refine y_h (decide_eq_false (by intro h;injection h with h;lia)) ?_
  refine ⟨_,rfl,_,_,rfl,rfl,_,rfl,rfl,_,rfl,?_⟩
  refine y_h (decide_eq_false (by dsimp only;rw [xl];intro h;injection h with h;lia)) ?_
  have hx:Builtin.bitXor (lo:Int) ((hi:Int)%2)=((lo^^^(hi%2):Nat):Int):=by
   rw [show (hi:Int)%2=((hi%2:Nat):Int) by lia]
   exact w_b lo (hi%2)
  have hlt:lo/2<hi/2:=by lia
  have hhn:hi/2<n:=by lia
  have hRl:R lo=lo:=by
   have:lo=R a\/lo=R b:=by lia
   rcases this with h | h<;>rw [h]<;>assumption
  have hRh:R hi=hi:=by
   have:hi=R a\/hi=R b:=by lia
   rcases this with h | h<;>rw [h]<;>assumption
  refine ⟨_,rfl,_,rfl,_,_,rfl,rfl,(by show (0:Int)<2;decide),_,_,rfl,rfl,_,rfl,o,A.c_Classes,dx,_,_,rfl,ho,T.cl_Classes,T.n_Classes_lesser,r_y,_,rfl,_,_,rfl,rfl,⟨by decide,by decide⟩,l,_,_,hi/2,rfl,rfl,hl,?_,?_⟩
  ·exact o_h (by rw [u.len];exact hhn)
  ·dsimp only
   rw [hx,q_a]
   exact q _ (ch4.trans (Ch.put _)) ⟨⟨dx,by rw [z_n hC4.ne];exact ho⟩,_,z_c,u.join hRl hRh hlt hhn,hn⟩
theorem ok_L_row(T:Tx w K mg A):FnOk P w K mg base CX0 1 A.a_L_row A.d_L_row ["_law_script", "_law_at", "_law_many"] (n_a K):=by
 refine T.F_L_row.ok sc_L_row (fun vs H Q E h=>?_) (fun cdv A' outer s H vs Q E hr h=>?_)
 ·obtain ⟨a,ns,i,n,rfl,hS,h63,hi,hn,hn2,q⟩:=h
  rfl
 obtain ⟨a,ns,i,n,rfl,hS,h63,hi,hn,hn2,q⟩:=h
 refine ⟨_,(z_d (z_t (i:=3) sc_L_row.nd rfl (Or.inl rfl) z_b)
  (z_d (y_x (z_r op_lt (pv 1) (z_q y_d rfl T.len PySem.boot_len (z_a (pv 0) z_e)) (nomark _)) (z_j (z_t (i:=3) sc_L_row.nd rfl (Or.inl rfl) (z_o z_m (pv 0) (pv 1) (fun _ _=>rfl)))) z_y)
  (z_d (z_t (i:=4) sc_L_row.nd rfl (Or.inl rfl) (z_q p_z rfl T.abs PyProof.Rows.boot_abs (z_a (pv 3) z_e)))
  (z_d (z_t (i:=5) sc_L_row.nd rfl (Or.inl rfl) (x_y op_ge (pv 4) (z_k o_p z_b z_b) (nomark _)))
  (z_d (z_t (i:=6) sc_L_row.nd rfl (Or.inl rfl) (x_l z_e))
  (z_d (w_s PassesOwn.never rfl (y_w rfl T.range (z_a (pv 2) z_e)) (y_i (i:=7) sc_L_row.nd rfl (Or.inl rfl))
    (z_j (y_x (PW.pt (o_v (x_m (pv 5) (fun _=>rfl)) (s_z (z_r q_e (pv 4) z_b (nomark _))))) (z_d (w_a (t_a PySem.F.plainAttrs_list PySem.F.slot_list_append PySem.F.type_list_append x_g (pv 6) (z_a (z_k z_z (pv 4) (z_k o_p z_b z_b)) z_e)))
  (z_j (z_t (i:=4) sc_L_row.nd rfl (Or.inl rfl) (z_k y_o (pv 4) (z_k o_p z_b z_b))))) (z_d (z_t (i:=8) sc_L_row.nd rfl (Or.inl rfl) (z_k y_g (z_k y_g (z_k y_g (z_k y_g (z_k z_z (z_q p_z rfl T.abs PyProof.Rows.boot_abs (z_a (pv 3) z_e)) z_b) (z_k y_p (z_k y_p z_b (pv 7)) (pv 7))) (z_k y_p z_b (pv 1))) (z_k y_p z_b (pv 7))) z_b))
  (z_d (z_t (i:=8) sc_L_row.nd rfl (Or.inl rfl) (z_k z_z (z_k y_p (pv 8) z_b) z_b))
  (z_j (w_a (t_a PySem.F.plainAttrs_list PySem.F.slot_list_append PySem.F.type_list_append x_g (pv 6) (z_a (z_k z_z (z_k y_g (z_k z_z (z_k y_p (pv 8) (pv 8)) z_b) (z_k y_o (pv 8) z_b)) (z_k o_p z_b z_b)) z_e)))))))))
  (z_j (z_w (pv 6))))))))),?_⟩
 have hl:(ns.map V.int).length=ns.length:=List.length_map _
 refine ⟨_,rfl,_,rfl,_,_,rfl,.inl ⟨_,hS,rfl⟩,_,_,rfl,rfl,_,rfl,?_⟩
 refine ite2 (fun c=>?_) (fun c=>?_)
 ·have c':i<(((ns.map V.int).length:Nat):Int):=of_decide_eq_true c
  rw [hl] at c'
  obtain ⟨cell,hv,_⟩:=m_o hi c'
  refine ⟨_,rfl,_,rfl,a,_,_,_,rfl,rfl,hS,hv,?_⟩
  refine ⟨_,rfl,_,rfl,?_⟩
  refine ⟨_,rfl,_,_,rfl,rfl,⟨by decide,by decide,by decide⟩,_,_,rfl,rfl,?_⟩
  refine ⟨zl0,fun p hp=>?_⟩
  refine ⟨_,rfl,_,rfl,by lia,by lia,w_c (lo:=0) (RowInv a p i n H)
   ⟨_,_,_,[],none,none,rfl,by split<;>lia,rfl,(fun _ h=>nomatch h),z_f hp _,z_c⟩ ?_ ?_⟩
  ·rintro j σ H1 hj ⟨cell,great,rest,rs,x,y,rfl,hr0,hrs,hd,hs1,hp1⟩
   have hlen:(rs.map V.int).length<sizeLine:=by rw [List.length_map];exact y_l (by lia)
   have big:∀ v:Int,0<=v->v<1000000->∀ (rest':Int) (x' y':Option V),0<=rest'->RowInv a p i n H (j+1) [some (V.ref a),some (.int i),some (.int n),some (.int cell),some (.int rest'),some (.bl great),some (.ref p),x',y'] (upd H1 p (.lst (rs.map V.int++[.int v]))):=fun v h0 h1 rest' x' y' hr' =>
    ⟨cell,great,rest',rs++[v],_,_,rfl,hr',by rw [List.length_append,hrs];rfl,hd.snoc h0 h1,x_s hs1 hp _,by rw [z_c,List.map_append];rfl⟩
   refine ⟨_,rfl,_,rfl,?_⟩
   refine ite2 (fun c1=>?_) (fun c1=>?_)
   ·refine ⟨_,rfl,_,_,rfl,rfl,_,rfl,?_⟩
    refine ite2 (fun c2=>?_) (fun c2=>?_)
    ·refine ⟨_,rfl,.inl ⟨rfl,_,SqL.of hp1⟩,_,rfl,_,_,rfl,rfl,⟨by decide,by decide,by decide⟩,_,_,rfl,rfl,(by show (0:Int)<10^4;decide),p,_,_,rfl,rfl,hp1,hlen,?_⟩
     refine ⟨_,rfl,_,_,rfl,rfl,⟨by decide,by decide,by decide⟩,_,_,rfl,rfl,(by show (0:Int)<10^4/\(10:Int)^4<bigB;exact ⟨by decide,by decide⟩),?_⟩
     exact big _ (Int.emod_nonneg _ (by decide)) (Int.lt_trans (Int.emod_lt_of_pos rest (show (0:Int)<10^(4:Int).toNat by decide)) (by decide)) _ _ _ (Int.ediv_nonneg hr0 (show (0:Int)<=10^(4:Int).toNat by decide))
    ·refine ⟨_,rfl,_,rfl,_,_,rfl,rfl,(by show (0:Int)<1000003;decide),_,rfl,_,_,rfl,rfl,.inl ⟨by decide,by decide⟩,_,rfl,_,_,rfl,rfl,.inr ⟨by lia,by lia⟩,_,_,rfl,rfl,_,rfl,_,_,rfl,rfl,.inl ⟨by decide,by decide⟩,_,_,rfl,rfl,_,rfl,_,_,rfl,rfl,.inl ⟨by decide,by decide⟩,_,_,rfl,rfl,_,_,rfl,rfl,?_⟩
     refine ⟨_,rfl,_,_,rfl,rfl,.inr ⟨by decide,by decide⟩,_,_,rfl,rfl,(by show (0:Int)<2147483647;decide),?_⟩
     refine ⟨_,rfl,.inl ⟨rfl,_,SqL.of hp1⟩,_,rfl,_,rfl,_,_,rfl,rfl,.inl ⟨by lia,by lia⟩,_,_,rfl,rfl,(by show (0:Int)<2147483629;decide),_,rfl,_,_,rfl,rfl,⟨by decide,by decide⟩,_,_,rfl,rfl,_,_,rfl,rfl,⟨by decide,by decide,by decide⟩,_,_,rfl,rfl,(by show (0:Int)<10^6;decide),p,_,_,rfl,rfl,hp1,hlen,?_⟩
     exact big _ (Int.emod_nonneg _ (by decide)) (Int.lt_of_lt_of_le (Int.emod_lt_of_pos _ (show (0:Int)<10^(6:Int).toNat by decide)) (by decide)) _ _ _ hr0
   ·refine iteF ?_
    refine ⟨_,rfl,_,rfl,_,_,rfl,rfl,(by show (0:Int)<1000003;decide),_,rfl,_,_,rfl,rfl,.inl ⟨by decide,by decide⟩,_,rfl,_,_,rfl,rfl,.inr ⟨by lia,by lia⟩,_,_,rfl,rfl,_,rfl,_,_,rfl,rfl,.inl ⟨by decide,by decide⟩,_,_,rfl,rfl,_,rfl,_,_,rfl,rfl,.inl ⟨by decide,by decide⟩,_,_,rfl,rfl,_,_,rfl,rfl,?_⟩
    refine ⟨_,rfl,_,_,rfl,rfl,.inr ⟨by decide,by decide⟩,_,_,rfl,rfl,(by show (0:Int)<2147483647;decide),?_⟩
    refine ⟨_,rfl,.inl ⟨rfl,_,SqL.of hp1⟩,_,rfl,_,rfl,_,_,rfl,rfl,.inl ⟨by lia,by lia⟩,_,_,rfl,rfl,(by show (0:Int)<2147483629;decide),_,rfl,_,_,rfl,rfl,⟨by decide,by decide⟩,_,_,rfl,rfl,_,_,rfl,rfl,⟨by decide,by decide,by decide⟩,_,_,rfl,rfl,(by show (0:Int)<10^6;decide),p,_,_,rfl,rfl,hp1,hlen,?_⟩
    exact big _ (Int.emod_nonneg _ (by decide)) (Int.lt_of_lt_of_le (Int.emod_lt_of_pos _ (show (0:Int)<10^(6:Int).toNat by decide)) (by decide)) _ _ _ hr0
  ·rintro σ H1 ⟨cell,great,rest,rs,x,y,rfl,hr0,hrs,hd,hs1,hp1⟩
   exact ⟨_,rfl,q p rs H1 hp hs1 hp1 (by rw [hrs];lia) hd⟩
 ·refine ⟨_,rfl,_,rfl,?_⟩
  refine ⟨_,rfl,_,_,rfl,rfl,⟨by decide,by decide,by decide⟩,_,_,rfl,rfl,?_⟩
  refine ⟨zl0,fun p hp=>?_⟩
  refine ⟨_,rfl,_,rfl,by lia,by lia,w_c (lo:=0) (RowInv a p i n H)
   ⟨_,_,_,[],none,none,rfl,by split<;>lia,rfl,(fun _ h=>nomatch h),z_f hp _,z_c⟩ ?_ ?_⟩
  ·rintro j σ H1 hj ⟨cell,great,rest,rs,x,y,rfl,hr0,hrs,hd,hs1,hp1⟩
   have hlen:(rs.map V.int).length<sizeLine:=by rw [List.length_map];exact y_l (by lia)
   have big:∀ v:Int,0<=v->v<1000000->∀ (rest':Int) (x' y':Option V),0<=rest'->RowInv a p i n H (j+1) [some (V.ref a),some (.int i),some (.int n),some (.int cell),some (.int rest'),some (.bl great),some (.ref p),x',y'] (upd H1 p (.lst (rs.map V.int++[.int v]))):=fun v h0 h1 rest' x' y' hr' =>
    ⟨cell,great,rest',rs++[v],_,_,rfl,hr',by rw [List.length_append,hrs];rfl,hd.snoc h0 h1,x_s hs1 hp _,by rw [z_c,List.map_append];rfl⟩
   refine ⟨_,rfl,_,rfl,?_⟩
   refine ite2 (fun c1=>?_) (fun c1=>?_)
   ·refine ⟨_,rfl,_,_,rfl,rfl,_,rfl,?_⟩
    refine ite2 (fun c2=>?_) (fun c2=>?_)
    ·refine ⟨_,rfl,.inl ⟨rfl,_,SqL.of hp1⟩,_,rfl,_,_,rfl,rfl,⟨by decide,by decide,by decide⟩,_,_,rfl,rfl,(by show (0:Int)<10^4;decide),p,_,_,rfl,rfl,hp1,hlen,?_⟩
     refine ⟨_,rfl,_,_,rfl,rfl,⟨by decide,by decide,by decide⟩,_,_,rfl,rfl,(by show (0:Int)<10^4/\(10:Int)^4<bigB;exact ⟨by decide,by decide⟩),?_⟩
     exact big _ (Int.emod_nonneg _ (by decide)) (Int.lt_trans (Int.emod_lt_of_pos rest (show (0:Int)<10^(4:Int).toNat by decide)) (by decide)) _ _ _ (Int.ediv_nonneg hr0 (show (0:Int)<=10^(4:Int).toNat by decide))
    ·refine ⟨_,rfl,_,rfl,_,_,rfl,rfl,(by show (0:Int)<1000003;decide),_,rfl,_,_,rfl,rfl,.inl ⟨by decide,by decide⟩,_,rfl,_,_,rfl,rfl,.inr ⟨by lia,by lia⟩,_,_,rfl,rfl,_,rfl,_,_,rfl,rfl,.inl ⟨by decide,by decide⟩,_,_,rfl,rfl,_,rfl,_,_,rfl,rfl,.inl ⟨by decide,by decide⟩,_,_,rfl,rfl,_,_,rfl,rfl,?_⟩
     refine ⟨_,rfl,_,_,rfl,rfl,.inr ⟨by decide,by decide⟩,_,_,rfl,rfl,(by show (0:Int)<2147483647;decide),?_⟩
     refine ⟨_,rfl,.inl ⟨rfl,_,SqL.of hp1⟩,_,rfl,_,rfl,_,_,rfl,rfl,.inl ⟨by lia,by lia⟩,_,_,rfl,rfl,(by show (0:Int)<2147483629;decide),_,rfl,_,_,rfl,rfl,⟨by decide,by decide⟩,_,_,rfl,rfl,_,_,rfl,rfl,⟨by decide,by decide,by decide⟩,_,_,rfl,rfl,(by show (0:Int)<10^6;decide),p,_,_,rfl,rfl,hp1,hlen,?_⟩
     exact big _ (Int.emod_nonneg _ (by decide)) (Int.lt_of_lt_of_le (Int.emod_lt_of_pos _ (show (0:Int)<10^(6:Int).toNat by decide)) (by decide)) _ _ _ hr0
   ·refine iteF ?_
    refine ⟨_,rfl,_,rfl,_,_,rfl,rfl,(by show (0:Int)<1000003;decide),_,rfl,_,_,rfl,rfl,.inl ⟨by decide,by decide⟩,_,rfl,_,_,rfl,rfl,.inr ⟨by lia,by lia⟩,_,_,rfl,rfl,_,rfl,_,_,rfl,rfl,.inl ⟨by decide,by decide⟩,_,_,rfl,rfl,_,rfl,_,_,rfl,rfl,.inl ⟨by decide,by decide⟩,_,_,rfl,rfl,_,_,rfl,rfl,?_⟩
    refine ⟨_,rfl,_,_,rfl,rfl,.inr ⟨by decide,by decide⟩,_,_,rfl,rfl,(by show (0:Int)<2147483647;decide),?_⟩
    refine ⟨_,rfl,.inl ⟨rfl,_,SqL.of hp1⟩,_,rfl,_,rfl,_,_,rfl,rfl,.inl ⟨by lia,by lia⟩,_,_,rfl,rfl,(by show (0:Int)<2147483629;decide),_,rfl,_,_,rfl,rfl,⟨by decide,by decide⟩,_,_,rfl,rfl,_,_,rfl,rfl,⟨by decide,by decide,by decide⟩,_,_,rfl,rfl,(by show (0:Int)<10^6;decide),p,_,_,rfl,rfl,hp1,hlen,?_⟩
    exact big _ (Int.emod_nonneg _ (by decide)) (Int.lt_of_lt_of_le (Int.emod_lt_of_pos _ (show (0:Int)<10^(6:Int).toNat by decide)) (by decide)) _ _ _ hr0
  ·rintro σ H1 ⟨cell,great,rest,rs,x,y,rfl,hr0,hrs,hd,hs1,hp1⟩
   exact ⟨_,rfl,q p rs H1 hp hs1 hp1 (by rw [hrs];lia) hd⟩
theorem ok_L_net(T:Tx w K mg A):FnOk P w K mg base CX0 1 A.a_L_net A.d_L_net ["_law_row_here", "_law_sizes"] q_q:=by
 refine T.F_L_net.ok sc_L_net (fun vs H Q E h=>?_) (fun cdv A' outer s H vs Q E hr h=>?_)
 ·obtain ⟨r,z,rw,zs,rfl,hr0,hrl,hrd,hz,hzl,hzd,q⟩:=h
  rfl
 obtain ⟨r,z,rw,zs,rfl,hr0,hrl,hrd,hz,hzl,hzd,q⟩:=h
 refine ⟨_,(z_d (z_t (i:=2) sc_L_net.nd rfl (Or.inl rfl) (z_k z_z (z_o z_m (pv 1) z_b (fun _ _=>rfl)) z_b))
  (z_d (z_t (i:=3) sc_L_net.nd rfl (Or.inl rfl) (x_l z_e))
  (z_d (w_s PassesOwn.never rfl (y_w rfl T.range (z_a (z_k z_z (z_o z_m (pv 1) z_b (fun _ _=>rfl)) z_b) z_e)) (y_i (i:=4) sc_L_net.nd rfl (Or.inl rfl))
    (z_j (w_a (t_a PySem.F.plainAttrs_list PySem.F.slot_list_append PySem.F.type_list_append x_g (pv 3) (z_a (w_g (z_a (z_k z_z (z_o z_m (pv 0) (z_k y_p z_b (pv 4)) (fun _ _=>rfl)) (z_k y_p z_b (z_k y_g (z_k y_g z_b (pv 2)) (pv 4)))) (z_a (z_k z_z (z_o z_m (pv 0) (z_k y_g (z_k y_p z_b (pv 4)) z_b) (fun _ _=>rfl)) (z_k y_p z_b (z_k y_g (z_k y_g z_b (pv 2)) (pv 4)))) z_e))) z_e)))))
  (z_j (z_w (w_g (z_a (pv 2) (z_a (pv 3) z_e)))))))),?_⟩
 obtain ⟨z0,hz0,z00,_⟩:=hzd.at (show (0:Int)<=0 by decide) (by lia)
 obtain ⟨z1,hz1,z10,_⟩:=hzd.at (show (0:Int)<=1 by decide) (by lia)
 refine ⟨_,rfl,z,_,_,_,rfl,rfl,SqL.of hz,hz0,_,_,rfl,rfl,(by show (0:Int)<5;decide),?_⟩
 obtain ⟨L,hL,hL4⟩:∃ L:Nat,z0%5=(L:Int)/\L<=4:=⟨(z0%5).toNat,by lia,by lia⟩
 dsimp only [gName]
 rw [hL]
 refine ⟨zl0,fun pg hpg=>?_⟩
 have s1:=z_f hpg (.lst [])
 refine ⟨_,rfl,z,_,_,_,rfl,rfl,SqL.of (s1 _ _ hz),hz1,_,_,rfl,rfl,(by show (0:Int)<11;decide),_,rfl,by lia,by lia,w_c (lo:=0) (fun i σ J=>∃ (x4:Option V) (rs:List Addr) (gs:List (Nat×Nat)),σ=[some (.ref r),some (.ref z),some (.int (L:Int)),some (.ref pg),x4]/\Same H J/\PrsR J pg rs (gI gs)/\gs.length=i/\GtO L gs) ⟨_,[],[],rfl,s1,⟨z_c,.nil⟩,rfl,fun k p hp=>by simp at hp⟩ ?_ ?_⟩
 ·rintro i σ J hi ⟨x4,rs,gs,rfl,sJ,hg,hgl,hG⟩
  have hi11:i<11:=by lia
  obtain ⟨r0,hr00,r00,_⟩:=hrd.at (i:=2*(0+(i:Int))) (by lia) (by lia)
  obtain ⟨r1,hr11,r10,_⟩:=hrd.at (i:=2*(0+(i:Int))+1) (by lia) (by lia)
  have hrJ:=sJ _ _ hr0
  obtain ⟨a0,e0,l0⟩:∃ a:Nat,r0%(2*(1+(L:Int)+(0+(i:Int))))=(a:Int)/\a<2*(1+L+gs.length):=⟨(r0%(2*(1+(L:Int)+(0+(i:Int))))).toNat,by have:=Int.emod_nonneg r0 (show (2*(1+(L:Int)+(0+(i:Int))))≠0 by lia);lia,by have:=Int.emod_lt_of_pos r0 (show 0<2*(1+(L:Int)+(0+(i:Int))) by lia);lia⟩
  obtain ⟨a1,e1,l1⟩:∃ a:Nat,r1%(2*(1+(L:Int)+(0+(i:Int))))=(a:Int)/\a<2*(1+L+gs.length):=⟨(r1%(2*(1+(L:Int)+(0+(i:Int))))).toNat,by have:=Int.emod_nonneg r1 (show (2*(1+(L:Int)+(0+(i:Int))))≠0 by lia);lia,by have:=Int.emod_lt_of_pos r1 (show 0<2*(1+(L:Int)+(0+(i:Int))) by lia);lia⟩
  refine ⟨_,rfl,.inl ⟨rfl,_,SqL.of hg.1⟩,_,rfl,_,rfl,_,_,rfl,rfl,.inl ⟨by decide,by decide⟩,r,_,_,_,rfl,rfl,SqL.of hrJ,hr00,_,rfl,_,_,rfl,rfl,_,rfl,_,_,rfl,rfl,_,_,rfl,rfl,.inl ⟨by decide,by decide⟩,_,_,rfl,rfl,(by show (0:Int)<2*(1+(L:Int)+(0+(i:Int)));lia),_,rfl,_,rfl,_,_,rfl,rfl,.inl ⟨by decide,by decide⟩,_,_,rfl,rfl,r,_,_,_,rfl,rfl,SqL.of hrJ,hr11,_,rfl,_,_,rfl,rfl,_,rfl,_,_,rfl,rfl,_,_,rfl,rfl,.inl ⟨by decide,by decide⟩,_,_,rfl,rfl,(by show (0:Int)<2*(1+(L:Int)+(0+(i:Int)));lia),zl2,fun t ht=>?_⟩
  dsimp only
  rw [e0,e1]
  have t1:=z_f ht (.tup [.int (a0:Int),.int (a1:Int)])
  have hl:=hg.lenS
  refine ⟨pg,_,_,rfl,rfl,t1 _ _ hg.1,y_l (by rw [List.length_map];lia),?_⟩
  exact ⟨_,rs++[t],gs++[(a0,a1)],rfl,x_s (sJ.trans t1) hpg _,hg.pushS t1 z_c,by rw [List.length_append,hgl];rfl,hG.snoc l0 l1⟩
 ·rintro σ J ⟨x4,rs,gs,rfl,sJ,hg,hgl,hG⟩
  refine ⟨_,rfl,_,rfl,zl2,fun p hp=>?_⟩
  have t1:=z_f hp (.tup [.int (L:Int),.ref pg])
  exact q p pg rs L gs _ (sJ.trans t1) ⟨z_c,hg.same t1⟩ hL4 (by lia) hG
theorem p_j(T:Tx w K mg A):FnOk P w K mg base CX0 1 A.a_L_joined A.d_L_joined ["_law_labels", "_law_one", "_law_other"] t_i:=by
 refine T.F_L_joined.ok sc_L_joined (fun vs H Q E h=>?_) (fun cdv A' outer s H vs Q E hr h=>?_)
 ·obtain ⟨p,Ls,one,other,rfl,hp,hl,h1,h2,h3,h4,qn,qs⟩:=h
  rfl
 obtain ⟨p,Ls,one,other,rfl,hp,hl,h1,h2,h3,h4,qn,qs⟩:=h
 have hu:=hu_of hr
 refine ⟨_,(z_d (y_x (z_r w_e (z_o z_m (pv 0) (pv 1) (fun _ _=>rfl)) (z_o z_m (pv 0) (z_k w_o (pv 2) z_b) (fun _ _=>rfl)) (nomark _)) (z_j (z_w w_f)) z_y)
  (z_d (z_t (i:=3) sc_L_joined.nd rfl (Or.inr rfl) (k_l (u_g (z_o z_m (pv 0) (pv 2) (fun _ _=>rfl)) (z_o z_m (pv 0) (pv 1) (fun _ _=>rfl)) (u_g (z_o z_m (pv 0) (z_k w_o (pv 2) z_b) (fun _ _=>rfl)) (z_o z_m (pv 0) (z_k w_o (pv 1) z_b) (fun _ _=>rfl)) k_s)) rfl rfl (by simp) (by decide)))
  (z_j (z_w (v_b [3] (fun _ _ h=>h) rfl (v_d (pv 0)) (fun _ _ _ _=>x_j) (fun _ _ _ _=>(pe_dget2 hu (pv 1) (pv 0) (pv 0) ⟨rfl,rfl,rfl,rfl⟩)) rfl (show ∀ j∈([3]:List Nat),j<4 by decide) (show (["_law_label", "_law_pairs"]:List Str).Nodup by decide +kernel)))))),?_⟩
 have x1:Builtin.bitXor (one:Int) 1=((one^^^1:Nat):Int):=w_b one 1
 have x2:Builtin.bitXor (other:Int) 1=((other^^^1:Nat):Int):=w_b other 1
 refine ⟨_,rfl,_,rfl,p,_,_,_,rfl,rfl,SqL.of hp,y_n h1,_,rfl,_,rfl,_,_,rfl,rfl,p,_,_,_,rfl,rfl,SqL.of hp,(by rw [x2];exact y_n h4),rfl,_,rfl,?_⟩
 by_cases c:Ls.getD one 0=Ls.getD (other^^^1) 0
 ·refine y_s (decide_eq_true (congrArg V.int (by rw [c]))) ?_
  exact qn c
 ·refine y_h (decide_eq_false (by intro e;injection e with e;lia)) ?_
  refine fun pd hpd=>?_
  have t1:=z_f hpd (.dK [])
  have hp1:=t1 _ _ hp
  refine ⟨_,rfl,_,rfl,p,_,_,_,rfl,rfl,SqL.of hp1,y_n h2,_,rfl,_,rfl,p,_,_,_,rfl,rfl,SqL.of hp1,y_n h1,_,rfl,_,rfl,_,_,rfl,rfl,p,_,_,_,rfl,rfl,SqL.of hp1,(by rw [x2];exact y_n h4),_,rfl,_,rfl,_,_,rfl,rfl,p,_,_,_,rfl,rfl,SqL.of hp1,(by rw [x1];exact y_n h3),z_c,[(.inl ((Ls.getD other 0:Nat):Int),.int (Ls.getD one 0:Nat)),(.inl ((Ls.getD (other^^^1) 0:Nat):Int),.int (Ls.getD (one^^^1) 0:Nat))],rfl,(by show 2<=15;decide),?_⟩
  have hget:=two_get (a:=Ls.getD other 0) (b:=Ls.getD (other^^^1) 0) (va:=.int (Ls.getD one 0:Nat)) (vb:=.int (Ls.getD (one^^^1) 0:Nat))
  generalize mergeK [] [((.inl ((Ls.getD other 0:Nat):Int):Key),V.int (Ls.getD one 0:Nat)),(.inl ((Ls.getD (other^^^1) 0:Nat):Int),.int (Ls.getD (one^^^1) 0:Nat))]=kvs at hget ⊢
  have u2:Same H (upd (upd H pd (.dK [])) pd (.dK kvs)):=x_s t1 hpd _
  have fd:=z_c (H:=upd H pd (.dK [])) (a:=pd) (o:=.dK kvs)
  generalize upd (upd H pd (.dK [])) pd (.dK kvs)=H2 at u2 fd ⊢
  have hp2:=u2 _ _ hp
  refine ⟨_,rfl,p,rfl,⟨_,SqL.of hp2⟩,u_k (xs:=z_h Ls) (fun i ys H'=>H2=H'/\ys=z_h ((Ls.take i).map fun x=>if x=Ls.getD (other^^^1) 0 then Ls.getD (one^^^1) 0 else if x=Ls.getD other 0 then Ls.getD one 0 else x)) ⟨rfl,rfl⟩ ?_ ?_ ?_ ?_⟩
  ·rintro i ys H' _ ⟨rfl,_⟩
   exact SqL.of hp2
  ·rintro i ys H' hi ⟨rfl,rfl⟩
   rw [z_i,List.length_map,List.length_take]
   exact y_l (by lia)
  ·rintro i v ys H' hv ⟨rfl,rfl⟩
   obtain ⟨hi,rfl⟩:=x_b hv
   unfold tYes
   refine iteT ⟨_,rfl,pd,rfl,.inl ⟨kvs,.inl fd⟩,_,rfl,_,rfl,_,DGet.k (k:=.inl ((Ls.getD i 0:Nat):Int)) fd,?_⟩
   refine ⟨rfl,?_⟩
   rw [j_k hi,List.map_append,List.map_cons,List.map_nil,y_t,hget]
   congr 2
   by_cases q1:Ls.getD i 0=Ls.getD (other^^^1) 0
   ·rw [if_pos q1,if_pos q1];rfl
   ·rw [if_neg q1,if_neg q1]
    by_cases q2:Ls.getD i 0=Ls.getD other 0
    ·rw [if_pos q2,if_pos q2];rfl
    ·rw [if_neg q2,if_neg q2];rfl
  ·rintro ys H' ⟨rfl,rfl⟩ q hq
   refine qs c q _ (u2.free hq) (u2.trans (z_f hq _)) ?_
   rw [z_c,z_i,List.take_length]
   rfl
theorem k_g(T:Tx w K mg A):FnOk P w K mg base CX0 1 A.a_L_tree A.d_L_tree ["_law_net_here", "_law_ends", "_law_left"] s_e:=by
 refine T.F_L_tree.ok sc_L_tree (fun vs H Q E h=>?_) (fun cdv A' outer s H vs Q E hr h=>?_)
 ·obtain ⟨net,g,pe,rs,L,gs,es,lf,rfl,hN,hG,hpe,h1,h32,hes,h100,q⟩:=h
  rfl
 obtain ⟨net,g,pe,rs,L,gs,es,lf,rfl,hN,hG,hpe,h1,h32,hes,h100,q⟩:=h
 refine ⟨_,(z_d (z_t (i:=3) sc_L_tree.nd rfl (Or.inl rfl) (y_q x_t rfl T.list PyProof.Rows.boot_list (z_a (z_o y_a (pv 0) z_b (fun _ _=>rfl)) z_e)))
  (z_d (z_t (i:=4) sc_L_tree.nd rfl (Or.inl rfl) (y_q x_t rfl T.list PyProof.Rows.boot_list (z_a (pv 1) z_e)))
  (z_d (s_y PassesOwn.never (z_r q_e (z_q y_d rfl T.len PySem.boot_len (z_a (pv 4) z_e)) z_b (nomark _))
    (z_j (y_x (x_m (pv 2) (fun _=>rfl)) (z_d (w_a (t_a PySem.F.plainAttrs_list PySem.F.slot_list_append PySem.F.type_list_append x_g (pv 3) (z_a (w_g (z_a (z_o z_m (pv 4) z_b (fun _ _=>rfl)) (z_a (z_o z_m (pv 4) z_b (fun _ _=>rfl)) z_e))) z_e)))
  (z_j (z_t (i:=4) sc_L_tree.nd rfl (Or.inl rfl) (z_k o_o (x_l (z_a (z_k y_p z_b (z_k y_g (z_o y_a (pv 0) z_b (fun _ _=>rfl)) (z_q y_d rfl T.len PySem.boot_len (z_a (pv 3) z_e)))) z_e)) (u_f j_a (pv 4) (v_q z_b) k_q))))) (z_d (w_a (t_a PySem.F.plainAttrs_list PySem.F.slot_list_append PySem.F.type_list_append x_g (pv 3) (z_a (w_g (z_a (z_o z_m (pv 4) (k_m q_w z_b) (fun _ _=>rfl)) (z_a (z_o z_m (pv 4) (k_m q_w z_b) (fun _ _=>rfl)) z_e))) z_e)))
  (z_j (z_t (i:=4) sc_L_tree.nd rfl (Or.inl rfl) (z_k o_o (u_f j_a (pv 4) k_q (v_q (k_m q_w z_b))) (x_l (z_a (z_k y_p z_b (z_k y_g (z_o y_a (pv 0) z_b (fun _ _=>rfl)) (z_q y_d rfl T.len PySem.boot_len (z_a (pv 3) z_e)))) z_e)))))))))
  (z_j (z_w (w_g (z_a (w_g (z_a (z_o y_a (pv 0) z_b (fun _ _=>rfl)) (z_a (pv 3) z_e))) (z_a (z_o z_m (pv 4) z_b (fun _ _=>rfl)) z_e)))))))),?_⟩
 have hlg:=hN.g.lenS
 refine ⟨_,rfl,net,_,_,_,rfl,rfl,SqT.of hN.p,rfl,g,_,rfl,.inl (SqL.of hN.g.1),fun pg hpg=>?_⟩
 have t1:=z_f hpg (.lst (rs.map V.ref))
 have g1:PrsR (upd H pg (.lst (rs.map V.ref))) pg rs (gI gs):=⟨z_c,(hN.g.same t1).2⟩
 dsimp only [gName]
 generalize upd H pg (.lst (rs.map V.ref))=H1 at t1 g1 ⊢
 refine ⟨_,rfl,pe,_,rfl,.inl (SqL.of (t1 _ _ hpe)),fun p0 hp0=>?_⟩
 have t2:=z_f hp0 (.lst (z_h es))
 have f0:=z_c (H:=H1) (a:=p0) (o:=.lst (z_h es))
 have n0:p0≠pg:=(z_g g1.1 hp0).symm
 dsimp only [gName]
 generalize upd H1 p0 (.lst (z_h es))=H2 at t2 f0 ⊢
 let WI:Nat->St->Hp->Prop:=fun m σ J=>∃ (pr:Addr) (row:List Nat) (rs1:List Addr) (gs1:List (Nat×Nat)),σ=[some (.ref net),some (.ref pe),some (.bl lf),some (.ref pg),some (.ref pr)]/\m=row.length/\Same H J/\PrsR J pg rs1 (gI gs1)/\J pr=some (.lst (z_h row))/\pr≠pg/\1<=row.length/\row.length<=32/\(∀ e∈row,e<2*(1+L+gs1.length))/\GtO L gs1/\gs1.length+row.length=gs.length+es.length
 refine ⟨WI,⟨_,p0,es,rs,gs,rfl,rfl,t1.trans t2,g1.same t2,f0,n0,h1,h32,hes,hG,rfl⟩,?_⟩
 clear t1 t2 g1 f0 n0 hp0
 rintro m σ J ⟨pr,row,rs1,gs1,rfl,rfl,sJ,hg,fr,npr,r1,r32,hrow,hG1,hsum⟩
 have hl1:=hg.lenS
 refine ⟨_,rfl,_,_,rfl,.inl ⟨_,SqL.of fr,rfl⟩,_,_,rfl,rfl,_,rfl,?_⟩
 rw [z_i]
 by_cases c:2<=row.length
 case neg =>
  refine y_h (decide_eq_false (by lia)) ?_
  have e1:row.length=1:=by lia
  refine ⟨_,rfl,net,_,_,_,rfl,rfl,SqT.of (sJ _ _ hN.p),rfl,_,rfl,zl2,fun p hp=>?_⟩
  have u1:=z_f hp (.tup [.int (L:Int),.ref pg])
  refine ⟨_,rfl,pr,_,_,_,rfl,rfl,SqL.of (u1 _ _ fr),y_n (k:=0) (by lia),zl2,fun t ht=>?_⟩
  have u2:=z_f ht (.tup [.ref p,.int ((row.getD 0 0:Nat):Int)])
  have h0:row[0]? = some (row.getD 0 0):=by rw [List.getD_eq_getElem?_getD,List.getElem?_eq_getElem (by lia)];rfl
  exact q t p pg rs1 gs1 _ _ (sJ.trans (u1.trans u2)) z_c ⟨u2 _ _ z_c,(hg.same u1).same u2⟩ hG1 (by lia) (hrow _ (List.mem_of_getElem? h0))
 refine y_s (decide_eq_true (by lia)) ⟨fun σ' J'=>∃ m',m'<row.length/\WI m' σ' J',fun _ _ h=>h,?_⟩
 have hmem:∀ k,k<row.length->row.getD k 0<2*(1+L+gs1.length):=fun k hk=>hrow _ (List.mem_of_getElem? (i:=k) (by rw [List.getD_eq_getElem?_getD,List.getElem?_eq_getElem hk];rfl))
 refine ⟨_,rfl,lf,rfl,?_⟩
 cases lf with
 | true =>
  refine y_s rfl ?_
  refine ⟨_,rfl,.inl ⟨rfl,_,SqL.of hg.1⟩,_,rfl,pr,_,_,_,rfl,rfl,SqL.of fr,y_n (k:=0) (by lia),_,rfl,pr,_,_,_,rfl,rfl,SqL.of fr,y_n (k:=1) (by lia),zl2,fun t ht=>?_⟩
  have v1:=z_f ht (.tup [.int ((row.getD 0 0:Nat):Int),.int ((row.getD 1 0:Nat):Int)])
  have hg2:=hg.pushS (p:=(row.getD 0 0,row.getD 1 0)) v1 z_c
  have hG2:=hG1.snoc (hmem 0 (by lia)) (hmem 1 (by lia))
  refine ⟨pg,_,_,rfl,rfl,v1 _ _ hg.1,y_l (by rw [List.length_map];lia),?_⟩
  have fr2:(upd (upd J t _) pg (.lst (rs1.map V.ref++[.ref t]))) pr=_:=(z_n npr).trans (v1 _ _ fr)
  have s2:=x_s (sJ.trans v1) hpg (.lst (rs1.map V.ref++[.ref t]))
  have N2:=hN.same s2
  have eT:2*((L:Int)+((((rs1.map V.ref)++[V.ref t]).length:Nat):Int))=((2*(1+L+gs1.length):Nat):Int):=by rw [List.length_append,List.length_map];show 2*((L:Int)+((rs1.length+1:Nat):Int))=_;lia
  rw [<-List.map_singleton (f:=V.ref),<-List.map_append] at eT
  generalize upd (upd J t _) pg (.lst (rs1.map V.ref++[.ref t]))=J2 at hg2 fr2 s2 N2 ⊢
  refine ⟨_,rfl,net,_,_,_,rfl,rfl,SqT.of N2.p,rfl,_,rfl,_,_,rfl,.inl ⟨_,SqL.of hg2.1,rfl⟩,_,_,rfl,rfl,_,_,rfl,rfl,.inl ⟨by decide,by decide⟩,zl1,fun p1 hp1=>?_⟩
  dsimp only
  rw [eT]
  have w1:=z_f hp1 (.lst [.int ((2*(1+L+gs1.length):Nat):Int)])
  have f1:=z_c (H:=J2) (a:=p1) (o:=.lst [.int ((2*(1+L+gs1.length):Nat):Int)])
  generalize upd J2 p1 (.lst [.int ((2*(1+L+gs1.length):Nat):Int)])=J3 at w1 f1 ⊢
  refine ⟨_,rfl,_,rfl,pr,_,rfl,SqL.of (w1 _ _ fr2),fun p2 hp2=>?_⟩
  rw [cut_two c]
  have w2:=w1.trans (z_f hp2 (.lst (z_h (row.drop 2))))
  refine ⟨p1,p2,_,_,rfl,rfl,(z_f hp2 _) _ _ f1,z_c,small (by rw [z_i,List.length_drop];show 1+(row.length-2)<=_;lia),fun p3 hp3=>?_⟩
  have w3:=w2.trans (z_f hp3 (.lst (z_h ((2*(1+L+gs1.length))::row.drop 2))))
  have f3:=z_c (H:=upd J3 p2 (.lst (z_h (row.drop 2)))) (a:=p3) (o:=.lst (z_h ((2*(1+L+gs1.length))::row.drop 2)))
  have n3:p3≠pg:=(z_g (w2 _ _ hg2.1) hp3).symm
  refine ⟨row.length-1,by lia,p3,(2*(1+L+gs1.length))::row.drop 2,_,_,rfl,by rw [List.length_cons,List.length_drop];lia,s2.trans w3,hg2.same w3,f3,n3,by rw [List.length_cons];lia,by rw [List.length_cons,List.length_drop];lia,fun e he=>?_,hG2,by rw [List.length_cons,List.length_drop,List.length_append];show gs1.length+1+_=_;lia⟩
  rw [List.length_append]
  show e<2*(1+L+(gs1.length+1))
  rcases List.mem_cons.mp he with rfl | he
  ·lia
  ·have:=hrow e (List.mem_of_mem_drop he)
   lia
 | false =>
  refine y_h rfl ?_
  refine ⟨_,rfl,.inl ⟨rfl,_,SqL.of hg.1⟩,_,rfl,_,rfl,pr,_,_,_,rfl,rfl,SqL.of fr,o_l (k:=1) (by decide) (by lia),_,rfl,_,rfl,pr,_,_,_,rfl,rfl,SqL.of fr,o_l (k:=2) (by decide) (by lia),zl2,fun t ht=>?_⟩
  have v1:=z_f ht (.tup [.int ((row.getD (row.length-1) 0:Nat):Int),.int ((row.getD (row.length-2) 0:Nat):Int)])
  have hg2:=hg.pushS (p:=(row.getD (row.length-1) 0,row.getD (row.length-2) 0)) v1 z_c
  have hG2:=hG1.snoc (hmem (row.length-1) (by lia)) (hmem (row.length-2) (by lia))
  refine ⟨pg,_,_,rfl,rfl,v1 _ _ hg.1,y_l (by rw [List.length_map];lia),?_⟩
  have fr2:(upd (upd J t _) pg (.lst (rs1.map V.ref++[.ref t]))) pr=_:=(z_n npr).trans (v1 _ _ fr)
  have s2:=x_s (sJ.trans v1) hpg (.lst (rs1.map V.ref++[.ref t]))
  have N2:=hN.same s2
  have eT:2*((L:Int)+((((rs1.map V.ref)++[V.ref t]).length:Nat):Int))=((2*(1+L+gs1.length):Nat):Int):=by rw [List.length_append,List.length_map];show 2*((L:Int)+((rs1.length+1:Nat):Int))=_;lia
  rw [<-List.map_singleton (f:=V.ref),<-List.map_append] at eT
  generalize upd (upd J t _) pg (.lst (rs1.map V.ref++[.ref t]))=J2 at hg2 fr2 s2 N2 ⊢
  refine ⟨_,rfl,_,rfl,_,rfl,pr,_,rfl,SqL.of fr2,fun p2 hp2=>?_⟩
  rw [show (-(2:Int)) = -2 from rfl,cut_lst2 c]
  have w0:=z_f hp2 (.lst (z_h (row.take (row.length-2))))
  have f2:=z_c (H:=J2) (a:=p2) (o:=.lst (z_h (row.take (row.length-2))))
  generalize upd J2 p2 (.lst (z_h (row.take (row.length-2))))=J2' at w0 f2 ⊢
  have N2':=N2.same w0
  refine ⟨_,rfl,net,_,_,_,rfl,rfl,SqT.of N2'.p,rfl,_,rfl,_,_,rfl,.inl ⟨_,SqL.of (w0 _ _ hg2.1),rfl⟩,_,_,rfl,rfl,_,_,rfl,rfl,.inl ⟨by decide,by decide⟩,zl1,fun p1 hp1=>?_⟩
  dsimp only
  rw [eT]
  have w2:=w0.trans (z_f hp1 (.lst [.int ((2*(1+L+gs1.length):Nat):Int)]))
  refine ⟨p2,p1,_,_,rfl,rfl,(z_f hp1 _) _ _ f2,z_c,small (by rw [z_i,List.length_take];show _+1<=_;lia),fun p3 hp3=>?_⟩
  have e3:z_h (row.take (row.length-2))++[V.int ((2*(1+L+gs1.length):Nat):Int)]=z_h (row.take (row.length-2)++[2*(1+L+gs1.length)]):=(y_t _ _).symm
  rw [e3]
  have w3:=w2.trans (z_f hp3 (.lst (z_h (row.take (row.length-2)++[2*(1+L+gs1.length)]))))
  have n3:p3≠pg:=(z_g (w2 _ _ hg2.1) hp3).symm
  refine ⟨row.length-1,by lia,p3,row.take (row.length-2)++[2*(1+L+gs1.length)],_,_,rfl,by rw [List.length_append,List.length_take];show _=_+1;lia,s2.trans w3,hg2.same w3,z_c,n3,by rw [List.length_append];show 1<=_+1;lia,by rw [List.length_append,List.length_take];show _+1<=_;lia,fun e he=>?_,hG2,by rw [List.length_append,List.length_append,List.length_take];show gs1.length+1+(_+1)=_;lia⟩
  rw [List.length_append]
  show e<2*(1+L+(gs1.length+1))
  rcases List.mem_append.mp he with he | he
  ·have:=hrow e (List.mem_of_mem_take he)
   lia
  ·rw [List.mem_singleton.mp he]
   lia
theorem k_e(T:Tx w K mg A):FnOk P w K mg base CX0 1 A.a_L_come A.d_L_come ["_law_labels", "_law_leaves", "_law_sets", "_law_end"] s_c:=by
 refine T.F_L_come.ok sc_L_come (fun vs H Q E h=>?_) (fun cdv A' outer s H vs Q E hr h=>?_)
 ·obtain ⟨pl,pt,ps,Ls,ls,L0,us,e,n,R,F,rfl,hpl,u,hLb,h0,hpt,h64,hls,he,hps,hus,heu,q⟩:=h
  rfl
 obtain ⟨pl,pt,ps,Ls,ls,L0,us,e,n,R,F,rfl,hpl,u,hLb,h0,hpt,h64,hls,he,hps,hus,heu,q⟩:=h
 refine ⟨_,(z_d (y_x (z_r w_e (z_o z_m (pv 0) (pv 3) (fun _ _=>rfl)) (z_o z_m (pv 0) z_b (fun _ _=>rfl)) (nomark _)) (z_j (z_w (x_l (z_a z_b z_e)))) z_y)
  (z_d (y_x (z_r w_e (z_o z_m (pv 0) (pv 3) (fun _ _=>rfl)) (z_o z_m (pv 0) z_b (fun _ _=>rfl)) (nomark _)) (z_j (z_w (x_l z_e))) z_y)
  (z_d (w_s PassesOwn.never rfl (y_w rfl T.range (z_a (z_q y_d rfl T.len PySem.boot_len (z_a (pv 1) z_e)) z_e)) (y_i (i:=4) sc_L_come.nd rfl (Or.inl rfl))
    (z_d (y_x (z_r w_e (z_o z_m (pv 0) (pv 3) (fun _ _=>rfl)) (z_o z_m (pv 0) (z_o y_a (pv 1) (pv 4) (fun _ _=>rfl)) (fun _ _=>rfl)) (nomark _)) (z_j (z_w (x_l (z_a (z_k y_g (pv 4) z_b) z_e)))) z_y)
  (z_j (y_x (z_r w_e (z_o z_m (pv 0) (pv 3) (fun _ _=>rfl)) (z_o z_m (pv 0) (z_k w_o (z_o y_a (pv 1) (pv 4) (fun _ _=>rfl)) z_b) (fun _ _=>rfl)) (nomark _)) (z_j (z_w (x_l (z_a (z_k t_t (k_m q_w z_b) (pv 4)) z_e)))) z_y))))
  (z_d (y_x (z_r w_e (z_k z_z (pv 3) z_b) z_b (nomark _)) (z_j (z_w w_f)) z_y)
  (z_j (z_w (z_o z_m (pv 2) (z_k y_o (pv 3) z_b) (fun _ _=>rfl)))))))),?_⟩
 have hLl:=hLb.1
 have z0:=u.z0 h0
 have z1:R 1=1:=by have:=u.cx (e:=0) h0;rw [z0] at this;exact this
 have gv:=givR_eq R ls e
 refine ⟨_,rfl,_,rfl,pl,_,_,_,rfl,rfl,SqL.of hpl,y_n (by lia),_,rfl,pl,_,_,_,rfl,rfl,SqL.of hpl,y_n (k:=0) (by lia),rfl,_,rfl,?_⟩
 by_cases c0:R e=0
 ·refine y_s (decide_eq_true (congrArg V.int (by rw [(hLb.2 e 0 he (by lia)).mpr (by rw [z0];exact c0)]))) ⟨zl1,fun a ha=>q _ _ (z_f ha _) ?_⟩
  unfold comS
  rw [gv,if_pos c0.symm]
  exact ⟨a,rfl,z_c⟩
 refine y_h (decide_eq_false (fun h=>c0 (by rw [<-z0];exact (hLb.2 e 0 he (by lia)).mp (by injection h with h;lia)))) ?_
 refine ⟨_,rfl,_,rfl,pl,_,_,_,rfl,rfl,SqL.of hpl,y_n (by lia),_,rfl,pl,_,_,_,rfl,rfl,SqL.of hpl,y_n (k:=1) (by lia),rfl,_,rfl,?_⟩
 by_cases c1:R e=1
 ·refine y_s (decide_eq_true (congrArg V.int (by rw [(hLb.2 e 1 he (by lia)).mpr (by rw [z1];exact c1)]))) ⟨zl0,fun a ha=>q _ _ (z_f ha _) ?_⟩
  unfold comS
  rw [gv,if_neg (fun h=>c0 h.symm),if_pos c1.symm]
  exact ⟨a,[],rfl,z_c,SgL.nil⟩
 refine y_h (decide_eq_false (fun h=>c1 (by rw [<-z1];exact (hLb.2 e 1 he (by lia)).mp (by injection h with h;lia)))) ?_
 rw [if_neg (fun h=>c0 h.symm),if_neg (fun h=>c1 h.symm)] at gv
 refine ⟨_,rfl,_,_,rfl,.inr ⟨_,SqT.of hpt,rfl⟩,_,rfl,by rw [z_i];lia,by rw [z_i];lia,w_c (lo:=0) (fun i σ J=>∃ x4:Option V,σ=[some (.ref pl),some (.ref pt),some (.ref ps),some (.int (e:Int)),x4]/\H=J/\givR R ls e=lkG (gkr R (ls.zipIdx.drop i)) (R e)) ⟨_,rfl,rfl,by rw [List.drop_zero];exact gv⟩ ?_ ?_⟩
 ·rintro i σ J hi ⟨x4,rfl,rfl,gi⟩
  rw [z_i] at hi
  have hi':i<ls.length:=by lia
  have hsi:ls[i]? = some (ls.getD i 0):=by rw [List.getD_eq_getElem?_getD,List.getElem?_eq_getElem hi'];rfl
  have hat:atI (z_h ls) ((0:Int)+(i:Int))=some (.int (ls.getD i 0:Nat)):=by rw [Int.zero_add];exact y_n hi'
  have hx:=hls _ (List.mem_of_getElem? hsi)
  rw [gkr_at hsi] at gi
  generalize ls.getD i 0=x at hsi hat hx gi
  have hxc:=y_u x
  have x1:Builtin.bitXor (x:Int) 1=((x^^^1:Nat):Int):=w_b x 1
  have cx:=u.cx (e:=x) (by lia)
  refine ⟨_,rfl,_,rfl,pl,_,_,_,rfl,rfl,SqL.of hpl,y_n (by lia),_,rfl,_,rfl,_,rfl,pt,_,_,_,rfl,rfl,SqT.of hpt,hat,pl,_,_,_,rfl,rfl,SqL.of hpl,y_n (by lia),rfl,_,rfl,?_⟩
  by_cases d1:R x=R e
  ·refine y_s (decide_eq_true (congrArg V.int (by rw [(hLb.2 e x he hx).mpr d1.symm]))) ⟨_,rfl,_,_,rfl,rfl,zl1,fun a ha=>q _ _ (z_f ha _) ?_⟩
   unfold comS
   rw [gi,if_pos d1]
   refine ⟨a,[(i:Int)+1],rfl,?_,SgL.one hi'⟩
   rw [z_c,Int.zero_add]
   rfl
  refine y_h (decide_eq_false (fun h=>d1 ((hLb.2 e x he hx).mp (by injection h with h;lia)).symm)) ?_
  rw [if_neg d1] at gi
  refine ⟨_,rfl,_,rfl,pl,_,_,_,rfl,rfl,SqL.of hpl,y_n (by lia),_,rfl,_,rfl,_,rfl,pt,_,_,_,rfl,rfl,SqT.of hpt,hat,_,_,rfl,rfl,pl,_,_,_,rfl,rfl,SqL.of hpl,(by rw [x1];exact y_n (by lia)),rfl,_,rfl,?_⟩
  by_cases d2:R x^^^1=R e
  ·refine y_s (decide_eq_true (congrArg V.int (by rw [(hLb.2 e (x^^^1) he (by lia)).mpr (by rw [cx];exact d2.symm)]))) ⟨_,rfl,_,rfl,_,_,rfl,rfl,zl1,fun a ha=>q _ _ (z_f ha _) ?_⟩
   unfold comS
   rw [gi,if_pos d2]
   refine ⟨a,[-1-(i:Int)],rfl,?_,SgL.two hi'⟩
   rw [z_c,Int.zero_add]
   rfl
  refine y_h (decide_eq_false (fun h=>d2 (by rw [<-cx];exact ((hLb.2 e (x^^^1) he (by lia)).mp (by injection h with h;lia)).symm))) ?_
  rw [if_neg d2] at gi
  exact ⟨_,rfl,rfl,gi⟩
 rintro σ J ⟨x4,rfl,rfl,gi⟩
 rw [z_i,show ((ls.length:Int)).toNat=ls.length from Int.toNat_natCast _,gkr_end] at gi
 refine ⟨_,rfl,_,_,rfl,rfl,(by show (0:Int)<2;decide),rfl,_,rfl,?_⟩
 by_cases ho:e%2=1
 ·refine y_s (decide_eq_true (by show V.int ((e:Int)%2)=V.int 1;congr 1;lia)) (q _ _ (Same.refl _) ?_)
  unfold comS
  rw [gi,if_pos ho]
  rfl
 refine y_h (decide_eq_false (by show ¬V.int ((e:Int)%2)=V.int 1;intro h;injection h with h;lia)) ?_
 obtain ⟨v,hv⟩:∃ v,us[e/2]? = some v:=⟨_,List.getElem?_eq_getElem heu⟩
 refine ⟨_,rfl,_,rfl,_,_,rfl,rfl,⟨by decide,by decide⟩,ps,_,_,_,rfl,rfl,SqL.of hps,(by rw [show (e:Int)/2=((e/2:Nat):Int) by lia];exact w_q hv),q _ _ (Same.refl _) ?_⟩
 unfold comS
 rw [gi,if_neg ho]
 exact hus _ _ hv
theorem k_d(T:Tx w K mg A):FnOk P w K mg base CX0 1 A.a_L_both A.d_L_both ["_law_mine", "_law_yours"] s_b:=by
 refine T.F_L_both.ok sc_L_both (fun vs H Q E h=>?_) (fun cdv A' outer s H vs Q E hr h=>?_)
 ·obtain ⟨v1,v2,x,y,m,rfl,hm,r1,r2,q⟩:=h
  rfl
 obtain ⟨v1,v2,x,y,m,rfl,hm,r1,r2,q⟩:=h
 have hu64:=hr.units
 refine ⟨_,(z_d (y_x (PW.pt (t_m (z_r (u_y hu64) (pv 0) (x_l (z_a z_b z_e)) (nomark _)) (v_v (z_r (u_y hu64) (pv 1) (x_l (z_a z_b z_e)) (nomark _))))) (z_j (z_w (x_l (z_a z_b z_e)))) z_y)
  (z_d (y_x (PW.pt (t_m (z_r q_g (pv 0) w_f (nomark _)) (v_v (z_r q_g (pv 1) w_f (nomark _))))) (z_j (z_w w_f)) z_y)
  (z_d (z_t (i:=2) sc_L_both.nd rfl (Or.inl rfl) (t_v rfl hu64 rfl T.sorted PyProof.Rows.boot_sorted rfl T.set PyProof.Rows.boot_set (z_a (z_k o_o (pv 0) (pv 1)) z_e)))
  (z_d (w_s PassesOwn.never rfl (v_d (pv 2)) (y_i (i:=3) sc_L_both.nd rfl (Or.inl rfl))
    (z_j (y_x (z_r q_f (k_m q_w (pv 3)) (pv 2) rfl) (z_j (z_w (x_l (z_a z_b z_e)))) z_y)))
  (z_j (z_w (pv 2))))))),?_⟩
 refine ⟨_,rfl,zl1,fun p1 hp1=>?_⟩
 have t1:=z_f hp1 (.lst [.int 0])
 have z1:rpL m (upd H p1 (.lst [.int 0])) (.ref p1) (some none):=⟨p1,rfl,z_c⟩
 obtain ⟨d,d',k1,k2,k3,k4,ke⟩:=(r1.same t1).eqv (K:=K) z1
 refine ⟨d,d',k1,k2,k3,k4,_,rfl,?_⟩
 rw [ke,Bool.false_xor]
 clear z1 k1 k2 k3 k4 ke
 generalize upd H p1 (.lst [.int 0])=H1 at t1 ⊢
 by_cases hx:x=some none
 ·refine y_s (decide_eq_true hx) (iteT ⟨zl1,fun a ha=>q _ _ (t1.trans (z_f ha _)) ?_⟩)
  rw [hx]
  exact ⟨a,rfl,z_c⟩
 refine y_h (decide_eq_false hx) ?_
 refine ⟨_,rfl,zl1,fun p2 hp2=>?_⟩
 have t2:=t1.trans (z_f hp2 (.lst [.int 0]))
 have z2:rpL m (upd H1 p2 (.lst [.int 0])) (.ref p2) (some none):=⟨p2,rfl,z_c⟩
 obtain ⟨d,d',k1,k2,k3,k4,ke⟩:=(r2.same t2).eqv (K:=K) z2
 refine ⟨d,d',k1,k2,k3,k4,_,rfl,?_⟩
 rw [ke,Bool.false_xor]
 clear z2 k1 k2 k3 k4 ke
 generalize upd H1 p2 (.lst [.int 0])=H2 at t2 ⊢
 by_cases hy:y=some none
 ·refine y_s (decide_eq_true hy) ⟨zl1,fun a ha=>q _ _ (t2.trans (z_f ha _)) ?_⟩
  rw [hy]
  rcases x with _ | _ | p<;>first | exact ⟨a,rfl,z_c⟩ | exact absurd rfl hx
 refine y_h (decide_eq_false hy) ?_
 refine ⟨_,rfl,rfl,_,rfl,?_⟩
 rcases x with _ | _ | p
 ·refine y_s (decide_eq_true (show v1 = .non from r1)) (iteT (q _ _ t2 ?_))
  rcases y with _ | _ | p<;>first | rfl | exact absurd rfl hy
 ·exact absurd rfl hx
 refine y_h (decide_eq_false (fun e=>nomatch r1.non.mp e)) ?_
 refine ⟨_,rfl,rfl,_,rfl,?_⟩
 rcases y with _ | _ | p'
 ·exact y_s (decide_eq_true (show v2 = .non from r2)) (q _ _ t2 rfl)
 ·exact absurd rfl hy
 refine y_h (decide_eq_false (fun e=>nomatch r2.non.mp e)) ?_
 obtain ⟨a1,js,rfl,h1,g1⟩:=r1
 obtain ⟨a2,ks,rfl,h2,g2⟩:=r2
 have l1:=g1.len
 have l2:=g2.len
 refine ⟨_,rfl,_,rfl,a1,a2,_,_,rfl,rfl,t2 _ _ h1,t2 _ _ h2,small (by rw [List.length_map,List.length_map];lia),fun c hc=>?_⟩
 have t3:=t2.trans (z_f hc (.lst (js.map V.int++ks.map V.int)))
 refine ⟨c,js++ks,rfl,by rw [z_c,List.map_append],by rw [List.length_append];lia,fun cs ob hcs a zs ha z64 up mem=>?_⟩
 have t4:=t3.trans ((z_f hcs ob).trans (z_f ha (.lst (zs.map V.int))))
 have fa:=z_c (H:=upd (upd H2 c (.lst (js.map V.int++ks.map V.int))) cs ob) (a:=a) (o:=.lst (zs.map V.int))
 dsimp only [gName]
 generalize upd (upd (upd H2 c (.lst (js.map V.int++ks.map V.int))) cs ob) a (.lst (zs.map V.int))=H3 at t4 fa ⊢
 clear t3 t2 t1 ha hcs hc
 refine ⟨_,rfl,a,rfl,⟨_,SqL.of fa⟩,v_z (xs:=zs.map V.int) (fun i σ J=>∃ x3:Option V,σ=[some (.ref a1),some (.ref a2),some (.ref a),x3]/\H3=J/\∀ z∈zs.take i,-z∉zs) ⟨_,rfl,rfl,fun z hz=>nomatch hz⟩ ?_ ?_ ?_⟩
 ·rintro i σ J _ ⟨_,_,rfl,_⟩
  exact SqL.of fa
 ·rintro i v σ J hv ⟨x3,rfl,rfl,hno⟩
  rw [List.getElem?_map] at hv
  obtain ⟨z,hz,rfl⟩:=Option.map_eq_some_iff.mp hv
  refine ⟨_,rfl,_,rfl,_,rfl,a,_,rfl,.inl (SqL.of fa),rfl,r_q _,_,rfl,?_⟩
  have hin:=o_f (-z) zs
  by_cases hm : -z∈zs
  ·refine y_s (by show inV _ _=true;rw [hin,decide_eq_true hm]) ⟨zl1,fun b hb=>q _ _ (t4.trans (z_f hb _)) ?_⟩
   have e:bthS (some (some p)) (some (some p'))=some none:=by
    show some (jnS p p')=some none
    unfold jnS
    rw [if_neg]
    exact fun c0=>(g1.join g2 up mem c0).no (List.mem_of_getElem? hz) hm
   rw [e]
   exact ⟨b,rfl,z_c⟩
  ·refine y_h (by show inV _ _=false;rw [hin,decide_eq_false hm]) ⟨_,rfl,rfl,fun z' hz'=>?_⟩
   rw [x_w hz] at hz'
   rcases List.mem_append.mp hz' with h | h
   ·exact hno z' h
   ·rw [List.mem_singleton.mp h];exact hm
 rintro σ J ⟨x3,rfl,rfl,hno⟩
 rw [List.length_map,List.take_length] at hno
 refine ⟨_,rfl,q _ _ t4 ?_⟩
 have c0:(p.1|||p'.1)&&&(p.2|||p'.2)=0:=Decidable.byContradiction fun c0=>by
  obtain ⟨z,z1,z2⟩:=g1.yes g2 mem c0
  exact hno z z1 z2
 show rpL m H3 (.ref a) (some (jnS p p'))
 unfold jnS
 rw [if_pos c0]
 exact ⟨a,zs,rfl,fa,g1.join g2 up mem c0⟩
theorem ok_L_due(T:Tx w K mg A)(G_L_come:FnOk P w K mg base CX0 1 A.a_L_come A.d_L_come ["_law_labels", "_law_leaves", "_law_sets", "_law_end"] s_c)(G_L_both:FnOk P w K mg base CX0 1 A.a_L_both A.d_L_both ["_law_mine", "_law_yours"] s_b):FnOk P w K mg base CX0 2 A.a_L_due A.d_L_due ["_law_net_here", "_law_labels", "_law_step_here"] (q_p A.c_Classes):=by
 refine T.F_L_due.ok sc_L_due (fun vs H Q E h=>?_) (fun cdv A' outer s H vs Q E hr h=>?_)
 ·obtain ⟨net,g,o,l,st,lt,pl,rs,L,n,a,b,gs,R,ls,Ls,rfl,hS,h1000,hls,hpl,hLb,q⟩:=h
  rfl
 obtain ⟨net,g,o,l,st,lt,pl,rs,L,n,a,b,gs,R,ls,Ls,rfl,hS,h1000,hls,hpl,hLb,q⟩:=h
 have hu64:=hr.units
 refine ⟨_,(z_d (z_t (i:=3) sc_L_due.nd rfl (Or.inl rfl) (z_o y_a (pv 2) z_b (fun _ _=>rfl)))
  (z_d (y_x (z_r q_e (z_q y_d rfl T.len PySem.boot_len (z_a (pv 3) z_e)) z_b (nomark _)) (z_j (z_w v_x)) z_y)
  (z_d (z_t (i:=4) sc_L_due.nd rfl (Or.inl rfl) (x_l (z_a (z_o z_m (pv 1) z_b (fun _ _=>rfl)) (z_a (z_o z_m (pv 1) z_b (fun _ _=>rfl)) z_e))))
  (z_d (w_s PassesOwn.never rfl (t_w (pv 3)) (y_i (i:=5) sc_L_due.nd rfl (Or.inl rfl))
    (z_d (y_x (z_r q_f (z_o z_m (pv 1) (pv 5) (fun _ _=>rfl)) (pv 4) rfl) (z_j (z_w v_x)) z_y)
  (z_j (z_t (i:=4) sc_L_due.nd rfl (Or.inl rfl) (z_k o_o (pv 4) (x_l (z_a (z_o z_m (pv 1) (pv 5) (fun _ _=>rfl)) (z_a (z_o z_m (pv 1) (z_k w_o (pv 5) z_b) (fun _ _=>rfl)) z_e))))))))
  (z_d (v_r [] sc_L_due.nd (i:=6) rfl (Or.inl rfl) (fun _ _ h=>h) rfl (y_w rfl T.range (z_a (z_k y_g z_b (z_o y_a (pv 0) z_b (fun _ _=>rfl))) z_e)) (fun _ _ _ _=>x_j) (fun _ _ _ _=>w_f) rfl (show ∀ j∈([]:List Nat),j<10 by decide) (show (["_law_k"]:List Str).Nodup by decide +kernel) (by with_unfolding_all rfl))
  (z_d (w_s PassesOwn.never rfl (v_d (z_o y_a (pv 0) z_b (fun _ _=>rfl))) (o_t rfl (x_u (y_i (i:=7) sc_L_due.nd rfl (Or.inl rfl)) (x_u (y_i (i:=8) sc_L_due.nd rfl (Or.inl rfl)) s_v)))
    (z_j (w_a (t_a PySem.F.plainAttrs_list PySem.F.slot_list_append PySem.F.type_list_append x_g (pv 6) (z_a (y_c G_L_both (hr.mono (by first | decide | lia)) rfl T.M_L_both T.F_L_both.kp T.B_L_both .nil pass0 (z_a (y_c G_L_come (hr.mono (by first | decide | lia)) rfl T.M_L_come T.F_L_come.kp T.B_L_come .nil pass0 (z_a (pv 1) (z_a (pv 3) (z_a (pv 6) (z_a (pv 7) z_e))))) (z_a (y_c G_L_come (hr.mono (by first | decide | lia)) rfl T.M_L_come T.F_L_come.kp T.B_L_come .nil pass0 (z_a (pv 1) (z_a (pv 3) (z_a (pv 6) (z_a (pv 8) z_e))))) z_e))) z_e)))))
  (z_d (z_t (i:=9) sc_L_due.nd rfl (Or.inl rfl) (y_c G_L_come (hr.mono (by first | decide | lia)) rfl T.M_L_come T.F_L_come.kp T.B_L_come .nil pass0 (z_a (pv 1) (z_a (pv 3) (z_a (pv 6) (z_a (z_o y_a (pv 2) z_b (fun _ _=>rfl)) z_e))))))
  (z_j (z_w (q_i (x_y k_i (pv 9) w_f (nomark _)) (q_j (x_y (u_y hu64) (pv 9) (y_c G_L_come (hr.mono (by first | decide | lia)) rfl T.M_L_come T.F_L_come.kp T.B_L_come .nil pass0 (z_a (pv 1) (z_a (pv 3) (z_a (pv 6) (z_a (z_o y_a (pv 2) z_b (fun _ _=>rfl)) z_e))))) (nomark _))))))))))))),?_⟩
 obtain ⟨_,L0,_,u,_⟩:=hS.ng.cls
 have hn:=hS.ng.hn
 have h0:0<n:=by lia
 have hLl:=hLb.1
 refine ⟨_,rfl,st,_,_,_,rfl,rfl,SqT.of hS.st,rfl,?_⟩
 refine ⟨_,rfl,_,_,rfl,.inr ⟨_,SqT.of hS.lt,rfl⟩,_,_,rfl,rfl,_,rfl,?_⟩
 rw [z_i]
 by_cases h64:ls.length<=64
 case neg =>
  have:=q H (Same.refl H)
  unfold gooR at this
  rw [decide_eq_false (fun h=>h64 h.1)] at this
  exact y_s (decide_eq_true (by lia)) this
 refine y_h (decide_eq_false (by lia)) ?_
 refine ⟨_,rfl,pl,_,_,_,rfl,rfl,SqL.of hpl,y_n (k:=0) (by lia),_,rfl,pl,_,_,_,rfl,rfl,SqL.of hpl,y_n (k:=1) (by lia),zl2,fun p4 hp4=>?_⟩
 have s1:=z_f hp4 (.lst (z_h (snL Ls ls 0)))
 have f1:=z_c (H:=H) (a:=p4) (o:=.lst (z_h (snL Ls ls 0)))
 have ev:[V.int ((Ls.getD 0 0:Nat):Int),V.int ((Ls.getD 1 0:Nat):Int)]=z_h (snL Ls ls 0):=by
  unfold snL
  rw [List.take_zero]
  rfl
 dsimp only [gName]
 rw [ev]
 generalize upd H p4 (.lst (z_h (snL Ls ls 0)))=H1 at s1 f1 ⊢
 refine ⟨_,rfl,lt,rfl,⟨_,SqT.of (s1 _ _ hS.lt)⟩,l_f (xs:=z_h ls) (fun i σ J=>∃ (p:Addr) (x5:Option V),σ=[some (.ref net),some (.ref pl),some (.ref st),some (.ref lt),some (.ref p),x5,none,none,none,none]/\Same H J/\J p=some (.lst (z_h (snL Ls ls i)))/\Dst R (ls.take i)) ⟨_,_,rfl,s1,f1,(fun e he=>nomatch he),.nil⟩ ?_ ?_ ?_⟩
 ·rintro i σ J _ ⟨_,_,_,sJ,_⟩
  exact SqT.of (sJ _ _ hS.lt)
 ·rintro i v σ J hv ⟨p,x5,rfl,sJ,fJ,hd⟩
  obtain ⟨hi,rfl⟩:=x_b hv
  have hsi:ls[i]? = some (ls.getD i 0):=by rw [List.getD_eq_getElem?_getD,List.getElem?_eq_getElem hi];rfl
  generalize ls.getD i 0=x at hsi ⊢
  have hx:=hS.hl _ (List.mem_of_getElem? hsi)
  have hxc:=y_u x
  have x1:Builtin.bitXor (x:Int) 1=((x^^^1:Nat):Int):=w_b x 1
  have plJ:=sJ _ _ hpl
  refine ⟨_,rfl,_,rfl,pl,_,_,_,rfl,rfl,SqL.of plJ,y_n (by lia),_,rfl,p,_,rfl,.inl (SqL.of fJ),rfl,v_g _,_,rfl,?_⟩
  have hin:=s_o (Ls.getD x 0) (snL Ls ls i)
  by_cases hm:Ls.getD x 0∈snL Ls ls i
  ·refine y_s (by show inV _ _=true;rw [hin,decide_eq_true hm]) ?_
   have:=q J sJ
   unfold gooR at this
   rw [decide_eq_false (fun h=>dst_no u hLb h0 hS.hl hsi hm h.2.1)] at this
   exact this
  ·refine y_h (by show inV _ _=false;rw [hin,decide_eq_false hm]) ?_
   refine ⟨_,rfl,_,rfl,_,rfl,pl,_,_,_,rfl,rfl,SqL.of plJ,y_n (by lia),_,rfl,_,rfl,_,_,rfl,rfl,pl,_,_,_,rfl,rfl,SqL.of plJ,(by rw [x1];exact y_n (by lia)),zl2,fun p5 hp5=>?_⟩
   have t1:=z_f hp5 (.lst [.int ((Ls.getD x 0:Nat):Int),.int ((Ls.getD (x^^^1) 0:Nat):Int)])
   have hsl:=snL_len Ls ls i
   refine ⟨p,p5,_,_,rfl,rfl,t1 _ _ fJ,z_c,small (by rw [z_i];show (snL Ls ls i).length+2<=_;lia),fun p6 hp6=>?_⟩
   refine ⟨p6,_,rfl,sJ.trans (t1.trans (z_f hp6 _)),?_,dst_go u hLb h0 hS.hl hsi hm hd⟩
   rw [z_c,snL_snoc hsi]
   unfold z_h
   rw [List.map_append]
   rfl
 rintro σ J ⟨p,x5,rfl,sJ,fJ,hd⟩
 rw [z_i,List.take_length] at hd
 clear fJ
 have h32:ls.length<=32:=by lia
 have hlt:=hS.lt
 have hN:=hS.ng.net
 have hgs:=hS.ng.gt
 refine ⟨_,rfl,net,_,_,_,rfl,rfl,SqT.of (sJ _ _ hN.p),rfl,_,_,rfl,rfl,_,rfl,by lia,by lia,x_n (lo:=0) (fun i ys J'=>J=J'/\ys=List.replicate i V.non) ⟨rfl,rfl⟩ ?_ ?_ ?_⟩
 ·rintro i ys J' hi ⟨_,rfl⟩
  rw [List.length_replicate]
  exact y_l (by lia)
 ·rintro i ys J' hi ⟨rfl,rfl⟩
  unfold tYes
  refine iteT ⟨rfl,?_⟩
  rw [List.replicate_succ']
 rintro ys J' ⟨rfl,rfl⟩ p6 hp6
 have eR:List.replicate (1+(L:Int)).toNat V.non=V.non::List.replicate L V.non:=by
  rw [show (1+(L:Int)).toNat=L+1 by lia,List.replicate_succ]
 have t6:=z_f hp6 (.lst (List.replicate (1+(L:Int)).toNat V.non))
 have f6:=z_c (H:=J) (a:=p6) (o:=.lst (List.replicate (1+(L:Int)).toNat V.non))
 have hp6H:=sJ.free hp6
 dsimp only [gName]
 generalize upd J p6 (.lst (List.replicate (1+(L:Int)).toNat V.non))=J6 at t6 f6 ⊢
 rw [eR] at f6
 have s6:=sJ.trans t6
 have hlg:=hN.g.lenS
 clear t6 hp6 eR
 refine ⟨_,rfl,net,_,_,_,rfl,rfl,SqT.of (s6 _ _ hN.p),rfl,g,rfl,⟨_,SqL.of (s6 _ _ hN.g.1)⟩,v_z (xs:=rs.map V.ref) (fun i σ J'=>∃ (x7 x8:Option V) (us:List V),σ=[some (.ref net),some (.ref pl),some (.ref st),some (.ref lt),some (.ref p),x5,some (.ref p6),x7,x8,none]/\Same H J'/\J' p6=some (.lst (.non::us))/\us.length=L+i/\∀ k v,(V.non::us)[k]? = some v->rpL ls.length J' v (knS R L gs ls k)) ⟨_,_,_,rfl,s6,f6,by rw [List.length_replicate];rfl,fun k v hv=>?_⟩ ?_ ?_ ?_⟩
 ·rw [<-List.replicate_succ,List.getElem?_replicate] at hv
  split at hv
  ·cases hv
   unfold knS
   rw [if_neg (by lia)]
   rfl
  ·cases hv
 ·rintro i σ J' _ ⟨_,_,_,_,s',_⟩
  exact SqL.of (s' _ _ hN.g.1)
 ·rintro i v σ J' hv ⟨x7,x8,us,rfl,s',f',lu,hus⟩
  rw [List.getElem?_map] at hv
  obtain ⟨r,hr,rfl⟩:=Option.map_eq_some_iff.mp hv
  obtain ⟨pr,hpr,hrt⟩:=u_z hN.g.2 hr
  unfold gI at hpr
  rw [List.getElem?_map] at hpr
  obtain ⟨pr,hp',rfl⟩:=Option.map_eq_some_iff.mp hpr
  obtain ⟨b1,b2⟩:=hgs _ _ hp'
  have hi:i<gs.length:=(List.getElem?_eq_some_iff.mp hp').1
  refine ⟨r,_,rfl,SqT.of (s' _ _ hrt),rfl,_,_,rfl,_,_,rfl,rfl,?_⟩
  refine ⟨_,rfl,.inl ⟨rfl,_,SqL.of f'⟩,_,rfl,_,rfl,_,rfl,_,rfl,pl,lt,p6,Ls,ls,L0,_,pr.1,n,R,knS R L gs ls,rfl,s' _ _ hpl,u,hLb,h0,s' _ _ hlt,h64,hS.hl,by lia,f',hus,by rw [List.length_cons];lia,fun w1 J1 s1 r1=>?_⟩
  have s1':=s'.trans s1
  refine ⟨_,rfl,_,rfl,_,rfl,_,rfl,pl,lt,p6,Ls,ls,L0,_,pr.2,n,R,knS R L gs ls,rfl,s1' _ _ hpl,u,hLb,h0,s1' _ _ hlt,h64,hS.hl,by lia,s1 _ _ f',fun k v hv=>(hus k v hv).same s1,by rw [List.length_cons];lia,fun w2 J2 s2 r2=>?_⟩
  refine ⟨w1,w2,_,_,ls.length,rfl,h32,r1.same s2,r2,fun w3 J3 s3 r3=>?_⟩
  have s13:=s1.trans (s2.trans s3)
  refine ⟨p6,_,_,rfl,rfl,s13 _ _ f',y_l (by rw [List.length_cons];lia),?_⟩
  refine ⟨_,_,us++[w3],rfl,x_s (s'.trans s13) hp6H _,z_c,by rw [List.length_append,lu];rfl,fun k v hv=>?_⟩
  refine rpL.up ?_ (s13 _ _ f')
  rw [<-List.cons_append,List.getElem?_append] at hv
  split at hv
  ·exact (hus k v hv).same s13
  ·rename_i hk
   rw [List.length_cons,lu] at hk hv
   have ek:k=1+L+i:=by
    have:=(List.getElem?_eq_some_iff.mp hv).1
    simp at this
    lia
   subst ek
   rw [show 1+L+i-(L+i+1)=0 by lia] at hv
   cases hv
   rw [<-u_h hgs,<-u_h hgs] at r3
   unfold knS
   rw [if_pos (by lia),show 1+L+i-L-1=i by lia,hp']
   exact r3
 rintro σ J' ⟨x7,x8,us,rfl,s',f',lu,hus⟩
 rw [List.length_map,hlg] at lu
 have ha:=hS.ha
 have hb:=hS.hb
 refine ⟨_,rfl,_,rfl,_,rfl,_,rfl,st,_,_,_,rfl,rfl,SqT.of (s' _ _ hS.st),rfl,pl,lt,p6,Ls,ls,L0,_,a,n,R,knS R L gs ls,rfl,s' _ _ hpl,u,hLb,h0,s' _ _ hlt,h64,hS.hl,ha,f',hus,by rw [List.length_cons];lia,fun w1 J1 s1 r1=>?_⟩
 have s1':=s'.trans s1
 rw [<-u_h hgs] at r1
 refine ⟨_,rfl,rfl,_,rfl,?_⟩
 cases hva:valR R L gs ls a with
 | none =>
  rw [hva] at r1
  have hq:=q J1 s1'
  unfold gooR at hq
  rw [hva,decide_eq_false (fun h=>h.2.2.1 rfl)] at hq
  exact y_h (by rw [decide_eq_true (show w1 = .non from r1)];rfl) hq
 | some x =>
  refine y_s (by rw [decide_eq_false (fun e=>by rw [hva] at r1;exact nomatch r1.non.mp e)];rfl) ?_
  refine ⟨_,rfl,_,rfl,_,rfl,_,rfl,_,rfl,st,_,_,_,rfl,rfl,SqT.of (s1' _ _ hS.st),rfl,pl,lt,p6,Ls,ls,L0,_,b,n,R,knS R L gs ls,rfl,s1' _ _ hpl,u,hLb,h0,s1' _ _ hlt,h64,hS.hl,hb,s1 _ _ f',fun k v hv=>(hus k v hv).same s1,by rw [List.length_cons];lia,fun w2 J2 s2 r2=>?_⟩
  rw [<-u_h hgs] at r2
  obtain ⟨d,d',k1,k2,k3,k4,ke⟩:=(r1.same s2).eqv (K:=K) r2
  refine ⟨d,d',k1,k2,k3,k4,?_⟩
  rw [ke,Bool.false_xor]
  have hq:=q J2 (s1'.trans s2)
  unfold gooR at hq
  have e:decide (valR R L gs ls a=valR R L gs ls b)=decide (ls.length<=64/\Dst R ls/\valR R L gs ls a≠none/\valR R L gs ls a=valR R L gs ls b):=decide_eq_decide.mpr ⟨fun h=>⟨h64,hd,by rw [hva];nofun,h⟩,fun h=>h.2.2.2⟩
  rw [e]
  exact hq
theorem k_f(T:Tx w K mg A):FnOk P w K mg base CX0 1 A.a_L_step A.d_L_step ["_law_net_here", "_law_row_here", "_law_tops", "_law_ends"] s_d:=by
 refine T.F_L_step.ok sc_L_step (fun vs H Q E h=>?_) (fun cdv A' outer s H vs Q E hr h=>?_)
 ·obtain ⟨net,g,r,tp,pe,rs,L,n,f,s,gs,rw,es,rfl,hN,hn,h2,h1000,hr0,hrl,hrd,htp,hf,hs,hpe,h32,hes,q⟩:=h
  rfl
 obtain ⟨net,g,r,tp,pe,rs,L,n,f,s,gs,rw,es,rfl,hN,hn,h2,h1000,hr0,hrl,hrd,htp,hf,hs,hpe,h32,hes,q⟩:=h
 refine ⟨_,(z_d (z_t (i:=4) sc_L_step.nd rfl (Or.inr rfl) (z_k y_p z_b (z_k y_g (z_k y_g z_b (z_o y_a (pv 0) z_b (fun _ _=>rfl))) (z_q y_d rfl T.len PySem.boot_len (z_a (z_o y_a (pv 0) z_b (fun _ _=>rfl)) z_e)))))
  (z_d (t_x (pv 2) (o_t rfl (x_u (y_i (i:=5) sc_L_step.nd rfl (Or.inl rfl)) (x_u (y_i (i:=6) sc_L_step.nd rfl (Or.inl rfl)) s_v))))
  (z_d (z_t (i:=7) sc_L_step.nd rfl (Or.inl rfl) (pv 3))
  (z_d (y_x (z_r w_e (z_k z_z (z_o z_m (pv 1) z_b (fun _ _=>rfl)) z_b) z_b (nomark _)) (z_d (z_t (i:=5) sc_L_step.nd rfl (Or.inl rfl) (z_k z_z (z_o z_m (pv 1) z_b (fun _ _=>rfl)) (pv 4)))
  (z_j (z_t (i:=6) sc_L_step.nd rfl (Or.inl rfl) (z_k z_z (z_o z_m (pv 1) z_b (fun _ _=>rfl)) (pv 4))))) z_y)
  (z_d (y_x (z_r w_e (z_k z_z (z_o z_m (pv 1) z_b (fun _ _=>rfl)) z_b) z_b (nomark _)) (z_j (v_r [1,4] sc_L_step.nd (i:=7) rfl (Or.inl rfl) (fun _ _ h=>h) rfl (y_w rfl T.range (z_a (z_k z_z (z_o z_m (pv 1) z_b (fun _ _=>rfl)) z_b) z_e)) (fun _ _ _ _=>x_j) (fun _ _ _ _=>(z_k z_z (z_o (o_i (K:=K) rfl) (pv 1) (z_k y_g z_b (pv 0)) (fun _ _=>rfl)) (pv 2))) rfl (show ∀ j∈([1,4]:List Nat),j<8 by decide) (show (["_law_k", "_law_row_here", "_law_many"]:List Str).Nodup by decide +kernel) (by with_unfolding_all rfl))) z_y)
  (z_d (y_x (z_r w_e (z_k z_z (z_o z_m (pv 1) z_b (fun _ _=>rfl)) z_b) z_b (nomark _)) (z_j (v_r [4] sc_L_step.nd (i:=7) rfl (Or.inl rfl) (fun _ _ h=>h) rfl (y_w rfl T.range (z_a z_b z_e)) (fun _ _ _ _=>x_j) (fun _ _ _ _=>(z_k y_g z_b (z_k z_z (pv 0) (z_k y_g (z_k t_t (pv 1) z_b) (y_q r_l rfl T.int PyProof.Rows.boot_int (z_a (x_y w_e (pv 1) z_b (nomark _)) z_e)))))) rfl (show ∀ j∈([4]:List Nat),j<8 by decide) (show (["_law_k", "_law_many"]:List Str).Nodup by decide +kernel) (by with_unfolding_all rfl))) z_y)
  (z_j (z_w (w_g (z_a pe_str (z_a (pv 5) (z_a (pv 6) (z_a (y_q s_l rfl T.tuple PyProof.Rows.boot_tuple (z_a (pv 7) z_e)) z_e))))))))))))),?_⟩
 have hl:=hN.g.lenS
 obtain ⟨r0,e0,r00,_⟩:=hrd.at (show (0:Int)<=0 by decide) (by lia)
 obtain ⟨r1,e1,r10,_⟩:=hrd.at (show (0:Int)<=1 by decide) (by lia)
 obtain ⟨r2,e2,r20,_⟩:=hrd.at (show (0:Int)<=2 by decide) (by lia)
 obtain ⟨r3,e3,r30,_⟩:=hrd.at (show (0:Int)<=3 by decide) (by lia)
 have en:2*(1+(L:Int)+(((rs.map V.ref).length:Nat):Int))=((2*n:Nat):Int):=by rw [List.length_map];lia
 have pos:(0:Int)<((2*n:Nat):Int):=by lia
 refine ⟨_,rfl,net,_,_,_,rfl,rfl,SqT.of hN.p,rfl,_,_,rfl,rfl,_,rfl,net,_,_,_,rfl,rfl,SqT.of hN.p,rfl,_,_,rfl,.inl ⟨_,SqL.of hN.g.1,rfl⟩,_,_,rfl,rfl,_,_,rfl,rfl,.inl ⟨by decide,by decide⟩,?_⟩
 dsimp only [gName]
 rw [en]
 refine ⟨_,rfl,tp,_,rfl,SqT.of htp,rfl,_,_,rfl,_,_,rfl,rfl,?_⟩
 refine ⟨_,rfl,?_⟩
 dsimp only [gName]
 refine v_s (fun σ J=>∃ a b:Nat,σ=[some (.ref net),some (.ref r),some (.ref tp),some (.ref pe),some (.int ((2*n:Nat):Int)),some (.int (a:Int)),some (.int (b:Int)),some (.ref pe)]/\H=J/\a<2*n/\b<2*n) (fun D hD=>?_) ?_
 ·refine ⟨_,rfl,r,_,_,_,rfl,rfl,SqL.of hr0,e0,_,_,rfl,rfl,(by show (0:Int)<4;decide),rfl,_,rfl,?_⟩
  refine ite2 (fun _=>?_) (fun _=>hD _ _ ⟨f,s,rfl,rfl,hf,hs⟩)
  obtain ⟨a,ea,la⟩:=modN r1 (m:=2*n) (by lia)
  obtain ⟨b,eb,lb⟩:=modN r2 (m:=2*n) (by lia)
  refine ⟨_,rfl,r,_,_,_,rfl,rfl,SqL.of hr0,e1,_,rfl,_,_,rfl,rfl,pos,?_⟩
  dsimp only [gName]
  rw [ea]
  refine ⟨_,rfl,r,_,_,_,rfl,rfl,SqL.of hr0,e2,_,rfl,_,_,rfl,rfl,pos,?_⟩
  dsimp only [gName]
  rw [eb]
  exact hD _ _ ⟨a,b,rfl,rfl,la,lb⟩
 rintro σ J ⟨a,b,rfl,rfl,la,lb⟩
 refine v_s (fun σ J=>∃ (p7:Addr) (ls:List Nat),σ=[some (.ref net),some (.ref r),some (.ref tp),some (.ref pe),some (.int ((2*n:Nat):Int)),some (.int (a:Int)),some (.int (b:Int)),some (.ref p7)]/\Same H J/\J p7=some (.lst (z_h ls))/\ls.length<=32/\∀ e∈ls,e<2*n) (fun D hD=>?_) ?_
 ·refine ⟨_,rfl,r,_,_,_,rfl,rfl,SqL.of hr0,e0,_,_,rfl,rfl,(by show (0:Int)<3;decide),rfl,_,rfl,?_⟩
  refine ite2 (fun _=>?_) (fun _=>hD _ _ ⟨pe,es,rfl,Same.refl _,hpe,h32,hes⟩)
  refine ⟨_,rfl,r,_,_,_,rfl,rfl,SqL.of hr0,e3,_,_,rfl,rfl,(by show (0:Int)<6;decide),_,rfl,by lia,by lia,x_n (lo:=0) (fun i ys J=>H=J/\∃ ls:List Nat,ys=z_h ls/\ls.length=i/\∀ e∈ls,e<2*n) ⟨rfl,[],rfl,rfl,(fun _ h=>nomatch h)⟩ ?_ ?_ ?_⟩
  ·rintro i ys J hi ⟨_,ls,rfl,h,_⟩
   rw [z_i]
   exact y_l (by lia)
  ·rintro i ys J hi ⟨rfl,hys⟩
   obtain ⟨v,ev,_,_⟩:=hrd.at (i:=4+(0+(i:Int))) (by lia) (by lia)
   obtain ⟨c,ec,lc⟩:=modN v (m:=2*n) (by lia)
   unfold tYes
   refine iteT ⟨_,rfl,_,rfl,_,_,rfl,rfl,r,_,_,_,rfl,rfl,SqL.of hr0,ev,_,rfl,_,_,rfl,rfl,pos,rfl,?_⟩
   dsimp only
   rw [ec]
   exact u_u hys lc
  ·rintro ys J ⟨rfl,ls,rfl,h,hb⟩ p5 hp5
   exact hD _ _ ⟨p5,ls,rfl,z_f hp5 _,z_c,by lia,hb⟩
 rintro σ J ⟨p7,ls,rfl,sJ,f7,l32,hls⟩
 refine v_s (fun σ J=>∃ (p7:Addr) (ls:List Nat),σ=[some (.ref net),some (.ref r),some (.ref tp),some (.ref pe),some (.int ((2*n:Nat):Int)),some (.int (a:Int)),some (.int (b:Int)),some (.ref p7)]/\Same H J/\J p7=some (.lst (z_h ls))/\(ls.length<=32\/ls.length=65)/\∀ e∈ls,e<2*n) (fun D hD=>?_) ?_
 ·refine ⟨_,rfl,r,_,_,_,rfl,rfl,SqL.of (sJ _ _ hr0),e0,_,_,rfl,rfl,(by show (0:Int)<9;decide),rfl,_,rfl,?_⟩
  refine ite2 (fun _=>?_) (fun _=>hD _ _ ⟨p7,ls,rfl,sJ,f7,.inl l32,hls⟩)
  refine ⟨_,rfl,by decide,by decide,x_n (lo:=0) (fun i ys J'=>J=J'/\∃ ls:List Nat,ys=z_h ls/\ls.length=i/\∀ e∈ls,e<2*n) ⟨rfl,[],rfl,rfl,(fun _ h=>nomatch h)⟩ ?_ ?_ ?_⟩
  ·rintro i ys J' hi ⟨_,ls,rfl,h,_⟩
   have hi6:i<65:=hi
   rw [z_i]
   exact y_l (by lia)
  ·rintro i ys J' hi ⟨rfl,hys⟩
   have eb:(((2*n:Nat):Int)-2+(if decide (V.int ((2*n:Nat):Int)=V.int 2)=true then (1:Int) else 0))=((2*n-2:Nat):Int):=by
    rw [decide_eq_false (fun h=>by injection h with h;lia),if_neg (by decide)]
    lia
   obtain ⟨c,ec,lc⟩:=modN (0+(i:Int)) (m:=2*n-2) (by lia)
   unfold tYes
   refine iteT ⟨_,rfl,_,rfl,_,_,rfl,rfl,_,rfl,rfl,.inr ⟨_,rfl,_,_,rfl,rfl,_,_,rfl,rfl,(by rw [eb];lia),_,_,rfl,rfl,rfl,?_⟩⟩
   dsimp only
   rw [eb,ec,show 2+(c:Int)=((2+c:Nat):Int) by lia]
   exact u_u hys (by lia)
  ·rintro ys J' ⟨rfl,ls,rfl,h,hb⟩ p5 hp5
   exact hD _ _ ⟨p5,ls,rfl,sJ.trans (z_f hp5 _),z_c,.inr h,hb⟩
 clear f7 l32 hls sJ
 rintro σ J ⟨p7,ls,rfl,sJ,f7,l32,hls⟩
 refine ⟨_,rfl,_,rfl,_,rfl,p7,_,rfl,.inl ⟨SqL.of f7,fun lt hlt=>⟨zl4,fun st hst=>?_⟩⟩⟩
 have t1:=z_f hlt (.tup (z_h ls))
 have t2:=z_f hst (.tup [.str "row",.int (a:Int),.int (b:Int),.ref lt])
 exact q st lt a b ls _ (sJ.trans (t1.trans t2)) z_c (t2 _ _ z_c) la lb hls l32
theorem ok_law(T:Tx w K mg A)(G_L_row:FnOk P w K mg base CX0 1 A.a_L_row A.d_L_row ["_law_script", "_law_at", "_law_many"] (n_a K))(G_L_net:FnOk P w K mg base CX0 1 A.a_L_net A.d_L_net ["_law_row_here", "_law_sizes"] q_q)(G_L_tree:FnOk P w K mg base CX0 1 A.a_L_tree A.d_L_tree ["_law_net_here", "_law_ends", "_law_left"] s_e)(G_Classes_init:FnOk P w K mg base CX0 1 A.a_Classes_init A.d_Classes_init ["self", "knots"] (q_n A.c_Classes))(G_Classes_join:FnOk P w K mg base CX0 2 A.a_Classes_join A.d_Classes_join ["self", "one", "other"] (q_o A.c_Classes))(G_L_step:FnOk P w K mg base CX0 1 A.a_L_step A.d_L_step ["_law_net_here", "_law_row_here", "_law_tops", "_law_ends"] s_d)(G_is_good:FnOk P w K mg base CX0 5 A.a_is_good A.d_is_good ["net", "classes", "step"] (n_b A.c_Classes A.tp_sets_of_both z_u z_s))(G_L_joined:FnOk P w K mg base CX0 1 A.a_L_joined A.d_L_joined ["_law_labels", "_law_one", "_law_other"] t_i)(G_Classes_least:FnOk P w K mg base CX0 1 A.a_Classes_least A.d_Classes_least ["self", "end"] (x_o A.c_Classes))(G_L_due:FnOk P w K mg base CX0 2 A.a_L_due A.d_L_due ["_law_net_here", "_law_labels", "_law_step_here"] (q_p A.c_Classes)):FnOk P w K mg base CX0 6 A.a_law A.d_law ["_law_script"] (j_h K A.tp_bits_of_both y_j y_k A.tp_sets_of_both z_u z_s):=by
 refine T.F_law.ok sc_law (fun vs H Q E h=>?_) (fun cdv A' outer s H vs Q E hr h=>?_)
 ·obtain ⟨a,ns,rfl,hS,h63,hP,hP2,q⟩:=h
  rfl
 obtain ⟨a,ns,rfl,hS,h63,hP,hP2,q⟩:=h
 have hu64:=hr.units
 refine ⟨_,(z_d (z_t (i:=1) sc_law.nd rfl (Or.inl rfl) (y_c G_L_row (hr.mono (by first | decide | lia)) rfl T.M_L_row T.F_L_row.kp T.B_L_row .nil pass0 (z_a (pv 0) (z_a z_b (z_a z_b z_e)))))
  (z_d (z_t (i:=2) sc_law.nd rfl (Or.inr rfl) (y_c G_L_net (hr.mono (by first | decide | lia)) rfl T.M_L_net T.F_L_net.kp T.B_L_net .nil pass0 (z_a (y_c G_L_row (hr.mono (by first | decide | lia)) rfl T.M_L_row T.F_L_row.kp T.B_L_row .nil pass0 (z_a (pv 0) (z_a z_b (z_a z_b z_e)))) (z_a (pv 1) z_e))))
  (z_d (z_t (i:=3) sc_law.nd rfl (Or.inr rfl) (y_c G_L_row (hr.mono (by first | decide | lia)) rfl T.M_L_row T.F_L_row.kp T.B_L_row .nil pass0 (z_a (pv 0) (z_a z_b (z_a z_b z_e)))))
  (z_d (z_t (i:=4) sc_law.nd rfl (Or.inl rfl) (z_k y_g (z_k y_g z_b (z_k z_z (z_o z_m (pv 1) z_b (fun _ _=>rfl)) z_b)) (z_k y_p z_b (y_q r_l rfl T.int PyProof.Rows.boot_int (z_a (x_y w_e (z_k z_z (z_k y_o (z_o z_m (pv 1) z_b (fun _ _=>rfl)) z_b) z_b) z_b (nomark _)) z_e)))))
  (z_d (z_t (i:=5) sc_law.nd rfl (Or.inr rfl) (v_b [3,2] (fun _ _ h=>h) rfl (y_w rfl T.range (z_a (pv 4) z_e)) (fun _ _ _ _=>x_j) (fun _ _ _ _=>(z_k z_z (z_o (o_i (K:=K) rfl) (pv 1) (pv 0) (fun _ _=>rfl)) (z_k y_p z_b (z_k y_g (z_k y_g z_b (z_o (l_n (K:=K) rfl) (pv 2) z_b (fun _ _=>rfl))) (z_q (m_q (K:=K) rfl) rfl T.len PySem.boot_len (z_a (z_o (l_n (K:=K) rfl) (pv 2) z_b (fun _ _=>rfl)) z_e)))))) rfl (show ∀ j∈([3,2]:List Nat),j<16 by decide) (show (["_law_k", "_law_row_here", "_law_net_here"]:List Str).Nodup by decide +kernel)))
  (z_d (t_x (y_c G_L_tree (hr.mono (by first | decide | lia)) rfl T.M_L_tree T.F_L_tree.kp T.B_L_tree .nil pass0 (z_a (pv 2) (z_a (pv 5) (z_a v_x z_e)))) (o_t rfl (x_u (y_i (i:=2) sc_law.nd rfl (Or.inr rfl)) (x_u (y_i (i:=6) sc_law.nd rfl (Or.inl rfl)) s_v))))
  (z_d (z_t (i:=7) sc_law.nd rfl (Or.inl rfl) (y_q x_t rfl T.list PyProof.Rows.boot_list (z_a (pv 5) z_e)))
  (z_d (y_x (PW.pt (o_v (z_r w_e (z_k z_z (z_o z_m (pv 1) z_b (fun _ _=>rfl)) z_b) z_b (nomark _)) (s_z (z_r q_e (z_q y_d rfl T.len PySem.boot_len (z_a (pv 7) z_e)) z_b (nomark _))))) (z_j (w_a (t_a PySem.F.plainAttrs_list PySem.F.slot_list_pop PySem.F.type_list_pop mt_popAt (pv 7) (z_a (z_k z_z (z_o z_m (pv 1) z_b (fun _ _=>rfl)) (z_q y_d rfl T.len PySem.boot_len (z_a (pv 7) z_e))) z_e)))) z_y)
  (z_d (y_x (z_r w_e (z_k z_z (z_o z_m (pv 1) z_b (fun _ _=>rfl)) z_b) z_b (nomark _)) (z_j (t_x (z_k w_o (z_o z_m (pv 7) (z_k z_z (z_o z_m (pv 1) z_b (fun _ _=>rfl)) (z_q y_d rfl T.len PySem.boot_len (z_a (pv 7) z_e))) (fun _ _=>rfl)) z_b) (k_n (pv 7) (z_k z_z (z_o z_m (pv 1) z_b (fun _ _=>rfl)) (z_q y_d rfl T.len PySem.boot_len (z_a (pv 7) z_e))) r_b))) z_y)
  (z_d (t_x (y_c G_L_tree (hr.mono (by first | decide | lia)) rfl T.M_L_tree T.F_L_tree.kp T.B_L_tree .nil pass0 (z_a (pv 2) (z_a (pv 7) (z_a v_x z_e)))) (o_t rfl (x_u (y_i (i:=2) sc_law.nd rfl (Or.inr rfl)) (x_u (y_i (i:=8) sc_law.nd rfl (Or.inl rfl)) s_v))))
  (z_d (z_t (i:=9) sc_law.nd rfl (Or.inl rfl) (z_k y_p z_b (z_k y_g (z_k y_g z_b (z_o y_a (pv 2) z_b (fun _ _=>rfl))) (z_q y_d rfl T.len PySem.boot_len (z_a (z_o y_a (pv 2) z_b (fun _ _=>rfl)) z_e)))))
  (z_d (z_t (i:=10) sc_law.nd rfl (Or.inr rfl) (pe_make T.mk_Classes G_Classes_init (hr.mono (by first | decide | lia)) rfl T.M_Classes T.B_Classes_init .nil pass0 (z_a (z_k y_o (pv 9) z_b) z_e)))
  (z_d (z_t (i:=11) sc_law.nd rfl (Or.inr rfl) (y_q (s_j rfl) rfl T.list PyProof.Rows.boot_list (z_a (y_q q_y rfl T.range PyProof.Rows.boot_range (z_a (pv 9) z_e)) z_e)))
  (z_d (w_s PassesOwn.never rfl (y_w rfl T.range (z_a (z_k z_z (z_o z_m (pv 1) z_b (fun _ _=>rfl)) z_b) z_e)) (y_i (i:=12) sc_law.nd rfl (Or.inl rfl))
    (z_j (y_x (x_m (x_z (pv 10) T.cl_Classes T.me_Classes_join G_Classes_join (hr.mono (by first | decide | lia)) T.B_Classes_join .nil pass0 (z_a (z_k z_z (z_o z_m (pv 3) (z_k y_g z_b (z_k y_p z_b (pv 12))) (fun _ _=>rfl)) (pv 9)) (z_a (z_k z_z (z_o z_m (pv 3) (z_k y_g z_b (z_k y_p z_b (pv 12))) (fun _ _=>rfl)) (pv 9)) z_e))) (fun _=>rfl)) (z_j (z_t (i:=11) sc_law.nd rfl (Or.inr rfl) (y_c G_L_joined (hr.mono (by first | decide | lia)) rfl T.M_L_joined T.F_L_joined.kp T.B_L_joined .nil pass0 (z_a (pv 11) (z_a (z_k z_z (z_o z_m (pv 3) (z_k y_g z_b (z_k y_p z_b (pv 12))) (fun _ _=>rfl)) (pv 9)) (z_a (z_k z_z (z_o z_m (pv 3) (z_k y_g z_b (z_k y_p z_b (pv 12))) (fun _ _=>rfl)) (pv 9)) z_e)))))) z_y)))
  (z_d (v_r [5] sc_law.nd (i:=13) rfl (Or.inl rfl) (fun _ _ h=>h) rfl (v_d (t_v rfl hu64 rfl T.sorted PyProof.Rows.boot_sorted rfl T.set PyProof.Rows.boot_set (z_a (pv 5) z_e))) (fun _ _ _ _=>(pts_one (PW.pt (o_v (z_r q_e (pv 0) z_b (nomark _)) (s_z (PW.pt (t_m (z_r (s_t (K:=K) rfl) (z_k w_o (pv 0) z_b) (pv 1) rfl) (v_v (z_r w_e (z_k z_z (pv 0) z_b) z_b (nomark _)))))))))) (fun _ _ _ _=>(pv 0)) rfl (show ∀ j∈([5]:List Nat),j<16 by decide) (show (["_law_end", "_law_ends"]:List Str).Nodup by decide +kernel) (by with_unfolding_all rfl))
  (z_d (w_s PassesOwn.never rfl (k_o rfl T.range (z_a z_b (z_a (z_q (r_m rfl) rfl T.max PyProof.Rows.boot_max (z_a z_b (z_a (z_q (r_n rfl) rfl T.min PyProof.Rows.boot_min (z_a (z_q y_d rfl T.len PySem.boot_len (z_a (pv 0) z_e)) (z_a z_b z_e))) z_e))) z_e))) (y_i (i:=12) sc_law.nd rfl (Or.inl rfl))
    (z_d (z_t (i:=14) sc_law.nd rfl (Or.inl rfl) (y_c G_L_step (hr.mono (by first | decide | lia)) rfl T.M_L_step T.F_L_step.kp T.B_L_step .nil pass0 (z_a (pv 2) (z_a (y_c G_L_row (hr.mono (by first | decide | lia)) rfl T.M_L_row T.F_L_row.kp T.B_L_row .nil pass0 (z_a (pv 0) (z_a (pv 12) (z_a z_b z_e)))) (z_a (w_g (z_a (pv 6) (z_a (pv 8) z_e))) (z_a (pv 13) z_e))))))
  (z_d (z_t (i:=15) sc_law.nd rfl (Or.inl rfl) (y_c G_is_good (hr.mono (by first | decide | lia)) rfl T.M_is_good T.F_is_good.kp T.B_is_good .nil pass0 (z_a (pv 2) (z_a (pv 10) (z_a (pv 14) z_e)))))
  (z_j (y_x (PW.pt (t_m (t_y (x_m (z_q (x_f (T := "bool")) rfl T.isinstance PyProof.Rows.boot_isinstance (z_a (pv 15) (z_a (v_p (v:=.ty "bool") rfl T.bool PyProof.Rows.boot_bool rfl) z_e))) (fun _=>rfl))) (v_v (z_r op_ne (pv 15) (y_c G_L_due (hr.mono (by first | decide | lia)) rfl T.M_L_due T.F_L_due.kp T.B_L_due .nil pass0 (z_a (pv 2) (z_a (pv 11) (z_a (pv 14) z_e)))) (nomark _))))) (z_j (z_w v_x)) z_y)))))
  (z_j (z_w (x_y (u_y hu64) (v_b [10] (fun _ _ h=>h) rfl (y_w rfl T.range (z_a (pv 9) z_e)) (fun _ _ _ _=>x_j) (fun _ _ _ _=>(x_z (pv 1) T.cl_Classes T.me_Classes_least G_Classes_least (hr.mono (by first | decide | lia)) T.B_Classes_least .nil pass0 (z_a (pv 0) z_e))) rfl (show ∀ j∈([10]:List Nat),j<16 by decide) (show (["_law_end", "_law_some"]:List Str).Nodup by decide +kernel)) (v_b [11] (fun _ _ h=>h) rfl (v_d (pv 11)) (fun _ _ _ _=>x_j) (fun _ _ _ _=>(pe_bmK (K:=K) rfl PySem.F.plainAttrs_list PySem.F.slot_list_index PySem.F.type_list_index mt_index (pv 1) (z_a (pv 0) z_e))) rfl (show ∀ j∈([11]:List Nat),j<16 by decide) (show (["_law_label", "_law_labels"]:List Str).Nodup by decide +kernel)) (nomark _)))))))))))))))))))),?_⟩
 have hl:(ns.map V.int).length=ns.length:=List.length_map _
 refine ⟨_,rfl,a,ns,_,_,rfl,hS,h63,by decide,by decide,by decide,fun z zs H1 hz s1 fz hzl hzd=>?_⟩
 obtain ⟨z2,ez2,z20,_⟩:=hzd.at (show (0:Int)<=2 by decide) (by lia)
 obtain ⟨z3,ez3,z30,_⟩:=hzd.at (show (0:Int)<=3 by decide) (by lia)
 obtain ⟨z4,ez4,z40,_⟩:=hzd.at (show (0:Int)<=4 by decide) (by lia)
 obtain ⟨z5,ez5,z50,_⟩:=hzd.at (show (0:Int)<=5 by decide) (by lia)
 refine ⟨_,rfl,a,ns,_,_,rfl,s1.seq hS,h63,by decide,by decide,by decide,fun r1 rw1 H2 hr1 s2 fr1 hrl1 hrd1=>⟨_,rfl,r1,z,rw1,zs,rfl,fr1,by lia,hrd1,s2 _ _ fz,by lia,hzd,fun n0 g0 rs0 L gs0 H3 s3 hN0 hL4 h10 hG0=>?_⟩⟩
 have s03:=s1.trans (s2.trans s3)
 have fz3:=(s2.trans s3) _ _ fz
 refine ⟨_,rfl,a,ns,_,_,rfl,s03.seq hS,h63,by decide,by decide,by decide,fun r rws H4 hr s4 fr hrl hrd=>?_⟩
 have s04:=s03.trans s4
 have fz4:=s4 _ _ fz3
 have hN4:=hN0.same s4
 clear s1 s2 s3 s4 s03 fz3 fz hz hr1 fr1 hrd1 hr hN0
 obtain ⟨W,hW,W2,W32⟩:∃ W:Nat,2+z2%7+24*(if decide (V.int (z2/7%8)=V.int 5)=true then (1:Int) else 0)=(W:Int)/\2<=W/\W<=32:=by
  split
  ·exact ⟨(2+z2%7+24*1).toNat,by lia,by lia,by lia⟩
  ·exact ⟨(2+z2%7+24*0).toNat,by lia,by lia,by lia⟩
 refine ⟨_,rfl,z,_,_,_,rfl,rfl,SqL.of fz4,ez2,_,_,rfl,rfl,(by show (0:Int)<7;decide),_,_,rfl,rfl,_,rfl,z,_,_,_,rfl,rfl,SqL.of fz4,ez2,_,_,rfl,rfl,⟨by decide,by decide⟩,_,_,rfl,rfl,(by show (0:Int)<8;decide),rfl,.inr ⟨_,rfl,_,_,rfl,rfl,.inl ⟨by decide,by decide⟩,_,_,rfl,rfl,?_⟩⟩
 dsimp only [gName]
 rw [hW]
 have hlg0:=hN4.g.lenS
 obtain ⟨m0,hm0⟩:∃ m0,m0=1+L+gs0.length:=⟨_,rfl⟩
 have en0:2*(1+(L:Int)+(((rs0.map V.ref).length:Nat):Int))=((2*m0:Nat):Int):=by rw [List.length_map];lia
 refine ⟨_,rfl,_,rfl,by lia,by lia,x_n (lo:=0) (fun i ys J=>H4=J/\∃ ls:List Nat,ys=z_h ls/\ls.length=i/\∀ e∈ls,e<2*m0) ⟨rfl,[],rfl,rfl,(fun _ h=>nomatch h)⟩ ?_ ?_ ?_⟩
 ·rintro i ys J hi ⟨_,ls,rfl,h,_⟩
  rw [z_i]
  exact y_l (by lia)
 ·rintro i ys J hi ⟨rfl,hys⟩
  obtain ⟨v,ev,_,_⟩:=hrd.at (i:=0+(i:Int)) (by lia) (by lia)
  obtain ⟨c,ec,lc⟩:=modN v (m:=2*m0) (by lia)
  unfold tYes
  refine iteT ⟨_,rfl,_,rfl,r,_,_,_,rfl,rfl,SqL.of fr,ev,_,rfl,n0,_,_,_,rfl,rfl,SqT.of hN4.p,rfl,_,_,rfl,rfl,_,rfl,n0,_,_,_,rfl,rfl,SqT.of hN4.p,rfl,_,_,rfl,.inl ⟨_,SqL.of hN4.g.1,rfl⟩,_,_,rfl,rfl,_,_,rfl,rfl,.inl ⟨by decide,by decide⟩,_,_,rfl,rfl,(by rw [en0];lia),rfl,?_⟩
  dsimp only
  rw [en0,ec]
  exact u_u hys lc
 rintro ys J ⟨rfl,es,rfl,hel,hes⟩ pe hpe
 have hel:es.length=W:=by lia
 have t5:=z_f hpe (.lst (z_h es))
 have fe5:=z_c (H:=H4) (a:=pe) (o:=.lst (z_h es))
 dsimp only [gName]
 generalize upd H4 pe (.lst (z_h es))=H5 at t5 fe5 ⊢
 refine ⟨_,rfl,_,rfl,n0,g0,pe,rs0,L,gs0,es,true,rfl,hN4.same t5,hG0,fe5,by lia,by lia,fun e he=>by rw [<-hm0];exact hes e he,by lia,fun t1 n1 g1 rs1 gs1 top1 H6 s6 ft1 hN1 hG1 hl1 ht1=>?_⟩
 refine ⟨t1,_,rfl,SqT.of ft1,rfl,_,_,rfl,_,_,rfl,rfl,?_⟩
 have s46:=t5.trans s6
 have fe6:=s6 _ _ fe5
 have fz6:=s46 _ _ fz4
 have s06:=s04.trans s46
 have fr6:=s46 _ _ fr
 refine ⟨_,rfl,pe,_,rfl,.inl (SqL.of fe6),fun pq hpq=>?_⟩
 dsimp only [gName]
 refine v_s (fun σ J=>∃ es2:List Nat,σ=[some (.ref a),some (.ref z),some (.ref n1),some (.ref r),some (.int (W:Int)),some (.ref pe),some (.int (top1:Int)),some (.ref pq),none,none,none,none,none,none,none,none]/\Same H6 J/\J pq=some (.lst (z_h es2))/\2<=es2.length/\es2.length<=32/\∀ e∈es2,e<2*m0) (fun D hD=>?_) ?_
 ·have t7:=z_f hpq (.lst (z_h es))
  have f7:=z_c (H:=H6) (a:=pq) (o:=.lst (z_h es))
  refine ⟨_,rfl,z,_,_,_,rfl,rfl,SqL.of (t7 _ _ fz6),ez3,_,_,rfl,rfl,(by show (0:Int)<4;decide),rfl,_,rfl,?_⟩
  refine ite2 (fun _=>?_) (fun _=>iteF (hD _ _ ⟨es,rfl,t7,f7,by lia,by lia,hes⟩))
  refine ⟨_,rfl,_,_,rfl,.inl ⟨_,SqL.of f7,rfl⟩,_,_,rfl,rfl,_,rfl,?_⟩
  refine ite2 (fun c=>?_) (fun _=>hD _ _ ⟨es,rfl,t7,f7,by lia,by lia,hes⟩)
  have c:=of_decide_eq_true c
  rw [z_i] at c
  obtain ⟨k,ek,hk⟩:=modN z4 (m:=es.length) (by lia)
  refine ⟨_,rfl,.inl ⟨rfl,_,SqL.of f7⟩,_,rfl,z,_,_,_,rfl,rfl,SqL.of (t7 _ _ fz6),ez4,_,rfl,_,_,rfl,.inl ⟨_,SqL.of f7,rfl⟩,_,_,rfl,rfl,(by rw [z_i];lia),pq,z_h es,(k:Int),k,.int (es.getD k 0:Nat),rfl,(by dsimp only;rw [z_i,ek]),f7,by lia,by lia,by rw [z_i];exact (p_f (ix_nat hk)).1,?_,?_⟩
  ·unfold z_h
   rw [List.getElem?_map,List.getD_eq_getElem?_getD,List.getElem?_eq_getElem hk]
   rfl
  rw [t_s]
  refine hD _ _ ⟨es.eraseIdx k,rfl,x_s t7 hpq _,z_c,by rw [List.length_eraseIdx_of_lt hk];lia,by rw [List.length_eraseIdx_of_lt hk];lia,fun e he=>hes e (List.mem_of_mem_eraseIdx he)⟩
 rintro σ J ⟨es1,rfl,s7,f7,l2,l32,hes1⟩
 refine v_s (fun σ J=>∃ es2:List Nat,σ=[some (.ref a),some (.ref z),some (.ref n1),some (.ref r),some (.int (W:Int)),some (.ref pe),some (.int (top1:Int)),some (.ref pq),none,none,none,none,none,none,none,none]/\Same H6 J/\J pq=some (.lst (z_h es2))/\2<=es2.length/\es2.length<=32/\∀ e∈es2,e<2*m0) (fun D hD=>?_) ?_
 ·refine ⟨_,rfl,z,_,_,_,rfl,rfl,SqL.of (s7 _ _ fz6),ez3,_,_,rfl,rfl,(by show (0:Int)<4;decide),rfl,_,rfl,?_⟩
  refine ite2 (fun _=>?_) (fun _=>hD _ _ ⟨es1,rfl,s7,f7,l2,l32,hes1⟩)
  obtain ⟨k,ek,hk⟩:=modN z4 (m:=es1.length) (by lia)
  have hxk:=hes1 (es1.getD k 0) (List.mem_of_getElem? (i:=k) (by rw [List.getD_eq_getElem?_getD,List.getElem?_eq_getElem hk];rfl))
  have hxc:=y_u (es1.getD k 0)
  refine ⟨_,rfl,_,rfl,z,_,_,_,rfl,rfl,SqL.of (s7 _ _ fz6),ez4,_,rfl,_,_,rfl,.inl ⟨_,SqL.of f7,rfl⟩,_,_,rfl,rfl,(by rw [z_i];lia),pq,_,_,_,rfl,rfl,SqL.of f7,(by rw [z_i,ek];exact y_n hk),_,_,rfl,rfl,?_⟩
  refine ⟨_,rfl,_,rfl,z,_,_,_,rfl,rfl,SqL.of (s7 _ _ fz6),ez4,_,rfl,_,_,rfl,.inl ⟨_,SqL.of f7,rfl⟩,_,_,rfl,rfl,(by rw [z_i];lia),pq,z_h es1,(k:Int),k,rfl,(by dsimp only;rw [z_i,ek]),f7,by rw [z_i];exact ix_nat hk,?_⟩
  have x1:Builtin.bitXor ((es1.getD k 0:Nat):Int) 1=((es1.getD k 0^^^1:Nat):Int):=w_b _ 1
  dsimp only
  rw [x1,nats_set]
  refine hD _ _ ⟨es1.set k (es1.getD k 0^^^1),rfl,x_s s7 hpq _,z_c,by rw [List.length_set];exact l2,by rw [List.length_set];exact l32,fun e he=>?_⟩
  rcases List.mem_or_eq_of_mem_set he with h | h
  ·exact hes1 e h
  ·rw [h];lia
 clear f7 l2 l32 hes1 s7
 rintro σ J ⟨es1,rfl,s7,f7,l2,l32,hes1⟩
 refine ⟨_,rfl,_,rfl,n1,g1,pq,rs1,L,gs1,es1,false,rfl,hN1.same s7,hG1,f7,by lia,l32,fun e he=>by have:=hes1 e he;lia,by lia,fun t2 net g rs gs top2 H9 s9 ft2 hN hG hl2 ht2=>?_⟩
 refine ⟨t2,_,rfl,SqT.of ft2,rfl,_,_,rfl,_,_,rfl,rfl,?_⟩
 have s69:=s7.trans s9
 have s09:=s06.trans s69
 have fz9:=s69 _ _ fz6
 have fr9:=s69 _ _ fr6
 have fe9:=s69 _ _ fe6
 have hS9:=s09.seq hS
 have hP9:=s09 _ _ hP2
 clear f7 hpq s7 s9 ft1 ft2 s46 s06 t5 s6 fe6 fz6 fr6 fe5 hpe fr fz4 hN4 s04 hN1 s69
 obtain ⟨n,hn⟩:∃ n,n=1+L+gs.length:=⟨_,rfl⟩
 have hlg:=hN.g.lenS
 have en:2*(1+(L:Int)+(((rs.map V.ref).length:Nat):Int))=((2*n:Nat):Int):=by rw [List.length_map];lia
 have pos:(0:Int)<((2*n:Nat):Int):=by lia
 refine ⟨_,rfl,net,_,_,_,rfl,rfl,SqT.of hN.p,rfl,_,_,rfl,rfl,_,rfl,net,_,_,_,rfl,rfl,SqT.of hN.p,rfl,_,_,rfl,.inl ⟨_,SqL.of hN.g.1,rfl⟩,_,_,rfl,rfl,_,_,rfl,rfl,.inl ⟨by decide,by decide⟩,?_⟩
 dsimp only [gName]
 rw [en]
 refine ⟨_,rfl,_,_,rfl,rfl,⟨by decide,by decide⟩,fun o dx ho hdx _=>⟨o,dx,n,by dsimp only;rw [show ((2*n:Nat):Int)/2=(n:Int) by lia];rfl,z_c,by lia,fun l HA hl0 ch0 hC0=>⟨rfl,?_⟩⟩⟩
 have sA:=l_x ho hdx ch0
 have fl0:=l_w hl0
 clear ch0 hl0 ho hdx
 have eN:((List.range ((2*n:Nat):Int).toNat).map fun i=>V.int (i:Nat))=z_h (List.range (2*n)):=by
  rw [Int.toNat_natCast]
  rfl
 dsimp only [gName]
 refine ⟨_,rfl,_,rfl,fun pa hpa=>⟨pa,_,rfl,z_c,by lia,by lia,fun p0 hp0=>?_⟩⟩
 rw [eN]
 have tB:=(z_f hpa (.rng 0 ((2*n:Nat):Int))).trans (z_f hp0 (.lst (z_h (List.range (2*n)))))
 have f0:=z_c (H:=upd HA pa (.rng 0 ((2*n:Nat):Int))) (a:=p0) (o:=.lst (z_h (List.range (2*n))))
 have np0:HA p0=none:=(z_f hpa (.rng 0 ((2*n:Nat):Int))).free hp0
 dsimp only [gName]
 generalize upd (upd HA pa (.rng 0 ((2*n:Nat):Int))) p0 (.lst (z_h (List.range (2*n))))=HB at tB f0 ⊢
 obtain ⟨_,LL0,hLL0,_,_⟩:=id hC0
 have np0l:p0≠l:=(z_g hLL0 np0).symm
 have s9B:=sA.trans tB
 have hCB:=hC0.same tB
 clear np0 hLL0 hpa hp0 hC0 tB sA
 have lH9:∀ {b:Addr} {x:HO},H9 b=some x->b≠l:=fun e=>z_g e fl0
 refine v_s (fun σ J=>∃ (pl:Addr) (Ls:List Nat) (R:Nat->Nat) (x12:Option V),σ=[some (.ref a),some (.ref z),some (.ref net),some (.ref r),some (.int (W:Int)),some (.ref pe),some (.int (top1:Int)),some (.ref pq),some (.int (top2:Int)),some (.int ((2*n:Nat):Int)),some (.ref o),some (.ref pl),x12,none,none,none]/\Ch l HB J/\ClsAt A.c_Classes J o l n R/\J pl=some (.lst (z_h Ls))/\pl≠l/\Lb n Ls R) (fun D hD=>?_) ?_
 ·refine ⟨_,rfl,z,_,_,_,rfl,rfl,SqL.of (s9B _ _ fz9),ez5,_,_,rfl,rfl,(by show (0:Int)<5;decide),_,rfl,by lia,by lia,w_c (lo:=0) (fun i σ J=>∃ (pl:Addr) (Ls:List Nat) (R:Nat->Nat) (x12:Option V),σ=[some (.ref a),some (.ref z),some (.ref net),some (.ref r),some (.int (W:Int)),some (.ref pe),some (.int (top1:Int)),some (.ref pq),some (.int (top2:Int)),some (.int ((2*n:Nat):Int)),some (.ref o),some (.ref pl),x12,none,none,none]/\Ch l HB J/\ClsAt A.c_Classes J o l n R/\J pl=some (.lst (z_h Ls))/\pl≠l/\Lb n Ls R) ⟨p0,_,id,_,rfl,Ch.refl,hCB,f0,np0l,Lb.start n⟩ ?_ (fun σ J h=>hD σ J h)⟩
  rintro i σ J hi ⟨pl,Ls,R,x12,rfl,cJ,CJ,fpl,npl,hLb⟩
  obtain ⟨v1,hv1,_,_⟩:=hrd.at (show (0:Int)<=40+2*(0+(i:Int)) by lia) (by lia)
  obtain ⟨v2,hv2,_,_⟩:=hrd.at (show (0:Int)<=41+2*(0+(i:Int)) by lia) (by lia)
  obtain ⟨e1,he1,l1⟩:=modN v1 (m:=2*n) (by lia)
  obtain ⟨e2,he2,l2⟩:=modN v2 (m:=2*n) (by lia)
  have frJ:=Ch.same fl0 s9B cJ _ _ fr9
  obtain ⟨dx1,ho1⟩:=CJ.1
  obtain ⟨_,LL,_,u,_⟩:=id CJ
  have d1:=y_u e1
  have d2:=y_u e2
  have hLl:=hLb.1
  have hno:=Lb.none u hLb l1 l2
  have hjl:=Lb.jl u hLb l1 l2
  refine ⟨_,rfl,o,dx1,_,rfl,ho1,t_l (by decide),_,rfl,_,rfl,_,_,rfl,rfl,.inl ⟨by decide,by decide⟩,_,_,rfl,rfl,r,_,_,_,rfl,rfl,SqL.of frJ,hv1,_,rfl,_,_,rfl,rfl,pos,_,rfl,_,rfl,_,_,rfl,rfl,.inl ⟨by decide,by decide⟩,_,_,rfl,rfl,r,_,_,_,rfl,rfl,SqL.of frJ,hv2,_,rfl,_,_,rfl,rfl,pos,o,l,n,R,e1,e2,(by dsimp only;rw [he1,he2];rfl),CJ,by lia,by lia,?_⟩
  by_cases c1:R e1=R e2
  ·have hne:R e1≠R e2^^^1:=fun h=>n_o (R e2) (h.symm.trans c1)
   refine .inl ⟨c1,fun J2 ch2 C2=>⟨_,rfl,iteT ?_⟩⟩
   have hLb':=(hjl hne).1 c1
   have fpl2:=ch2 _ _ npl fpl
   have frJ:=ch2 _ _ (lH9 fr9) frJ
   refine ⟨_,rfl,_,rfl,_,rfl,_,_,rfl,rfl,.inl ⟨by decide,by decide⟩,_,_,rfl,rfl,r,_,_,_,rfl,rfl,SqL.of frJ,hv1,_,rfl,_,_,rfl,rfl,pos,_,rfl,_,rfl,_,_,rfl,rfl,.inl ⟨by decide,by decide⟩,_,_,rfl,rfl,r,_,_,_,rfl,rfl,SqL.of frJ,hv2,_,rfl,_,_,rfl,rfl,pos,pl,Ls,e1,e2,(by dsimp only;rw [he1,he2];rfl),fpl2,by lia,by lia,by lia,by lia,by lia,fun hc=>absurd (hno.mp hc) hne,fun hc w J3 hw s3 fw=>?_⟩
   obtain ⟨⟨L2,hL2⟩,_⟩:=C2.lst
   exact ⟨w,_,_,_,rfl,(cJ.trans ch2).trans s3.ch,C2.same s3,fw,(z_g hL2 hw).symm,hLb'⟩
  ·by_cases c2:R e1=R e2^^^1
   ·exact .inr (.inl ⟨c2,fun J2 ch2 C2=>⟨_,rfl,iteF ⟨pl,Ls,R,_,rfl,cJ.trans ch2,C2,ch2 _ _ npl fpl,npl,hLb⟩⟩⟩)
   ·refine .inr (.inr ⟨c1,c2,fun J2 ch2 C2=>⟨_,rfl,iteT ?_⟩⟩)
    have hne:=c2
    have hLb':=(hjl c2).2 c1
    have fpl2:=ch2 _ _ npl fpl
    have frJ:=ch2 _ _ (lH9 fr9) frJ
    refine ⟨_,rfl,_,rfl,_,rfl,_,_,rfl,rfl,.inl ⟨by decide,by decide⟩,_,_,rfl,rfl,r,_,_,_,rfl,rfl,SqL.of frJ,hv1,_,rfl,_,_,rfl,rfl,pos,_,rfl,_,rfl,_,_,rfl,rfl,.inl ⟨by decide,by decide⟩,_,_,rfl,rfl,r,_,_,_,rfl,rfl,SqL.of frJ,hv2,_,rfl,_,_,rfl,rfl,pos,pl,Ls,e1,e2,(by dsimp only;rw [he1,he2];rfl),fpl2,by lia,by lia,by lia,by lia,by lia,fun hc=>absurd (hno.mp hc) hne,fun hc w J3 hw s3 fw=>?_⟩
    obtain ⟨⟨L2,hL2⟩,_⟩:=C2.lst
    exact ⟨w,_,_,_,rfl,(cJ.trans ch2).trans s3.ch,C2.same s3,fw,(z_g hL2 hw).symm,hLb'⟩
 rintro σ J ⟨pl,Ls,R,x12,rfl,cJ,CJ,fpl,npl,hLb⟩
 have sJ:=Ch.same fl0 s9B cJ
 have feJ:=sJ _ _ fe9
 have feJ':J pe=some (.lst ((es.map (fun e:Nat=>(e:Int))).map V.int)):=by rw [<-w_d];exact feJ
 refine ⟨_,rfl,pe,es.map (fun e:Nat=>(e:Int)),rfl,feJ',by rw [List.length_map];lia,fun c ob hc ps js hps _ up mem=>?_⟩
 have jl:js.length<=32:=Nat.le_trans (inc_len up fun k hk=>(mem k).mp hk) (by lia)
 have t1:=(z_f hc ob).trans (z_f hps (.lst (js.map V.int)))
 have fps:=z_c (H:=upd J c ob) (a:=ps) (o:=.lst (js.map V.int))
 generalize upd (upd J c ob) ps (.lst (js.map V.int))=J1 at t1 fps ⊢
 have fe1:=t1 _ _ feJ
 refine ⟨ps,rfl,⟨_,SqL.of fps⟩,u_k (xs:=js.map V.int) (fun i ys J'=>J1=J'/\∃ lv:List Nat,ys=z_h lv/\lv.length<=i/\∀ e∈lv,e<2*n) ⟨rfl,[],rfl,Nat.le_refl _,(fun _ h=>nomatch h)⟩ ?_ ?_ ?_ ?_⟩
 ·rintro i ys J' _ ⟨rfl,_⟩
  exact SqL.of fps
 ·rintro i ys J' hi ⟨_,lv,rfl,h,_⟩
  rw [List.length_map] at hi
  rw [z_i]
  exact y_l (by lia)
 ·rintro i v ys J' hv ⟨rfl,lv,rfl,h,hlv⟩
  rw [List.getElem?_map] at hv
  obtain ⟨y,hy,rfl⟩:=Option.map_eq_some_iff.mp hv
  obtain ⟨x,hx,rfl⟩:=List.mem_map.mp ((mem y).mp (List.mem_of_getElem? hy))
  have hx2:=hes x hx
  have keep:J1=J1/\∃ lv':List Nat,z_h lv=z_h lv'/\lv'.length<=i+1/\∀ e∈lv',e<2*n:=⟨rfl,lv,rfl,by lia,hlv⟩
  have take:J1=J1/\∃ lv':List Nat,z_h lv++[V.int (x:Int)]=z_h lv'/\lv'.length<=i+1/\∀ e∈lv',e<2*n:=⟨rfl,lv++[x],(y_t _ _).symm,by rw [List.length_append];show _+1<=_;lia,fun e he=>by
   rcases List.mem_append.mp he with he | he
   ·exact hlv e he
   ·rw [List.mem_singleton.mp he];lia⟩
  refine ⟨_,rfl,_,_,rfl,rfl,_,rfl,?_⟩
  refine ite2 (fun _=>?_) (fun _=>iteF keep)
  refine ⟨_,rfl,_,_,rfl,rfl,_,rfl,pe,_,rfl,.inl (SqL.of fe1),rfl,v_g _,_,rfl,?_⟩
  refine ite2 (fun _=>iteT ⟨_,rfl,take⟩) (fun _=>?_)
  refine ⟨_,rfl,_,_,rfl,rfl,(by show (0:Int)<2;decide),rfl,_,rfl,?_⟩
  exact ite2 (fun _=>⟨_,rfl,take⟩) (fun _=>keep)
 rintro ys J' ⟨rfl,lv,rfl,hlv32,hlv⟩ pv hpv
 rw [List.length_map] at hlv32
 have t2:=z_f hpv (.lst (z_h lv))
 have fpv:=z_c (H:=J1) (a:=pv) (o:=.lst (z_h lv))
 dsimp only [gName]
 generalize upd J1 pv (.lst (z_h lv))=J2 at t2 fpv ⊢
 have sX:=sJ.trans (t1.trans t2)
 have CX:=(CJ.same t1).same t2
 have fplX:=(t1.trans t2) _ _ fpl
 obtain ⟨⟨LLX,hLLX⟩,_⟩:=CX.lst
 have npv:pv≠l:=by
  obtain ⟨⟨LL1,hLL1⟩,_⟩:=(CJ.same t1).lst
  exact (z_g hLL1 hpv).symm
 clear hpv hps hc feJ feJ' fe1 fps t1 t2 CJ fpl cJ sJ
 have hNX:=hN.same sX
 have ngl:=lH9 hN.g.1
 refine ⟨_,rfl,_,_,rfl,.inl ⟨_,sX.seq hS9,rfl⟩,_,_,rfl,_,_,rfl,_,_,rfl,⟨by decide,by decide,?_,?_⟩,w_c (lo:=3) (fun k σ J=>∃ (x12 x14 x15:Option V),σ=[some (.ref a),some (.ref z),some (.ref net),some (.ref r),some (.int (W:Int)),some (.ref pe),some (.int (top1:Int)),some (.ref pq),some (.int (top2:Int)),some (.int ((2*n:Nat):Int)),some (.ref o),some (.ref pl),x12,some (.ref pv),x14,x15]/\Ch l J2 J/\ClsAt A.c_Classes J o l n R) ⟨_,_,_,rfl,Ch.refl,CX⟩ ?_ ?_⟩
 ·rw [hl];split<;>split<;>lia
 ·rw [hl];split<;>split<;>lia
 ·rintro k σ J hk ⟨x12,x14,x15,rfl,cJ,CJ⟩
  have sJ:Same H9 J:=Ch.same fl0 sX cJ
  refine ⟨_,rfl,_,rfl,_,rfl,a,ns,_,_,rfl,sJ.seq hS9,h63,by lia,by decide,by decide,fun rr rws' J1 hrr s1 frr hrl' hrd'=>⟨_,rfl,_,rfl,zl2,fun tq htq=>?_⟩⟩
  have u1:=z_f htq (.tup [.int (top1:Int),.int (top2:Int)])
  have su:=s1.trans u1
  refine ⟨_,rfl,net,g,rr,tq,pv,rs,L,n,top1,top2,gs,rws',lv,rfl,hN.same (sJ.trans su),hn,by lia,by lia,u1 _ _ frr,by lia,hrd',z_c,by lia,by lia,su _ _ (cJ _ _ npv fpv),by lia,hlv,fun st lt a1 b1 ls J3 s3 fst flt la lb hls hl32=>?_⟩
  have s13:=su.trans s3
  have c3:=cJ.trans s13.ch
  have C3:=CJ.same s13
  have S3:StpG A.c_Classes J3 net g o l st lt rs L n a1 b1 gs R ls "row" := ⟨⟨hN.same (sJ.trans s13),hG,hn,C3,ngl⟩,fst,flt,la,lb,hls⟩
  clear s1 u1 su s3 s13 frr hrr hrd' htq fst flt
  dsimp only [gName]
  refine ⟨_,rfl,_,rfl,_,rfl,net,g,o,l,st,lt,rs,L,n,a1,b1,gs,R,ls,rfl,S3,by lia,Ch.same fl0 sX c3 _ _ hP9,fun J4 c4 C4=>?_⟩
  have c34:=c3.trans c4
  have S4:=S3.ch c4 C4
  refine ⟨_,rfl,_,_,true,rfl,TyOf.bl _,rfl,_,rfl,y_h (by decide) ?_⟩
  refine ⟨_,rfl,_,rfl,_,rfl,_,rfl,net,g,o,l,st,lt,pl,rs,L,n,a1,b1,gs,R,ls,Ls,rfl,S4,by lia,hl32,c34 _ _ npl fplX,hLb,fun J5 s5=>⟨rfl,_,rfl,y_h (by rw [decide_eq_true rfl];rfl) ?_⟩⟩
  exact ⟨_,_,_,rfl,c34.trans s5.ch,C4.same s5⟩
 rintro σ J ⟨x12,x14,x15,rfl,cJ,CJ⟩
 have fplJ:=cJ _ _ npl fplX
 obtain ⟨_,LLu,_,u,_⟩:=id CJ
 refine ⟨_,rfl,_,rfl,by lia,by lia,x_n (lo:=0) (fun i ys J'=>Ch l J J'/\ClsAt A.c_Classes J' o l n R/\ys=z_h ((List.range i).map R)) ⟨Ch.refl,CJ,rfl⟩ ?_ ?_ ?_⟩
 ·rintro i ys J' hi ⟨_,_,rfl⟩
  rw [z_i,List.length_map,List.length_range]
  exact y_l (by lia)
 ·rintro i ys J' hi ⟨c1,C1,rfl⟩
  obtain ⟨dx1,ho1⟩:=C1.1
  unfold tYes
  refine iteT ⟨_,rfl,o,dx1,_,rfl,ho1,t_l (by decide),_,rfl,o,l,n,R,i,by rw [Int.zero_add];rfl,C1,by lia,fun J2 ch2 C2=>⟨c1.trans ch2,C2,?_⟩⟩
  rw [List.range_succ,List.map_append,List.map_cons,List.map_nil,y_t]
 rintro ys J' ⟨c1,C1,rfl⟩ pA hpA
 have t1:=z_f hpA (.lst (z_h ((List.range ((2*n:Nat):Int).toNat).map R)))
 have fA:=z_c (H:=J') (a:=pA) (o:=.lst (z_h ((List.range ((2*n:Nat):Int).toNat).map R)))
 have fplA:=t1 _ _ (c1 _ _ npl fplJ)
 dsimp only [gName]
 generalize upd J' pA (.lst (z_h ((List.range ((2*n:Nat):Int).toNat).map R)))=JA at t1 fA fplA ⊢
 have hLl:=hLb.1
 have eL:(List.range ((2*n:Nat):Int).toNat).map R=(List.range Ls.length).map R:=by rw [show ((2*n:Nat):Int).toNat=Ls.length by lia]
 rw [eL] at fA
 refine ⟨_,rfl,pl,rfl,⟨_,SqL.of fplA⟩,u_k (xs:=z_h Ls) (fun i ys J'=>JA=J'/\ys=z_h ((List.range i).map R)) ⟨rfl,rfl⟩ ?_ ?_ ?_ ?_⟩
 ·rintro i ys J' _ ⟨rfl,_⟩
  exact SqL.of fplA
 ·rintro i ys J' hi ⟨_,rfl⟩
  rw [z_i] at hi
  rw [z_i,List.length_map,List.length_range]
  exact y_l (by lia)
 ·rintro i v ys J' hv ⟨rfl,rfl⟩
  obtain ⟨hi,rfl⟩:=x_b hv
  have hle:=u.le (e:=i) (by lia)
  have getE:∀ m,m<Ls.length->Ls[m]? = some (Ls.getD m 0):=fun m hm=>by rw [List.getD_eq_getElem?_getD,List.getElem?_eq_getElem hm];rfl
  unfold tYes
  refine iteT ⟨_,rfl,.inl ⟨rfl,_,SqL.of fplA⟩,_,rfl,pl,Ls,Ls.getD i 0,R i,rfl,rfl,fplA,by lia,?_,fun m hm he=>?_,rfl,?_⟩
  ·rw [getE _ (by lia),(hLb.2 (R i) i (by lia) (by lia)).mpr (u.rr (by lia))]
  ·have hmi:m<2*n:=by lia
   rw [getE m (by lia)] at he
   have h1:=(hLb.2 m i hmi (by lia)).mp (Option.some.inj he)
   have:=u.least (e:=i) (j:=m) (by lia) (by lia) h1
   lia
  ·rw [List.range_succ,List.map_append,List.map_cons,List.map_nil,y_t]
 rintro ys J' ⟨rfl,rfl⟩ pB hpB
 rw [z_i]
 have t2:=z_f hpB (.lst (z_h ((List.range Ls.length).map R)))
 have fB:=z_c (H:=JA) (a:=pB) (o:=.lst (z_h ((List.range Ls.length).map R)))
 have fA2:=t2 _ _ fA
 generalize upd JA pB (.lst (z_h ((List.range Ls.length).map R)))=JB at t2 fB fA2 ⊢
 rw [w_d] at fA2 fB
 exact rEqD.eq (.list (((List.range Ls.length).map R).map (fun k:Nat=>(k:Int)) |>.map PyData.int)) (RdD.lst (SqL.of fA2) (RdDs.ints _)) (RdD.lst (SqL.of fB) (RdDs.ints _)) ((Cmp.list (Cmp.ints _)).mono (show 1<=64 by decide)) (q _)
end
theorem all_ok{P:Program}{w:World}{K:PySem.W.Frag}{mg:Str->Option Value}{base:Heap}{A:Ad}(T:Tx w K mg A)(C_bits_of_both:LamAt mg base A.tc_bits_of_both A.tp_bits_of_both)(C_sets_of_both:LamAt mg base A.tc_sets_of_both A.tp_sets_of_both):FnOk P w K mg base CX0 6 A.a_law A.d_law ["_law_script"] (j_h K A.tp_bits_of_both y_j y_k A.tp_sets_of_both z_u z_s):=by
 have G_is_whole:=p_l (P:=P) (base:=base) T
 have G_is_between:=s_s (P:=P) (base:=base) T G_is_whole
 have G_all_stands:=no_fn (P:=P) (w:=w) (K:=K) (mg:=mg) (base:=base) (k:=1) (f:=A.a_all_stands) (fd:=A.d_all_stands) (ps:=["many"])
 have G_is_end:=k_h (P:=P) (base:=base) T G_is_between
 have G_Classes_least:=w_n (P:=P) (base:=base) T
 have G_is_step:=m_c (P:=P) (base:=base) T G_Classes_least G_is_end
 have G_bits_of_both:=no_fn (P:=P) (w:=w) (K:=K) (mg:=mg) (base:=base) (k:=1) (f:=A.a_bits_of_both) (fd:=A.d_bits_of_both) (ps:=["net", "classes", "step"])
 have G_below:=o_n (P:=P) (base:=base) T
 have G_found_of:=fun base':Heap=>p_k (P:=P) (base:=base') T (w_n (P:=P) (base:=base') T) (o_n (P:=P) (base:=base') T)
 have G_both_sets:=q_d (P:=P) (base:=base) T
 have G_sets_of_both:=u_x (P:=P) (base:=base) T C_sets_of_both G_found_of G_both_sets G_Classes_least
 have G_is_good:=m_b (P:=P) (base:=base) T G_is_step G_bits_of_both G_sets_of_both
 have G_both_bits:=no_fn (P:=P) (w:=w) (K:=K) (mg:=mg) (base:=base) (k:=1) (f:=A.a_both_bits) (fd:=A.d_both_bits) (ps:=["one", "other"])
 have G_Classes_init:=u_v (P:=P) (base:=base) T
 have G_Classes_alike:=no_fn (P:=P) (w:=w) (K:=K) (mg:=mg) (base:=base) (k:=1) (f:=A.a_Classes_alike) (fd:=A.d_Classes_alike) (ps:=["self", "one", "other"])
 have G_Classes_join:=u_w (P:=P) (base:=base) T G_Classes_least
 have G_L_row:=ok_L_row (P:=P) (base:=base) T
 have G_L_net:=ok_L_net (P:=P) (base:=base) T
 have G_L_joined:=p_j (P:=P) (base:=base) T
 have G_L_tree:=k_g (P:=P) (base:=base) T
 have G_L_come:=k_e (P:=P) (base:=base) T
 have G_L_both:=k_d (P:=P) (base:=base) T
 have G_L_due:=ok_L_due (P:=P) (base:=base) T G_L_come G_L_both
 have G_L_step:=k_f (P:=P) (base:=base) T
 exact ok_law T G_L_row G_L_net G_L_tree G_Classes_init G_Classes_join G_L_step G_is_good G_L_joined G_Classes_least G_L_due
theorem p_i{fd:FuncData}{ns:List Str}(h:∀ a0,bindArgs fd ⟨[a0],[]⟩=pure (ns.zip [a0])):∀ us:List Value,us.length=1->bindArgs fd ⟨us,[]⟩=pure (ns.zip us):=fun us hl=>by
 match us,hl with
 | [a0],_=>exact h a0
theorem w_r{fd:FuncData}{ns:List Str}(h:∀ a0 a1,bindArgs fd ⟨[a0,a1],[]⟩=pure (ns.zip [a0,a1])):∀ us:List Value,us.length=2->bindArgs fd ⟨us,[]⟩=pure (ns.zip us):=fun us hl=>by
 match us,hl with
 | [a0,a1],_=>exact h a0 a1
theorem x_q{fd:FuncData}{ns:List Str}(h:∀ a0 a1 a2,bindArgs fd ⟨[a0,a1,a2],[]⟩=pure (ns.zip [a0,a1,a2])):∀ us:List Value,us.length=3->bindArgs fd ⟨us,[]⟩=pure (ns.zip us):=fun us hl=>by
 match us,hl with
 | [a0,a1,a2],_=>exact h a0 a1 a2
theorem k_c{fd:FuncData}{ns:List Str}(h:∀ a0 a1 a2 a3,bindArgs fd ⟨[a0,a1,a2,a3],[]⟩=pure (ns.zip [a0,a1,a2,a3])):∀ us:List Value,us.length=4->bindArgs fd ⟨us,[]⟩=pure (ns.zip us):=fun us hl=>by
 match us,hl with
 | [a0,a1,a2,a3],_=>exact h a0 a1 a2 a3
theorem of_len6{fd:FuncData}{ns:List Str}(h:∀ a0 a1 a2 a3 a4 a5,bindArgs fd ⟨[a0,a1,a2,a3,a4,a5],[]⟩=pure (ns.zip [a0,a1,a2,a3,a4,a5])):∀ us:List Value,us.length=6->bindArgs fd ⟨us,[]⟩=pure (ns.zip us):=fun us hl=>by
 match us,hl with
 | [a0,a1,a2,a3,a4,a5],_=>exact h a0 a1 a2 a3 a4 a5
abbrev NI(K:PySem.W.Frag)(n:Str)(f:Addr):Prop:=nsIn K mainGlobals n=some (some (.ref f))
theorem all_mk{w:World}{K:PySem.W.Frag}{h:Heap}{mg:Str->Option Value}{fa:Addr}(X:K.In h)(G:h.Ns mainGlobals mg)(hfa:mg "law" = some (.ref fa))
  {f0 f1 f2 f3 f4 f5 f6 f7 f8 f9 f10 f11 f12 f13 f14 f15 f16 f17 f18 f19 f20 f21 f22 f23 f24:Addr} {d0 d1 d2 d3 d4 d5 d7 d9 d10 d11 d12 d13 d14 d15 d16 d17 d18 d19 d20 d21 d22 d23 d24:FuncData}
  {od6 an6 od8 an8:Option Addr} {sl6 sl8:Array (Option Value)} {oc6 kV6 dc6 pm6 cd6 ct6 oc8 kV8 dc8 pm8 cd8 ct8:Value}
  {C_Classes:Addr} (aC_Classes:nsIn K mainGlobals "Classes" = some (some (.ref C_Classes)))
  (a0:NI K "is_whole" f0) (F0:Fun K "is_whole" "is_whole" w_j f0 d0)
  (a1:NI K "is_between" f1) (F1:Fun K "is_between" "is_between" x_h f1 d1)
  (a2:NI K "all_stands" f2) (F2:Fun K "all_stands" "all_stands" x_v f2 d2)
  (a3:NI K "is_end" f3) (F3:Fun K "is_end" "is_end" v_n f3 d3)
  (a4:NI K "is_good" f4) (F4:Fun K "is_good" "is_good" w_t f4 d4)
  (a5:NI K "is_step" f5) (F5:Fun K "is_step" "is_step" w_u f5 d5)
  (a6:nsIn K mainGlobals "bits_of_both" = some (some (.ref f6))) (l6:K.lookup f6=some ⟨oc6,od6,.func (fnOf "bits_of_both" "bits_of_both" (x_x z_x) (x_i z_x) (z_p z_x) .none kV6 dc6 pm6 an6 cd6 ct6),sl6⟩) (c6:codeIn K cd6 "bits_of_both" = true) (k6:keepIn K (.ref f6)=true)
  (a7:NI K "both_bits" f7) (F7:Fun K "both_bits" "both_bits" w_l f7 d7)
  (a8:nsIn K mainGlobals "sets_of_both" = some (some (.ref f8))) (l8:K.lookup f8=some ⟨oc8,od8,.func (fnOf "sets_of_both" "sets_of_both" (x_x z_v) (x_i z_v) (z_p z_v) .none kV8 dc8 pm8 an8 cd8 ct8),sl8⟩) (c8:codeIn K cd8 "sets_of_both" = true) (k8:keepIn K (.ref f8)=true)
  (a9:NI K "both_sets" f9) (F9:Fun K "both_sets" "both_sets" x_r f9 d9)
  (a10:NI K "found_of" f10) (F10:Fun K "found_of" "found_of" w_i f10 d10)
  (a11:NI K "below" f11) (F11:Fun K "below" "below" t_f f11 d11)
  (a12:findIn K (.ref C_Classes) "__init__" = some (some (.ref f12))) (i12:isFn K (.ref f12)=true) (F12:Fun K "__init__" "Classes.__init__" y_y f12 d12)
  (a13:findIn K (.ref C_Classes) "least" = some (some (.ref f13))) (i13:isFn K (.ref f13)=true) (F13:Fun K "least" "Classes.least" y_r f13 d13)
  (a14:findIn K (.ref C_Classes) "alike" = some (some (.ref f14))) (i14:isFn K (.ref f14)=true) (F14:Fun K "alike" "Classes.alike" x_c f14 d14)
  (a15:findIn K (.ref C_Classes) "join" = some (some (.ref f15))) (i15:isFn K (.ref f15)=true) (F15:Fun K "join" "Classes.join" y_z f15 d15)
  (a16:NI K "_law_row" f16) (F16:Fun K "_law_row" "_law_row" t_e f16 d16)
  (a17:NI K "_law_net" f17) (F17:Fun K "_law_net" "_law_net" t_d f17 d17)
  (a18:NI K "_law_joined" f18) (F18:Fun K "_law_joined" "_law_joined" w_h f18 d18)
  (a19:NI K "_law_tree" f19) (F19:Fun K "_law_tree" "_law_tree" v_m f19 d19)
  (a20:NI K "_law_come" f20) (F20:Fun K "_law_come" "_law_come" v_k f20 d20)
  (a21:NI K "_law_both" f21) (F21:Fun K "_law_both" "_law_both" v_j f21 d21)
  (a22:NI K "_law_due" f22) (F22:Fun K "_law_due" "_law_due" t_c f22 d22)
  (a23:NI K "_law_step" f23) (F23:Fun K "_law_step" "_law_step" v_l f23 d23)
  (a24:NI K "law" f24) (F24:Fun K "law" "law" k_w f24 d24)
  (z0:nsIn K mainGlobals "abs" = some none)
  (z1:nsIn K mainGlobals "all" = some none)
  (z2:nsIn K mainGlobals "bool" = some none)
  (z3:nsIn K mainGlobals "int" = some none)
  (z4:nsIn K mainGlobals "isinstance" = some none)
  (z5:nsIn K mainGlobals "len" = some none)
  (z6:nsIn K mainGlobals "list" = some none)
  (z7:nsIn K mainGlobals "max" = some none)
  (z8:nsIn K mainGlobals "min" = some none)
  (z9:nsIn K mainGlobals "range" = some none)
  (z10:nsIn K mainGlobals "set" = some none)
  (z11:nsIn K mainGlobals "sorted" = some none)
  (z12:nsIn K mainGlobals "str" = some none)
  (z13:nsIn K mainGlobals "tuple" = some none)
  (pg_Classes:plainGet K C_Classes Str.empty=true) (hd_Classes:hasDictIn K C_Classes=true) (po_Classes:plainOver K C_Classes=true) (sa_Classes:findIn K (.ref C_Classes) "__setattr__" = some (some (.builtin "object.__setattr__"))) (mk_Classes:makesIn K C_Classes=true) (kc_Classes:keepIn K (.ref C_Classes)=true)
  (n_Classes_lesser:findIn K (.ref C_Classes) "lesser" = some none)
  {d_MOST_LEAVES:Addr} (g_MOST_LEAVES:nsIn K mainGlobals "MOST_LEAVES" = some (some (.ref d_MOST_LEAVES)))
  {es:Array DictEntry} {n_F:Nat} (l_MOST_LEAVES:K.lookup d_MOST_LEAVES=some ⟨.type "dict",none,.dict es n_F,#[]⟩) (kF:PySem.W.KeysLit w.params es.toList) (lo_F:(d_MOST_LEAVES == sysModules)=false) {h0 h1:Int} {t0 t1 u0 u1:Tok} (eF:es.toList=[⟨h0,.str "stands" t0,.int 6 u0⟩,⟨h1,.str "row" t1,.int 64 u1⟩])
  {t_LOW:Tok} (g_LOW:nsIn K mainGlobals "LOW" = some (some (.str "low" t_LOW)))
  {tc_bits_of_both tp_bits_of_both:Addr} {occ_bits_of_both:Value} {odc_bits_of_both:Option Addr} {vs_bits_of_both:Array Value} {slc_bits_of_both:Array (Option Value)} (ee_bits_of_both:cd6 = .ref tc_bits_of_both) (lc_bits_of_both:K.lookup tc_bits_of_both=some ⟨occ_bits_of_both,odc_bits_of_both,.fields vs_bits_of_both,slc_bits_of_both⟩) (vp_bits_of_both:vs_bits_of_both[11]? = some (.ref tp_bits_of_both))
  {tc_sets_of_both tp_sets_of_both:Addr} {occ_sets_of_both:Value} {odc_sets_of_both:Option Addr} {vs_sets_of_both:Array Value} {slc_sets_of_both:Array (Option Value)} (ee_sets_of_both:cd8 = .ref tc_sets_of_both) (lc_sets_of_both:K.lookup tc_sets_of_both=some ⟨occ_sets_of_both,odc_sets_of_both,.fields vs_sets_of_both,slc_sets_of_both⟩) (vp_sets_of_both:vs_sets_of_both[11]? = some (.ref tp_sets_of_both))
  (ndT:([tp_bits_of_both,tp_sets_of_both]:List Addr).Nodup)
  : ∃ A:Ad,A.a_law=fa/\(∀ (s:Shared) (v:Value),BindsTo s A.d_law ⟨[v],[]⟩ [("_law_script",v)])/\Tx w K mg A/\tabIn K "bits_of_both" = some (A.tc_bits_of_both,A.tp_bits_of_both)/\tabIn K "sets_of_both" = some (A.tc_sets_of_both,A.tp_sets_of_both)/\([A.tp_bits_of_both,A.tp_sets_of_both]:List Addr).Nodup:=by
 have e:=hfa.symm.trans (mg_of X G a24)
 cases e
 have F6:=fun_mk (st:=z_x) l6 c6 k6
 have F8:=fun_mk (st:=z_v) l8 c8 k8
 have hb:∀ (s:Shared) (v:Value),BindsTo s d24 ⟨[v],[]⟩ [("_law_script",v)]:=by
  obtain ⟨_,_,_,_,_,_,_,_,_,rfl,_,_⟩:=F24.ex
  exact fun s v=>.of_eq rfl
 subst ee_bits_of_both
 have tb_bits_of_both:tabIn K "bits_of_both" = some (tc_bits_of_both,tp_bits_of_both):=by
  unfold tabIn
  rw [a6]
  dsimp only
  rw [l6]
  dsimp only
  rw [lc_bits_of_both]
  dsimp only
  rw [vp_bits_of_both]
 subst ee_sets_of_both
 have tb_sets_of_both:tabIn K "sets_of_both" = some (tc_sets_of_both,tp_sets_of_both):=by
  unfold tabIn
  rw [a8]
  dsimp only
  rw [l8]
  dsimp only
  rw [lc_sets_of_both]
  dsimp only
  rw [vp_sets_of_both]
 refine ⟨⟨f0,d0,f1,d1,f2,d2,f3,d3,f4,d4,f5,d5,f6,fnOf "bits_of_both" "bits_of_both" (x_x z_x) (x_i z_x) (z_p z_x) .none kV6 dc6 pm6 an6 (.ref tc_bits_of_both) ct6,f7,d7,f8,fnOf "sets_of_both" "sets_of_both" (x_x z_v) (x_i z_v) (z_p z_v) .none kV8 dc8 pm8 an8 (.ref tc_sets_of_both) ct8,f9,d9,f10,d10,f11,d11,f12,d12,f13,d13,f14,d14,f15,d15,f16,d16,f17,d17,f18,d18,f19,d19,f20,d20,f21,d21,f22,d22,f23,d23,fa,d24,d_MOST_LEAVES,C_Classes,tc_bits_of_both,tp_bits_of_both,tc_sets_of_both,tp_sets_of_both⟩,rfl,hb,?_,tb_bits_of_both,tb_sets_of_both,ndT⟩
 exact ⟨mg_none_of X G z0,mg_none_of X G z1,mg_none_of X G z2,mg_none_of X G z3,mg_none_of X G z4,mg_none_of X G z5,mg_none_of X G z6,mg_none_of X G z7,mg_none_of X G z8,mg_none_of X G z9,mg_none_of X G z10,mg_none_of X G z11,mg_none_of X G z12,mg_none_of X G z13,mg_of X G g_MOST_LEAVES,⟨⟨es,n_F,l_MOST_LEAVES,kF,by rw [eF];exact .cons ⟨⟨_,rfl⟩,⟨_,rfl⟩⟩ (.cons ⟨⟨_,rfl⟩,⟨_,rfl⟩⟩ .nil)⟩,lo_F⟩,⟨_,mg_of X G g_LOW⟩,F0,F0.binds fun _ _ _ _ _ _ us hl=>p_i (fun _=>rfl) us hl,mg_of X G a0,F1,F1.binds fun _ _ _ _ _ _ us hl=>x_q (fun _ _ _=>rfl) us hl,mg_of X G a1,F2,F2.binds fun _ _ _ _ _ _ us hl=>p_i (fun _=>rfl) us hl,mg_of X G a2,F3,F3.binds fun _ _ _ _ _ _ us hl=>w_r (fun _ _=>rfl) us hl,mg_of X G a3,F4,F4.binds fun _ _ _ _ _ _ us hl=>x_q (fun _ _ _=>rfl) us hl,mg_of X G a4,F5,F5.binds fun _ _ _ _ _ _ us hl=>x_q (fun _ _ _=>rfl) us hl,mg_of X G a5,F6,F6.binds fun _ _ _ _ _ _ us hl=>x_q (fun _ _ _=>rfl) us hl,mg_of X G a6,F7,F7.binds fun _ _ _ _ _ _ us hl=>w_r (fun _ _=>rfl) us hl,mg_of X G a7,F8,F8.binds fun _ _ _ _ _ _ us hl=>x_q (fun _ _ _=>rfl) us hl,mg_of X G a8,F9,F9.binds fun _ _ _ _ _ _ us hl=>w_r (fun _ _=>rfl) us hl,mg_of X G a9,F10,F10.binds fun _ _ _ _ _ _ us hl=>of_len6 (fun _ _ _ _ _ _=>rfl) us hl,mg_of X G a10,F11,F11.binds fun _ _ _ _ _ _ us hl=>w_r (fun _ _=>rfl) us hl,mg_of X G a11,F12,F12.binds fun _ _ _ _ _ _ us hl=>w_r (fun _ _=>rfl) us hl,⟨mk_Classes,a12,i12,kc_Classes⟩,F13,F13.binds fun _ _ _ _ _ _ us hl=>w_r (fun _ _=>rfl) us hl,⟨a13,i13,F13.kp⟩,F14,F14.binds fun _ _ _ _ _ _ us hl=>x_q (fun _ _ _=>rfl) us hl,⟨a14,i14,F14.kp⟩,F15,F15.binds fun _ _ _ _ _ _ us hl=>x_q (fun _ _ _=>rfl) us hl,⟨a15,i15,F15.kp⟩,F16,F16.binds fun _ _ _ _ _ _ us hl=>x_q (fun _ _ _=>rfl) us hl,mg_of X G a16,F17,F17.binds fun _ _ _ _ _ _ us hl=>w_r (fun _ _=>rfl) us hl,mg_of X G a17,F18,F18.binds fun _ _ _ _ _ _ us hl=>x_q (fun _ _ _=>rfl) us hl,mg_of X G a18,F19,F19.binds fun _ _ _ _ _ _ us hl=>x_q (fun _ _ _=>rfl) us hl,mg_of X G a19,F20,F20.binds fun _ _ _ _ _ _ us hl=>k_c (fun _ _ _ _=>rfl) us hl,mg_of X G a20,F21,F21.binds fun _ _ _ _ _ _ us hl=>w_r (fun _ _=>rfl) us hl,mg_of X G a21,F22,F22.binds fun _ _ _ _ _ _ us hl=>x_q (fun _ _ _=>rfl) us hl,mg_of X G a22,F23,F23.binds fun _ _ _ _ _ _ us hl=>k_c (fun _ _ _ _=>rfl) us hl,mg_of X G a23,F24,F24.binds fun _ _ _ _ _ _ us hl=>p_i (fun _=>rfl) us hl,mg_of X G a24,⟨pg_Classes,hd_Classes,po_Classes,sa_Classes⟩,mg_of X G aC_Classes,n_Classes_lesser,rfl,rfl⟩
theorem walk{l:PySem.W.OpenLaw}{q:Program}{loose:List Str}{XP:(Str->Option Value)->Heap->Prop}{YP:World->Heap->Prop}{d:DefRec}{K:Params->PySem.W.Frag}(hn:l.most=some 63)(hdf:d.params.defaults=[])(hnm:d.name = "law")
  (hY:∀ (w:World) (h:Heap),YP w h->(K w.params).In h) (hNo:∀ w:World,noTabs (K w.params)=true) (hr_bits_of_both:∃ d,(PyProof.Rows.recsOf q).find? (fun e=>e.name == ("bits_of_both" : Str))=some d) (hr_sets_of_both:∃ d,(PyProof.Rows.recsOf q).find? (fun e=>e.name == ("sets_of_both" : Str))=some d)
  (F:∀ (w:World) (mg:Str->Option Value) (fa:Addr) (h:Heap),(K w.params).In h->h.Ns mainGlobals mg->mg "law" = some (.ref fa) ->
   ∃ A:Ad,A.a_law=fa/\(∀ (s:Shared) (v:Value),BindsTo s A.d_law ⟨[v],[]⟩ [("_law_script",v)])/\Tx w (K w.params) mg A/\tabIn (K w.params) "bits_of_both" = some (A.tc_bits_of_both,A.tp_bits_of_both)/\tabIn (K w.params) "sets_of_both" = some (A.tc_sets_of_both,A.tp_sets_of_both)/\([A.tp_bits_of_both,A.tp_sets_of_both]:List Addr).Nodup) :
  PySem.W.WalkO q loose XP YP l.row.toRowW d [] (fun f vs=>PySem.call f vs):=by
 refine L2.walk_ofT (n:=63) (k:=6) (x := "_law_script") hn (by decide) hdf ⟨rfl,by decide,by decide⟩ hY (fun w mg mb ls mean fa h k1 k2 TT k3=>?_)
 obtain ⟨A,rfl,hb,T,tb_bits_of_both,tb_sets_of_both,nd⟩:=F w mg fa h k1 k2 (by rw [<-hnm];exact k3)
 refine ⟨A.d_law,[(A.tc_bits_of_both,A.tp_bits_of_both,y_j,y_k),(A.tc_sets_of_both,A.tp_sets_of_both,z_u,z_s)],(j_h (K w.params) A.tp_bits_of_both y_j y_k A.tp_sets_of_both z_u z_s),hb,fun t ht=>?_,nd,hNo w,fun base _ _ C=>all_ok T (C (A.tc_bits_of_both,A.tp_bits_of_both,y_j,y_k) (by simp)) (C (A.tc_sets_of_both,A.tp_sets_of_both,z_u,z_s) (by simp)),fun H a ns hl ht hS=>⟨a,ns,rfl,hS,hl,ht (A.tc_bits_of_both,A.tp_bits_of_both,y_j,y_k) (by simp),ht (A.tc_sets_of_both,A.tp_sets_of_both,z_u,z_s) (by simp),fun _=>rfl⟩⟩
 simp only [List.mem_cons,List.not_mem_nil,or_false] at ht
 rcases ht with rfl | rfl
 ·obtain ⟨_,z⟩:=hr_bits_of_both
  exact PySem.W.tab_of TT k1 z tb_bits_of_both
 ·obtain ⟨_,z⟩:=hr_sets_of_both
  exact PySem.W.tab_of TT k1 z tb_sets_of_both
abbrev hS(x:String)(t:Nat):Value:=.str (Str.ofString x) t
abbrev hE(P:Params)(x:String)(t:Nat)(v:Value):DictEntry:=⟨PyData.keyHash P (Str.ofString x),.str (Str.ofString x) t,v⟩
abbrev hF(n q:String)(st:Stmt)(df kd doc pm:Value)(an:Option Addr)(cd ct:Value):Obj:=⟨.type "function",none,.func (fnOf n q (x_x st) (x_i st) (z_p st) df kd doc pm an cd ct),#[]⟩
abbrev hC(n q:String)(t:Nat)(l a k:Int)(r1 r2:Nat)(x y:Value)(r3:Nat)(u:Int)(z:Nat):Obj:=⟨.type "code",none,.fields [hS n t,hS q (t+1),hS "/claim/cut.py" (t+2),.int l 0,.int a 0,.int 0 0,.int 0 0,.int k 0,.ref r1,.bool true,.int 181 0,.ref r2,.none,x,y,.ref r3,.int u 0,.int l 0,hS "/claim/cut.py" z].toArray,#[]⟩
def hK:Params->PySem.W.Frag:=fun P =>
 (nat_lit 2,⟨.none,none,.dict ([]).toArray 0,#[]⟩) ::
 (nat_lit 3,⟨(.type "dict"),none,.dict (hE P "__name__" 165 (hS "law_lampforge_k37_rows_good_or_not" 369)::hE P "__doc__" 166 .none::hE P "__package__" 167 .none::hE P "__loader__" 168 (.builtin "__main__.__loader__#opaque")::hE P "__spec__" 169 .none::hE P "__annotations__" 170 (.ref 6)::hE P "__builtins__" 171 (.ref 4)::hE P "__file__" 173 (hS "/claim/cut.py" 172)::hE P "__cached__" 174 .none::hE P "is_whole" 195 (.ref 21)::hE P "is_between" 204 (.ref 28)::hE P "all_stands" 212 (.ref 33)::hE P "is_end" 222 (.ref 40)::hE P "MOST_LEAVES" 231 (.ref 41)::hE P "LOW" 233 (hS "low" 232)::hE P "is_good" 243 (.ref 48)::hE P "is_step" 249 (.ref 53)::hE P "bits_of_both" 264 (.ref 60)::hE P "both_bits" 272 (.ref 67)::hE P "sets_of_both" 284 (.ref 74)::hE P "both_sets" 294 (.ref 81)::hE P "found_of" 300 (.ref 86)::hE P "below" 308 (.ref 93)::hE P "Classes" 368 (.ref 129)::hE P "_law_row" 385 (.ref 140)::hE P "_law_net" 396 (.ref 147)::hE P "_law_joined" 402 (.ref 152)::hE P "_law_tree" 413 (.ref 159)::hE P "_law_come" 424 (.ref 166)::hE P "_law_both" 434 (.ref 173)::hE P "_law_due" 440 (.ref 178)::hE P "_law_step" 446 (.ref 183)::hE P "law" 452 (.ref 188)::[]).toArray 33,#[]⟩) ::
 (nat_lit 20,hC "is_whole" "is_whole" 189 2 1 3 15 16 (.ref 17) (.ref 18) 19 193 194) ::
 (nat_lit 21,hF "is_whole" "is_whole" w_j .none .none .none (hS "lampforge.words" 187) none (.ref 20) .none) ::
 (nat_lit 27,hC "is_between" "is_between" 196 4 3 3 22 23 (.ref 24) (.ref 25) 26 202 203) ::
 (nat_lit 28,hF "is_between" "is_between" x_h .none .none .none (hS "lampforge.words" 187) none (.ref 27) .none) ::
 (nat_lit 32,hC "all_stands" "all_stands" 207 7 1 3 29 30 .none .none 31 210 211) ::
 (nat_lit 33,hF "all_stands" "all_stands" x_v .none .none .none (hS "lampforge.many" 205) none (.ref 32) .none) ::
 (nat_lit 39,hC "is_end" "is_end" 215 18 2 3 34 35 (.ref 36) (.ref 37) 38 220 221) ::
 (nat_lit 40,hF "is_end" "is_end" v_n .none .none .none (hS "lampforge.works" 213) none (.ref 39) .none) ::
 (nat_lit 41,⟨(.type "dict"),none,.dict (hE P "stands" 225 (.int 6 226)::hE P "row" 227 (.int 64 228)::[]).toArray 2,#[]⟩) ::
 (nat_lit 47,hC "is_good" "is_good" 234 23 3 3 42 43 (.ref 44) (.ref 45) 46 241 242) ::
 (nat_lit 48,hF "is_good" "is_good" w_t .none .none .none (hS "lampforge.steps" 223) none (.ref 47) .none) ::
 (nat_lit 52,hC "is_step" "is_step" 244 31 3 3 49 50 .none .none 51 247 248) ::
 (nat_lit 53,hF "is_step" "is_step" w_u .none .none .none (hS "lampforge.steps" 223) none (.ref 52) .none) ::
 (nat_lit 59,hC "bits_of_both" "bits_of_both" 250 41 3 3 54 55 (.ref 56) (.ref 57) 58 262 263) ::
 (nat_lit 60,hF "bits_of_both" "bits_of_both" z_x .none .none .none (hS "lampforge.steps" 223) none (.ref 59) .none) ::
 (nat_lit 66,hC "both_bits" "both_bits" 265 52 2 3 61 62 (.ref 63) (.ref 64) 65 270 271) ::
 (nat_lit 67,hF "both_bits" "both_bits" w_l .none .none .none (hS "lampforge.steps" 223) none (.ref 66) .none) ::
 (nat_lit 73,hC "sets_of_both" "sets_of_both" 273 54 3 3 68 69 (.ref 70) (.ref 71) 72 282 283) ::
 (nat_lit 74,hF "sets_of_both" "sets_of_both" z_v .none .none .none (hS "lampforge.steps" 223) none (.ref 73) .none) ::
 (nat_lit 80,hC "both_sets" "both_sets" 285 62 2 3 75 76 (.ref 77) (.ref 78) 79 292 293) ::
 (nat_lit 81,hF "both_sets" "both_sets" x_r .none .none .none (hS "lampforge.steps" 223) none (.ref 80) .none) ::
 (nat_lit 85,hC "found_of" "found_of" 295 70 6 3 82 83 .none .none 84 298 299) ::
 (nat_lit 86,hF "found_of" "found_of" w_i .none .none .none (hS "lampforge.steps" 223) none (.ref 85) .none) ::
 (nat_lit 92,hC "below" "below" 301 86 2 3 87 88 (.ref 89) (.ref 90) 91 306 307) ::
 (nat_lit 93,hF "below" "below" t_f .none .none .none (hS "lampforge.steps" 223) none (.ref 92) .none) ::
 (nat_lit 104,hC "__init__" "Classes.__init__" 323 91 2 3 101 102 .none .none 103 326 327) ::
 (nat_lit 105,hF "__init__" "Classes.__init__" y_y .none .none .none (hS "lampforge.classes" 309) none (.ref 104) .none) ::
 (nat_lit 111,hC "least" "Classes.least" 329 94 2 3 106 107 (.ref 108) (.ref 109) 110 337 338) ::
 (nat_lit 112,hF "least" "Classes.least" y_r .none .none .none (hS "lampforge.classes" 309) none (.ref 111) .none) ::
 (nat_lit 118,hC "alike" "Classes.alike" 340 104 3 3 113 114 (.ref 115) (.ref 116) 117 346 347) ::
 (nat_lit 119,hF "alike" "Classes.alike" x_c .none .none .none (hS "lampforge.classes" 309) none (.ref 118) .none) ::
 (nat_lit 125,hC "join" "Classes.join" 349 107 3 3 120 121 (.ref 122) (.ref 123) 124 357 358) ::
 (nat_lit 126,hF "join" "Classes.join" y_z .none .none .none (hS "lampforge.classes" 309) none (.ref 125) .none) ::
 (nat_lit 127,⟨(.type "tuple"),none,.seq [(hS "lesser" 360)].toArray 0,#[]⟩) ::
 (nat_lit 128,⟨(.type "dict"),none,.dict (hE P "__module__" 318 (hS "lampforge.classes" 309)::hE P "__firstlineno__" 322 (.int 89 321)::hE P "__init__" 328 (.ref 105)::hE P "least" 339 (.ref 112)::hE P "alike" 348 (.ref 119)::hE P "join" 359 (.ref 126)::hE P "__static_attributes__" 361 (.ref 127)::hE P "__dict__" 363 (.ref 130)::hE P "__weakref__" 365 (.ref 131)::hE P "__doc__" 366 .none::[]).toArray 4,#[]⟩) ::
 (nat_lit 129,⟨(.type "type"),none,.cls { name := "Classes",bases:=[(.type "object")],mro:=[(.ref 129),(.type "object")],ns:=128,qualname := "Classes",hasDict:=true,subclasses:=[],abstract:=false,hasDel:=false },#[none,none,some (hS "Classes" 311),some (hS "Classes" 319),some (.builtin "object.__new__"),some (.bool true)]⟩) ::
 (nat_lit 130,⟨(.type "getset_descriptor"),none,.fields [(hS "__dict__" 362),(.ref 129),(.builtin "function.__dict__"),(.builtin "function.__dict__#set")].toArray,#[]⟩) ::
 (nat_lit 131,⟨(.type "getset_descriptor"),none,.fields [(hS "__weakref__" 364),(.ref 129),(.builtin "ExceptionGroup.__weakref__"),.none].toArray,#[]⟩) ::
 (nat_lit 139,hC "_law_row" "_law_row" 371 117 3 3 134 135 (.ref 136) (.ref 137) 138 383 384) ::
 (nat_lit 140,hF "_law_row" "_law_row" t_e .none .none .none (hS "law_lampforge_k37_rows_good_or_not" 369) none (.ref 139) .none) ::
 (nat_lit 146,hC "_law_net" "_law_net" 386 133 2 3 141 142 (.ref 143) (.ref 144) 145 394 395) ::
 (nat_lit 147,hF "_law_net" "_law_net" t_d .none .none .none (hS "law_lampforge_k37_rows_good_or_not" 369) none (.ref 146) .none) ::
 (nat_lit 151,hC "_law_joined" "_law_joined" 397 139 3 3 148 149 .none .none 150 400 401) ::
 (nat_lit 152,hF "_law_joined" "_law_joined" w_h .none .none .none (hS "law_lampforge_k37_rows_good_or_not" 369) none (.ref 151) .none) ::
 (nat_lit 158,hC "_law_tree" "_law_tree" 403 144 3 3 153 154 (.ref 155) (.ref 156) 157 411 412) ::
 (nat_lit 159,hF "_law_tree" "_law_tree" v_m .none .none .none (hS "law_lampforge_k37_rows_good_or_not" 369) none (.ref 158) .none) ::
 (nat_lit 165,hC "_law_come" "_law_come" 414 155 4 3 160 161 (.ref 162) (.ref 163) 164 422 423) ::
 (nat_lit 166,hF "_law_come" "_law_come" v_k .none .none .none (hS "law_lampforge_k37_rows_good_or_not" 369) none (.ref 165) .none) ::
 (nat_lit 172,hC "_law_both" "_law_both" 425 168 2 3 167 168 (.ref 169) (.ref 170) 171 432 433) ::
 (nat_lit 173,hF "_law_both" "_law_both" v_j .none .none .none (hS "law_lampforge_k37_rows_good_or_not" 369) none (.ref 172) .none) ::
 (nat_lit 177,hC "_law_due" "_law_due" 435 178 3 3 174 175 .none .none 176 438 439) ::
 (nat_lit 178,hF "_law_due" "_law_due" t_c .none .none .none (hS "law_lampforge_k37_rows_good_or_not" 369) none (.ref 177) .none) ::
 (nat_lit 182,hC "_law_step" "_law_step" 441 192 4 3 179 180 .none .none 181 444 445) ::
 (nat_lit 183,hF "_law_step" "_law_step" v_l .none .none .none (hS "law_lampforge_k37_rows_good_or_not" 369) none (.ref 182) .none) ::
 (nat_lit 187,hC "law" "law" 447 204 1 3 184 185 .none .none 186 450 451) ::
 (nat_lit 188,hF "law" "law" k_w .none .none .none (hS "law_lampforge_k37_rows_good_or_not" 369) none (.ref 187) .none)::[]
def hA:List Addr:=nat_lit 2::nat_lit 3::nat_lit 20::nat_lit 21::nat_lit 27::nat_lit 28::nat_lit 32::nat_lit 33::nat_lit 39::nat_lit 40::nat_lit 41::nat_lit 47::nat_lit 48::nat_lit 52::nat_lit 53::nat_lit 59::nat_lit 60::nat_lit 66::nat_lit 67::nat_lit 73::nat_lit 74::nat_lit 80::nat_lit 81::nat_lit 85::nat_lit 86::nat_lit 92::nat_lit 93::nat_lit 104::nat_lit 105::nat_lit 111::nat_lit 112::nat_lit 118::nat_lit 119::nat_lit 125::nat_lit 126::nat_lit 127::nat_lit 128::nat_lit 129::nat_lit 130::nat_lit 131::nat_lit 139::nat_lit 140::nat_lit 146::nat_lit 147::nat_lit 151::nat_lit 152::nat_lit 158::nat_lit 159::nat_lit 165::nat_lit 166::nat_lit 172::nat_lit 173::nat_lit 177::nat_lit 178::nat_lit 182::nat_lit 183::nat_lit 187::nat_lit 188::[]
def hV:Program:={ PySem.Challenge.pw_lampforge_k37_rows_good_or_not with main:={ PySem.Challenge.pw_lampforge_k37_rows_good_or_not.main with body:=[top 1,top 2,top 4,top 6,top 8,top 9,top 10,top 11,top 12,top 13,top 14,top 15,top 16,top 17,top 19,top 21,top 22,top 23,top 24,top 25,top 26,top 27,top 28,top 29] } }
abbrev hL:List Str:=[Str.ofString "MOST_LEAVES"]
theorem hQ:∀ P,hA=(hK P).map (·.1):=fun _=>by kernel_rfl
set_option maxRecDepth 100000 in
set_option maxHeartbeats 0 in
theorem hSaid:PySem.Challenge.rw_lampforge_k37_rows_good_or_not.wellSaid=true:=by kernel_rfl
abbrev hR(n q:String)(st:Stmt):Obj:=⟨.none,none,.func { fnOf n q (x_x st) (x_i st) (z_p st) .none .none .none .none none .none .none with globals:=0 },#[]⟩
abbrev hr(n:String)(st:Stmt):Obj:=hR n n st
abbrev yT(xs:List Value):Obj:=⟨.type "tuple",none,.seq xs.toArray 0,#[]⟩
abbrev yN(xs:List Value):Obj:=⟨.none,none,.fields xs.toArray,#[]⟩
def yS:Nat->List String->List Value
 | _,[]=>[]
 | t,x::r=>hS x t::yS (t+1) r
abbrev pP:Program:=PySem.Challenge.pw_lampforge_k37_rows_good_or_not
def mrg:Nat->List (Nat×Obj)->List (Nat×Obj)->List Obj
 | n+1,(a,x)::r,(b,y)::s=>match Nat.blt a b with
  | true=>x::mrg n r ((b,y)::s)
  | false=>y::mrg n ((a,x)::r) s
 | n+1,[],(_,y)::s=>y::mrg n [] s
 | n+1,(_,x)::r,[]=>x::mrg n r []
 | _,_,_=>[]
def evs:List Obj->List Obj
 | a::_::r=>a::evs r
 | l=>l
def mkT:Nat->List Obj->PySem.W.BT
 | n+1,x::r=>.node x (mkT n (evs r)) (mkT n (evs r.tail))
 | _,_=>.nil
def dEs:Option Obj->List DictEntry
 | some o=>match o.data with
  | .dict es _=>es.toList
  | _=>[]
 | none=>[]
def fEs:Option Obj->List Value
 | some o=>match o.data with
  | .fields es=>es.toList
  | _=>[]
 | none=>[]
noncomputable def hX:Params->PySem.W.Frag:=fun P =>
 (0,PySem.W.boot_o_0 P) ::
 (1,PySem.W.boot_o_1 P) ::
 (4,PySem.W.boot_o_4 P) ::
 (5,PySem.W.boot_o_5 P) ::
 (6,PySem.W.boot_o_6 P) ::
 (7,PySem.W.boot_o_7 P) ::
 (8,PySem.W.boot_o_8 P) ::
 (9,PySem.W.boot_o_9 P) ::
 (10,PySem.W.boot_o_10 P) ::
 (11,yT []) ::
 (12,yN [(.int 2 0),(.int 0 0),(.ref 20),(.int 4 0),(.int 0 0),(.ref 27),(.int 7 0),(.int 0 0),(.ref 32),(.int 18 0),(.int 0 0),(.ref 39),(.int 23 0),(.int 0 0),(.ref 47),(.int 31 0),(.int 0 0),(.ref 52),(.int 41 0),(.int 0 0),(.ref 59),(.int 52 0),(.int 0 0),(.ref 66),(.int 54 0),(.int 0 0),(.ref 73),(.int 62 0),(.int 0 0),(.ref 80),(.int 70 0),(.int 0 0),(.ref 85),(.int 86 0),(.int 0 0),(.ref 92),(.int 89 0),(.int 0 0),(.ref 99),(.int 117 0),(.int 0 0),(.ref 139),(.int 133 0),(.int 0 0),(.ref 146),(.int 139 0),(.int 0 0),(.ref 151),(.int 144 0),(.int 0 0),(.ref 158),(.int 155 0),(.int 0 0),(.ref 165),(.int 168 0),(.int 0 0),(.ref 172),(.int 178 0),(.int 0 0),(.ref 177),(.int 192 0),(.int 0 0),(.ref 182),(.int 204 0),(.int 0 0),(.ref 187)]) ::
 (13,⟨(.type "code"),none,.fields [(hS "<module>" 182),(hS "<module>" 183),(hS "/claim/cut.py" 184),(.int 1 0),(.int 0 0),(.int 0 0),(.int 0 0),(.int 0 0),(.ref 11),(.bool false),(.int 181 0),(.ref 12),.none,.none,.none,.none,(.int 185 0),(.int 1 0),(hS "/claim/cut.py" 186)].toArray,#[]⟩) ::
 (14,⟨(.type "frame"),none,.plain,#[some (.ref 13),some (.ref 3),some (.ref 3),none,some (hS "__main__" 164),none,some (.ref 0)]⟩) ::
 (15,yT []) ::
 (16,yN []) ::
 (17,yT (yS 192 ["thing"])) ::
 (18,yT []) ::
 (19,hr "is_whole" w_j) ::
 (22,yT []) ::
 (23,yN []) ::
 (24,yT (yS 199 ["thing", "low", "high"])) ::
 (25,yT []) ::
 (26,hr "is_between" x_h) ::
 (29,yT []) ::
 (30,yN []) ::
 (31,hr "all_stands" x_v) ::
 (34,yT []) ::
 (35,yN []) ::
 (36,yT (yS 218 ["thing", "knots"])) ::
 (37,yT []) ::
 (38,hr "is_end" v_n) ::
 (42,yT []) ::
 (43,yN []) ::
 (44,yT (yS 237 ["net", "classes", "step", "found"])) ::
 (45,yT []) ::
 (46,hr "is_good" w_t) ::
 (49,yT []) ::
 (50,yN []) ::
 (51,hr "is_step" w_u) ::
 (54,yT []) ::
 (55,yN []) ::
 (56,yT (yS 253 ["net", "classes", "step", "stands", "given", "leaf", "bits", "turned"])) ::
 (57,yT (yS 261 ["high"])) ::
 (58,hr "bits_of_both" z_x) ::
 (61,yT []) ::
 (62,yN []) ::
 (63,yT (yS 268 ["one", "other"])) ::
 (64,yT []) ::
 (65,hr "both_bits" w_l) ::
 (68,yT []) ::
 (69,yN []) ::
 (70,yT (yS 276 ["net", "classes", "step", "given", "power", "leaf"])) ::
 (71,yT []) ::
 (72,hr "sets_of_both" z_v) ::
 (75,yT []) ::
 (76,yN []) ::
 (77,yT (yS 288 ["one", "other", "leaves", "contraries"])) ::
 (78,yT []) ::
 (79,hr "both_sets" x_r) ::
 (82,yT []) ::
 (83,yN []) ::
 (84,hr "found_of" w_i) ::
 (87,yT []) ::
 (88,yN []) ::
 (89,yT (yS 304 ["net", "end"])) ::
 (90,yT []) ::
 (91,hr "below" t_f) ::
 (94,yT []) ::
 (95,⟨(.type "builtin_function_or_method"),none,.fields [(.builtin "type.__prepare__"),(.type "type")].toArray,#[]⟩) ::
 (96,⟨(.type "dict"),none,.dict (hE P "__module__" 318 (hS "lampforge.classes" 309)::hE P "__qualname__" 320 (hS "Classes" 319)::hE P "__firstlineno__" 322 (.int 89 321)::hE P "__init__" 328 (.ref 105)::hE P "least" 339 (.ref 112)::hE P "alike" 348 (.ref 119)::hE P "join" 359 (.ref 126)::hE P "__static_attributes__" 361 (.ref 127)::[]).toArray 8,#[]⟩) ::
 (97,yT []) ::
 (98,yN [(.int 91 0),(.int 4 0),(.ref 104),(.int 94 0),(.int 4 0),(.ref 111),(.int 104 0),(.int 4 0),(.ref 118),(.int 107 0),(.int 4 0),(.ref 125)]) ::
 (99,⟨(.type "code"),none,.fields [(hS "Classes" 313),(hS "Classes" 314),(hS "/claim/cut.py" 315),(.int 89 0),(.int 0 0),(.int 0 0),(.int 0 0),(.int 0 0),(.ref 97),(.bool false),(.int 181 0),(.ref 98),.none,.none,.none,.none,(.int 316 0),(.int 89 0),(hS "/claim/cut.py" 317)].toArray,#[]⟩) ::
 (100,⟨(.type "frame"),none,.plain,#[some (.ref 99),some (.ref 3),some (.ref 96),none,some (hS "lampforge.classes" 309),none,some (.ref 0)]⟩) ::
 (101,yT []) ::
 (102,yN []) ::
 (103,hR "__init__" "Classes.__init__" y_y) ::
 (106,yT []) ::
 (107,yN []) ::
 (108,yT (yS 332 ["self", "end", "lesser", "way", "passed"])) ::
 (109,yT []) ::
 (110,hR "least" "Classes.least" y_r) ::
 (113,yT []) ::
 (114,yN []) ::
 (115,yT (yS 343 ["self", "one", "other"])) ::
 (116,yT []) ::
 (117,hR "alike" "Classes.alike" x_c) ::
 (120,yT []) ::
 (121,yN []) ::
 (122,yT (yS 352 ["self", "one", "other", "low", "high"])) ::
 (123,yT []) ::
 (124,hR "join" "Classes.join" y_z) ::
 (132,⟨(.type "super"),none,.fields [(.ref 129),(.ref 129),(.ref 129)].toArray,#[]⟩) ::
 (133,⟨(.type "builtin_function_or_method"),none,.fields [(.builtin "object.__init_subclass__"),(.ref 129)].toArray,#[]⟩) ::
 (134,yT []) ::
 (135,yN []) ::
 (136,yT (yS 374 ["_law_script", "_law_at", "_law_many", "_law_cell", "_law_rest", "_law_great", "_law_row_here", "_law_k", "_law_one"])) ::
 (137,yT []) ::
 (138,hr "_law_row" t_e) ::
 (141,yT []) ::
 (142,yN []) ::
 (143,yT (yS 389 ["_law_row_here", "_law_sizes", "_law_leaves", "_law_gates", "_law_k"])) ::
 (144,yT []) ::
 (145,hr "_law_net" t_d) ::
 (148,yT []) ::
 (149,yN []) ::
 (150,hr "_law_joined" w_h) ::
 (153,yT []) ::
 (154,yN []) ::
 (155,yT (yS 406 ["_law_net_here", "_law_ends", "_law_left", "_law_gates", "_law_row_here"])) ::
 (156,yT []) ::
 (157,hr "_law_tree" v_m) ::
 (160,yT []) ::
 (161,yN []) ::
 (162,yT (yS 417 ["_law_labels", "_law_leaves", "_law_sets", "_law_end", "_law_k"])) ::
 (163,yT []) ::
 (164,hr "_law_come" v_k) ::
 (167,yT []) ::
 (168,yN []) ::
 (169,yT (yS 428 ["_law_mine", "_law_yours", "_law_both_here", "_law_place"])) ::
 (170,yT []) ::
 (171,hr "_law_both" v_j) ::
 (174,yT []) ::
 (175,yN []) ::
 (176,hr "_law_due" t_c) ::
 (179,yT []) ::
 (180,yN []) ::
 (181,hr "_law_step" v_l) ::
 (184,yT []) ::
 (185,yN []) ::
 (186,hr "law" k_w)::[]
noncomputable def hW (P:Params):List Obj:=mrg 190 (hK P) (hX P)
noncomputable def HL (P:Params):Heap:={ objs:=(hW P).toArray,life:={} }
def eV:Env:={ scope:=pP.main.scope,locals:=mainNs,globals:=mainNs,cells:=[],code:=(.ref 13),frame:=some 14 }
def cD:Code:=.body (behindTheImports pP) eV
abbrev bP:List Frame:=[PySem.W.topFrame ⟨0,0,0,0⟩]
noncomputable abbrev g12 (P:Params):List Value:=fEs ((hW P)[12]?)
noncomputable abbrev g3 (P:Params):List DictEntry:=dEs ((hW P)[3]?)
noncomputable def w1 (P:Params):List Obj:=(((hW P).take 15).set 3 (PySem.W.boot_o_3 P)).set 12 ⟨.none,none,.fields ((g12 P).take 0).toArray,#[]⟩
noncomputable def w2 (P:Params):List Obj:=(((hW P).take 15).set 3 (PySem.W.boot_o_3 P)).set 12 ⟨.none,none,.fields ((g12 P).take 0).toArray,#[]⟩
noncomputable def w10 (P:Params):List Obj:=(((hW P).take 41).set 3 ⟨(.type "dict"),none,.dict (((g3 P).take 13).set 0 (hE P "__name__" 165 (hS "lampforge.steps" 223))).toArray 13,#[]⟩).set 12 ⟨.none,none,.fields ((g12 P).take 12).toArray,#[]⟩
noncomputable def w11 (P:Params):List Obj:=(((hW P).take 42).set 3 ⟨(.type "dict"),none,.dict (((g3 P).take 14).set 0 (hE P "__name__" 165 (hS "lampforge.steps" 223))).toArray 14,#[]⟩).set 12 ⟨.none,none,.fields ((g12 P).take 12).toArray,#[]⟩
noncomputable def w32 (P:Params):List Obj:=(hW P).take 189
theorem hOpen:∀ w:World,(PySem.W.fencedOpening treeTable pP w 2244).map (fun s=>(s.heap,s.gens,s.drawn,s.toks))=some (boot_heap w.params,Array.mk [],boot_drawn,boot_toks):=PySem.W.boot_open (by kernel_rfl) (by kernel_rfl) (fun s=>by kernel_rfl)
set_option maxRecDepth 100000 in
set_option maxHeartbeats 0 in
theorem hSize:∀ w:World,((boot_heap w.params).isNs mainGlobals&&(Array.mk []:Array GenState).size == 0,(boot_heap w.params).objs.size,(boot_heap w.params).nsMap mainGlobals (Str.ofString "__annotations__"))=(true,11,some (.ref 6)):=fun w=>by kernel_rfl
set_option maxRecDepth 100000 in
set_option maxHeartbeats 0 in
theorem hPre:∀ (w:World) (os:OsState),PySem.W.topGo treeTable pP w 11 (some (.ref 6)) 12 ⟨boot_heap w.params,Array.mk [],boot_drawn,boot_toks,os⟩ (PySem.W.topStub pP)=some (⟨{ objs:=(w1 w.params).toArray,life:={} },#[],⟨0,0,0,0⟩,187,os⟩,⟨denote treeTable cD,cD,⟨0,0,0,0⟩,bP⟩):=fun w os=>by kernel_rfl
set_option maxRecDepth 100000 in
set_option maxHeartbeats 0 in
theorem hBlk:∀ (w:World) (os:OsState),PySem.W.segRun treeTable pP w 11 (some (.ref 6)) 1 1 ⟨{ objs:=(w1 w.params).toArray,life:={} },#[],⟨0,0,0,0⟩,187,os⟩ (PySem.W.blockOf (behindTheImports pP) eV cD ⟨0,0,0,0⟩ bP)=some (.next,PySem.W.SharedT.abs ⟨mkT 20 (w2 w.params),15,{},#[],⟨0,0,0,0⟩,187,os⟩,cD,⟨0,0,0,0⟩):=fun w os=>by kernel_rfl
abbrev q0:List Stmt:=((behindTheImports pP).drop 0).take 8
set_option maxRecDepth 100000 in
set_option maxHeartbeats 0 in
theorem hG0:∀ (w:World) (os:OsState),segRunT treeTable pP w 11 (some (.ref 6)) 1 153 ⟨mkT 20 (w2 w.params),15,{},#[],⟨0,0,0,0⟩,187,os⟩ (piecesOf q0 eV cD ⟨0,0,0,0⟩ bP)=some (.next,⟨mkT 20 (w10 w.params),41,{},#[],⟨0,0,0,0⟩,225,os⟩,cD,⟨20,0,20,8⟩):=fun w os=>by kernel_rfl
abbrev q1:List Stmt:=((behindTheImports pP).drop 8).take 1
set_option maxRecDepth 100000 in
set_option maxHeartbeats 0 in
theorem hG1f:∀ (w:World) (os:OsState),segRunT treeTable pP (w.withFollow "special-get-raises" false) 11 (some (.ref 6)) 1 41 ⟨mkT 20 (w10 (w.withFollow "special-get-raises" false).params),41,{},#[],⟨0,0,0,0⟩,225,os⟩ (piecesOf q1 eV cD ⟨20,0,20,8⟩ bP)=some (.next,⟨mkT 20 (w11 (w.withFollow "special-get-raises" false).params),42,{},#[],⟨0,0,0,0⟩,232,os⟩,cD,⟨21,0,21,11⟩):=fun w os=>by kernel_rfl
set_option maxRecDepth 100000 in
set_option maxHeartbeats 0 in
theorem hG1t:∀ (w:World) (os:OsState),segRunT treeTable pP (w.withFollow "special-get-raises" true) 11 (some (.ref 6)) 1 41 ⟨mkT 20 (w10 (w.withFollow "special-get-raises" true).params),41,{},#[],⟨0,0,0,0⟩,225,os⟩ (piecesOf q1 eV cD ⟨20,0,20,8⟩ bP)=some (.next,⟨mkT 20 (w11 (w.withFollow "special-get-raises" true).params),42,{},#[],⟨0,0,0,0⟩,232,os⟩,cD,⟨21,0,21,11⟩):=fun w os=>by kernel_rfl
theorem hG1:∀ (w:World) (os:OsState),segRunT treeTable pP w 11 (some (.ref 6)) 1 41 ⟨mkT 20 (w10 w.params),41,{},#[],⟨0,0,0,0⟩,225,os⟩ (piecesOf q1 eV cD ⟨20,0,20,8⟩ bP)=some (.next,⟨mkT 20 (w11 w.params),42,{},#[],⟨0,0,0,0⟩,232,os⟩,cD,⟨21,0,21,11⟩):=fun w=>PySem.W.byRow2 "special-get-raises" (P:=fun w=>∀ os:OsState,segRunT treeTable pP w 11 (some (.ref 6)) 1 41 ⟨mkT 20 (w10 w.params),41,{},#[],⟨0,0,0,0⟩,225,os⟩ (piecesOf q1 eV cD ⟨20,0,20,8⟩ bP)=some (.next,⟨mkT 20 (w11 w.params),42,{},#[],⟨0,0,0,0⟩,232,os⟩,cD,⟨21,0,21,11⟩)) hG1f hG1t w
abbrev q2:List Stmt:=((behindTheImports pP).drop 9).take 21
set_option maxRecDepth 100000 in
set_option maxHeartbeats 0 in
theorem hG2:∀ (w:World) (os:OsState),segRunT treeTable pP w 11 (some (.ref 6)) 1 868 ⟨mkT 20 (w11 w.params),42,{},#[],⟨0,0,0,0⟩,232,os⟩ (piecesOf q2 eV cD ⟨21,0,21,11⟩ bP)=some (.next,⟨mkT 20 (w32 w.params),189,{},#[],⟨0,0,0,0⟩,453,os⟩,cD,⟨204,0,229,136⟩):=fun w os=>by kernel_rfl
set_option maxRecDepth 100000 in
set_option maxHeartbeats 0 in
theorem hFin:∀ (w:World) (os:OsState),PySem.W.topRun treeTable pP w 11 (some (.ref 6)) 2 (PySem.W.SharedT.abs ⟨mkT 20 (w32 w.params),189,{},#[],⟨0,0,0,0⟩,453,os⟩) ⟨PySem.W.doneF .next,cD,⟨204,0,229,136⟩,bP⟩=some ⟨HL w.params,#[],⟨0,0,0,0⟩,453,os⟩:=fun w os=>by kernel_rfl
theorem hSplit:behindTheImports pP=q0++(q1++(q2++[])):=by kernel_rfl
theorem hRun:∀ (w:World) (os:OsState),PySem.W.topRun treeTable pP w 11 (some (.ref 6)) (12+(1+(153+(41+(868+2))))) ⟨boot_heap w.params,Array.mk [],boot_drawn,boot_toks,os⟩ (PySem.W.topStub pP)=some ⟨HL w.params,#[],⟨0,0,0,0⟩,453,os⟩:=fun w os=>by
 refine PySem.W.go_top (hPre w os) (PySem.W.piece_block (hBlk w os) ?_)
 rw [hSplit]
 exact piece_app (segRun_of (hG0 w os)) (piece_app (segRun_of (hG1 w os)) (piece_app (segRun_of (hG2 w os)) (PySem.W.piece_nil (hFin w os))))
set_option maxRecDepth 100000 in
set_option maxHeartbeats 0 in
theorem hk1:∀ (w:World) (os:OsState),(PySem.W.staticsOk (importedModules pP.main.body) (boot_heap w.params) (HL w.params)&&PySem.W.namesBound pP (HL w.params)&&PySem.W.gensDone ⟨HL w.params,#[],⟨0,0,0,0⟩,453,os⟩&&PySem.W.laidKept (boot_heap w.params) (HL w.params))=true:=fun w os=>by kernel_rfl
set_option maxRecDepth 100000 in
set_option maxHeartbeats 0 in
theorem hk2:∀ (w:World) (os:OsState),PySem.W.openSeen hV hL (importedModules pP.main.body) (fun s=>xlAt hV [] s&&recOk (PySem.W.RowW.records PySem.Challenge.rw_lampforge_k37_rows_good_or_not.row.toRowW) s) true ⟨HL w.params,#[],⟨0,0,0,0⟩,453,os⟩=PySem.W.openGood hV hL:=fun w os=>by kernel_rfl
set_option maxRecDepth 100000 in
set_option maxHeartbeats 0 in
theorem hk3:∀ (w:World) (os:OsState),PySem.W.Hook.obs (kHook hK hA hQ) ⟨HL w.params,#[],⟨0,0,0,0⟩,453,os⟩=PySem.W.Hook.val (kHook hK hA hQ) w:=fun w os=>by kernel_rfl
theorem hLeft:PySem.W.LeftO pP hV hL (fun s=>xlAt hV [] s&&recOk (PySem.W.RowW.records PySem.Challenge.rw_lampforge_k37_rows_good_or_not.row.toRowW) s) (PySem.W.Hook.obs (kHook hK hA hQ)) (PySem.W.Hook.val (kHook hK hA hQ)) 2244 true:=PySem.W.LeftO.of_pieces (H₁:=HL) hOpen hSize hRun (by kernel_rfl) fun w=>funext fun os=>congr (congrArg Prod.mk (hk1 w os)) (congr (congrArg Prod.mk (hk2 w os)) (hk3 w os))
end K37
open PySem PySem.W PyProof.Rows
set_option maxRecDepth 100000 in
set_option maxHeartbeats 0 in
theorem PySem.Challenge.cw_lampforge_k37_rows_good_or_not_holds : PySem.Challenge.rw_lampforge_k37_rows_good_or_not.Holds := by
 w_on
 refine PySem.W.holds_law K37.hSaid fun said=>?_
 refine PySem.W.holds_open (q:=K37.hV) (loose:=K37.hL) (Xt:=fun s=>xlAt K37.hV [] s&&recOk (PySem.W.RowW.records PySem.Challenge.rw_lampforge_k37_rows_good_or_not.row.toRowW) s) (XP:=PySem.W.XL K37.hV []) (Yf:=PySem.W.Hook.obs (kHook K37.hK K37.hA K37.hQ)) (Ya:=PySem.W.Hook.val (kHook K37.hK K37.hA K37.hQ)) (YP:=PySem.W.Hook.says (kHook K37.hK K37.hA K37.hQ)) (N:=2244) ?hl (PySem.W.Hook.of (kHook K37.hK K37.hA K37.hQ)) (PySem.W.Hook.keeps (kHook K37.hK K37.hA K37.hQ)) (fun s e=>PySem.W.xl_of s (Bool.and_eq_true_iff.mp e).1) PySem.W.XL.keeps (by rfl) (by rfl) (by rfl) (fun s e=>PySem.W.recFacts_of (Bool.and_eq_true_iff.mp e).2) (by rfl) (by first | assumption | decide +kernel) (by decide +kernel) ⟨rfl,rfl,rfl,rfl,rfl,by decide +kernel⟩ ?hw ?hc
 case hl=>exact K37.hLeft
 (case hw=>exact ⟨[.list []],by kernel_rfl,by kernel_rfl⟩)
 k_fill
 refine K37.walk (l:=PySem.Challenge.rw_lampforge_k37_rows_good_or_not) rfl rfl rfl (fun w h Y=>PySem.W.kIn_of Y) (fun w=>by kernel_rfl) ⟨_,rfl⟩ ⟨_,rfl⟩ ?F
 case F =>
  intro w mg fa h KX G hmg
  refine' K37.all_mk KX G hmg ?_ ?_ ?_ ?_ ?_ ?_ ?_ ?_ ?_ ?_ ?_ ?_ ?_ ?_ ?_ ?_ ?_ ?_ ?_ ?_ ?_ ?_ ?_ ?_ ?_ ?_ ?_ ?_ ?_ ?_ ?_ ?_ ?_ ?_ ?_ ?_ ?_ ?_ ?_ ?_ ?_ ?_ ?_ ?_ ?_ ?_ ?_ ?_ ?_ ?_ ?_ ?_ ?_ ?_ ?_ ?_ ?_ ?_ ?_ ?_ ?_ ?_ ?_ ?_ ?_ ?_ ?_ ?_ ?_ ?_ ?_ ?_ ?_ ?_ ?_ ?_ ?_ ?_ ?_ ?_ ?_ ?_ ?kF ?lo_F ?eF ?_ ?ee_bits_of_both ?_ ?vp_bits_of_both ?ee_sets_of_both ?_ ?vp_sets_of_both ?ndT
  all_goals try first | k_is | (unfold K37.NI;k_is) | (refine' L2.fun_mk ?l ?c ?k;(case l=>k_is);(case c=>k_is);(case k=>k_is))
  (try case kF=>k_keys)
  (try case lo_F=>decide)
  (try case eF=>rfl)
  (try case ee_bits_of_both=>exact rfl)
  (try case vp_bits_of_both=>exact rfl)
  (try case ee_sets_of_both=>exact rfl)
  (try case vp_sets_of_both=>exact rfl)
  (try case ndT=>decide)
  all_goals try first | k_is | (unfold K37.NI;k_is) | (refine' L2.fun_mk ?l ?c ?k;(case l=>k_is);(case c=>k_is);(case k=>k_is))
  (try case ee_bits_of_both=>exact rfl)
  (try case vp_bits_of_both=>exact rfl)
  (try case ee_sets_of_both=>exact rfl)
  (try case vp_sets_of_both=>exact rfl)
  (try case ndT=>decide)
