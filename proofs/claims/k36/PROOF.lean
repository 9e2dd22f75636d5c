import PyProof.Rows.All
import Wide.All
import OpenK.AllK
import Wide.FinOn
import Lean
import PyProof.EqAt
import PyProof.EqKinds
import PyProof.TupleCall
import KE.BitLaws
import KE.KMinKey
import KE.KLam
import KE.KClos
import KE.KIntText
import PySem.Challenge.RW_lampforge_k36_stands_good_or_not
set_option genSizeOfSpec false
noncomputable section
set_option Elab.async false
set_option linter.all false
set_option maxRecDepth 100000
namespace L2
open PySem PySem.Spec PyProof.Rows
abbrev Key:=Sum Int Str
def keyIs:Key->Value->Bool
 | .inl k,v=>Value.isInt k v
 | .inr x,v=>Value.isStrOf x v
def keyH(w:World):Key->Int
 | .inl k=>hashInt k
 | .inr x=>hashStr w x
theorem y_t:∀ {k:Key} {v:Value},keyIs k v=true->(∃ i t,k=Sum.inl i/\v=Value.int i t)\/(∃ x t,k=Sum.inr x/\v=Value.str x t)
 | .inl i,v,h=>by
  obtain ⟨t,e⟩:=Value.isInt_shape (k:=i) (v:=v) h
  exact .inl ⟨i,t,rfl,e⟩
 | .inr x,v,h=>by
  obtain ⟨t,e⟩:=Value.isStrOf_shape (x:=x) (v:=v) h
  exact .inr ⟨x,t,rfl,e⟩
theorem keyIs_int(i:Int)(t:Tok):keyIs (.inl i) (.int i t)=true:=by simp [keyIs,Value.isInt]
theorem keyIs_str(x:Str)(t:Tok):keyIs (.inr x) (.str x t)=true:=by simp [keyIs,Value.isStrOf]
theorem key_ll(a b:Int):decide ((Sum.inl a:Key)=Sum.inl b)=(a == b):=by
 by_cases e:a=b
 ·subst e;simp
 ·have h:¬(Sum.inl a:Key)=Sum.inl b:=fun q=>e (Sum.inl.inj q)
  rw [decide_eq_false h]
  exact (beq_eq_false_iff_ne.mpr e).symm
theorem key_rr(a b:Str):decide ((Sum.inr a:Key)=Sum.inr b)=decide (a=b):=by
 by_cases e:a=b
 ·subst e;simp
 ·have h:¬(Sum.inr a:Key)=Sum.inr b:=fun q=>e (Sum.inr.inj q)
  rw [decide_eq_false h,decide_eq_false e]
theorem key_lr(a:Int)(b:Str):decide ((Sum.inl a:Key)=Sum.inr b)=false:=decide_eq_false (fun q=>nomatch q)
theorem key_rl(a:Str)(b:Int):decide ((Sum.inr a:Key)=Sum.inl b)=false:=decide_eq_false (fun q=>nomatch q)
def mixKind(prog:Program)(w:World):PySem.KeyKind prog w Key where
 is:=keyIs
 hash:=keyH w
 inj:=fun v a b ha hb=>by
  rcases y_t ha with ⟨i,t,rfl,rfl⟩ | ⟨x,t,rfl,rfl⟩
  ·rcases y_t hb with ⟨j,u,rfl,e⟩ | ⟨y,u,rfl,e⟩
   ·injection e with e1 _;rw [e1]
   ·exact nomatch e
  ·rcases y_t hb with ⟨j,u,rfl,e⟩ | ⟨y,u,rfl,e⟩
   ·exact nomatch e
   ·injection e with e1 _;rw [e1]
 byValue:=fun k v h=>by
  rcases y_t h with ⟨i,t,rfl,rfl⟩ | ⟨x,t,rfl,rfl⟩<;>rfl
 pyHash:=fun hv h=>by
  rcases y_t hv with ⟨i,t,rfl,rfl⟩ | ⟨x,t,rfl,rfl⟩
  ·exact wpAny_pyHash_int h
  ·exact wpAny_pyHash_str h
 eqBool:=fun hu hv h=>by
  rcases y_t hu with ⟨i,t,rfl,rfl⟩ | ⟨x,t,rfl,rfl⟩
  ·rcases y_t hv with ⟨j,u,rfl,rfl⟩ | ⟨y,u,rfl,rfl⟩
   ·rw [key_ll] at h;exact wpAny_eqBool_int h
   ·rw [key_lr] at h;exact SeqAt.EqAt.int_str i t y u _ _ _ _ h
  ·rcases y_t hv with ⟨j,u,rfl,rfl⟩ | ⟨y,u,rfl,rfl⟩
   ·rw [key_rl] at h;exact SeqAt.EqAt.str_int x t j u _ _ _ _ h
   ·rw [key_rr] at h;exact wpAny_eqBool_str h
 «strs» := fun k x t v h=>by
  rcases y_t h with ⟨i,u,rfl,e⟩ | ⟨y,u,rfl,e⟩
  ·exact nomatch e
  ·injection e with e1 _
   subst e1
   cases v<;>rfl
theorem mixKind_int(prog:Program)(w:World)(i:Int)(t:Tok):(mixKind prog w).is (.inl i) (.int i t)=true:=keyIs_int i t
theorem mixKind_str(prog:Program)(w:World)(x:Str)(t:Tok):(mixKind prog w).is (.inr x) (.str x t)=true:=keyIs_str x t
inductive V where
 | non | bl (b:Bool) | int (i:Int) | str (x:Str) | byt (b:Array UInt8) | flt (b:UInt64) | ref (a:Addr) | ty (n:String)
 deriving DecidableEq
def RelV:V->Value->Prop
 | .non,u=>u=Value.none
 | .bl b,u=>u=Value.bool b
 | .int i,u=>∃ t,u=Value.int i t
 | .str x,u=>∃ t,u=Value.str x t
 | .byt b,u=>∃ t,u=Value.bytes b t
 | .flt b,u=>∃ t,u=Value.float b t
 | .ref a,u=>u=Value.ref a
 | .ty n,u=>u=Value.type n
abbrev Vals:List V->List Value->Prop:=Paired RelV
theorem Vals.length{xs:List V}{us:List Value}(r:Vals xs us):xs.length=us.length:=Paired.length r
theorem Vals.get:∀ {xs:List V} {us:List Value} {i:Nat} {x:V},Vals xs us->xs[i]? = some x->∃ u,us[i]? = some u/\RelV x u
 | _,_,_,_,.nil,e=>by simp at e
 | _,_,0,_,.cons r _,e=>by simp at e;subst e;exact ⟨_,rfl,r⟩
 | _,_,i+1,x,.cons _ t,e=>by
  obtain ⟨u,h1,h2⟩:=Vals.get (i:=i) (x:=x) t (by simpa using e)
  exact ⟨u,by simpa using h1,h2⟩
theorem Vals.set{x:V}{u:Value}(r:RelV x u):∀ {xs:List V} {us:List Value} (i:Nat),Vals xs us->Vals (xs.set i x) (us.set i u)
 | _,_,_,.nil=>.nil
 | _,_,0,.cons _ t=>.cons r t
 | _,_,i+1,.cons q t=>.cons q (Vals.set r i t)
theorem Vals.append:∀ {xs ys:List V} {us ws:List Value},Vals xs us->Vals ys ws->Vals (xs++ys) (us++ws)
 | _,_,_,_,.nil,s=>s
 | _,_,_,_,.cons r t,s=>.cons r (Vals.append t s)
theorem Vals.take:∀ {xs:List V} {us:List Value} (n:Nat),Vals xs us->Vals (xs.take n) (us.take n)
 | _,_,0,_=>.nil
 | _,_,_+1,.nil=>.nil
 | _,_,n+1,.cons r t=>.cons r (Vals.take n t)
theorem Vals.drop:∀ {xs:List V} {us:List Value} (n:Nat),Vals xs us->Vals (xs.drop n) (us.drop n)
 | _,_,0,r=>r
 | _,_,_+1,.nil=>.nil
 | _,_,n+1,.cons _ t=>Vals.drop n t
def RelO:Option V->Option Value->Prop
 | some v,some u=>RelV v u
 | none,none=>True
 | _,_=>False
def KV{κ:Type}:List (κ×V)->List (κ×Value)->Prop:=Paired fun (p:κ×V) (q:κ×Value)=>p.1=q.1/\RelV p.2 q.2
def kV:Key->V
 | .inl i=>.int i
 | .inr x=>.str x
inductive HO where
 | lst (xs:List V)
 | tup (xs:List V)
 | dK (kvs:List (Key×V)) | dT (kvs:List (List Key×V))
 | set (S:Int->Bool) (n:Nat)
 | ins (C dx:Addr) (fs:List (Str×V))
 | own (x:Addr)
 | xd (fs:List (Str×V))
 | met (f x:Addr)
 | rng (lo hi:Int)
 | frz (o:Obj) (u:HO)
 | tbl (pos:Pos) (qual:Str)
 | ext (φ:Heap->Prop)
abbrev Hp:=Addr->Option HO
def upd(H:Hp)(a:Addr)(o:HO):Hp:=fun b=>if b=a then some o else H b
theorem z_d{H:Hp}{a:Addr}{o:HO}:upd H a o a=some o:=by unfold upd;rw [if_pos rfl]
theorem z_n{H:Hp}{a b:Addr}{o:HO}(h:b≠a):upd H a o b=H b:=by unfold upd;rw [if_neg h]
theorem ne_of{H:Hp}{a b:Addr}{o u:HO}(h:H a=some o)(h':H b=some u)(d:o≠u):a≠b:=by
 intro e;subst e;rw [h] at h';exact d (Option.some.inj h')
theorem z_g{H:Hp}{a b:Addr}{o:HO}(h:H a=some o)(h':H b=none):a≠b:=by
 intro e;subst e;rw [h] at h';cases h'
section
variable (P:Program) (w:World)
def ObjOk(H:Hp)(h:Heap)(a:Addr):HO->Prop
 | .lst xs=>xs.length<=sizeLine/\∃ (its:List Value) (n:Nat),Vals xs its/\h.get? a=some { cls:=.type "list",data:=.seq its.toArray n }
 | .tup xs=>xs.length<=sizeLine/\∃ its:List Value,Vals xs its/\IsTup h a its.toArray
 | .dK kvs=>kvs.length<=sizeLine/\(a == sysModules)=false/\∃ vs,KV kvs vs/\h.DictOf (mixKind P w) a vs
 | .dT kvs=>kvs.length<=sizeLine/\(a == sysModules)=false/\∃ xs:List (List Key×Addr×Value),
   Paired (fun (p:List Key×V) (q:List Key×Addr×Value)=>p.1=q.1/\H q.2.1=some (.tup (p.1.map kV))/\RelV p.2 q.2.2) kvs xs /\
   ∃ o es ep,h.get? a=some o/\o.ExactDict/\o.data = .dict es ep/\es.toList=xs.map (entryOfKey (tupleKind (mixKind P w)))/\(xs.map (·.1)).Nodup
 | .set S n=>h.SetOf (intKind P w) a S n
 | .ins C dx fs=>H dx=some (.own a)/\fs.length<=1000/\dx≠a/\h.get? a=some (PySem.W.instObj C dx) /\
   ∃ mA,h.Ns1 dx mA/\(∀ f,RelO (fs.lookup f) (mA f))/\PySem.Within mA (fs.map (·.1))
 | .own _=>∃ o,h.get? a=some o
 | .xd fs=>∃ mA,h.Ns1 a mA/\∀ f,RelO (fs.lookup f) (mA f)
 | .rng lo hi=>∃ t u v,h.get? a=some { cls:=.type "range",data:=.fields #[.int lo t,.int hi u,.int 1 v] }
 | .frz o u=>h.get? a=some o/\ObjOk H h a u
 | .tbl pos qual=>∃ ps:Array Value,h.get? a=some { cls:=.none,data:=.fields ps }/\TriplesOk ps.toList/\(codeAmong pos ps.toList=none\/∃ c oc vs tq,codeAmong pos ps.toList=some (.ref c)/\H c=some (.frz oc (.own a))/\oc.data = .fields vs/\vs[1]? = some (.str qual tq))
 | .met f x=>h.get? a=some (PySem.W.methodObj (.ref f) (.ref x))
 | .ext φ=>φ h/\(∃ o,h.get? a=some o)/\∀ h1 h2:Heap,φ h1->(∀ o,h1.get? a=some o->h2.get? a=some o)->φ h2
def HOk(H:Hp)(h:Heap):Prop:=∀ a o,H a=some o->ObjOk P w H h a o
end
section
variable {P:Program} {w:World} {H H':Hp} {h h':Heap} {a:Addr} {o:HO}
theorem ObjOk.lt(x:ObjOk P w H h a o):a<h.objs.size:=by
 cases o with
 | lst xs=>obtain ⟨_,_,_,_,e⟩:=x;exact Heap.lt_size e
 | tup xs=>obtain ⟨_,_,_,p⟩:=x;exact p.lt
 | dK kvs=>obtain ⟨_,_,_,_,o,_,_,e,_⟩:=x;exact Heap.lt_size e
 | dT kvs=>obtain ⟨_,_,_,_,o,_,_,e,_⟩:=x;exact Heap.lt_size e
 | set S n=>obtain ⟨o,_,_,_,e,_⟩:=x;exact Heap.lt_size e
 | ins C dx fs=>obtain ⟨_,_,_,e,_⟩:=x;exact Heap.lt_size e
 | own y=>obtain ⟨_,e⟩:=x;exact Heap.lt_size e
 | xd fs=>obtain ⟨_,⟨_,_,_,e,_⟩,_⟩:=x;exact Heap.lt_size e
 | rng lo hi=>obtain ⟨_,_,_,e⟩:=x;exact Heap.lt_size e
 | frz ob u=>obtain ⟨e,_⟩:=x;exact Heap.lt_size e
 | tbl pos qual=>obtain ⟨_,e,_⟩:=x;exact Heap.lt_size e
 | met f y=>exact Heap.lt_size (show h.get? a=some _ from x)
 | ext φ=>obtain ⟨_,⟨_,e⟩,_⟩:=x;exact Heap.lt_size e
theorem Paired.mapP{α β:Type}{F G:α->β->Prop}:∀ {l₁:List α} {l₂:List β},Paired F l₁ l₂->(∀ a b,F a b->G a b)->Paired G l₁ l₂
 | _,_,.nil,_=>.nil
 | _,_,.cons r t,f=>.cons (f _ _ r) (Paired.mapP t f)
theorem ObjOk.stay(x:ObjOk P w H h a o)(k:∀ b u,(b=a\/H b=some (.own a))->h.get? b=some u->h'.get? b=some u)
  (ho:∀ b,H b=some (.own a)->H' b=some (.own a)) (ht:∀ b xs,H b=some (.tup xs)->H' b=some (.tup xs)) (hz:∀ b o u,H b=some (.frz o u)->H' b=some (.frz o u)):ObjOk P w H' h' a o:=by
 induction o with
 | lst xs=>obtain ⟨z,its,n,r,e⟩:=x;exact ⟨z,its,n,r,k _ _ (.inl rfl) e⟩
 | tup xs=>obtain ⟨z,its,r,ob,e,c⟩:=x;exact ⟨z,its,r,ob,k _ _ (.inl rfl) e,c⟩
 | dK kvs=>obtain ⟨z,y,vs,r,ob,es,ep,e,c⟩:=x;exact ⟨z,y,vs,r,ob,es,ep,k _ _ (.inl rfl) e,c⟩
 | dT kvs =>
  obtain ⟨z,y,xs,r,ob,es,ep,e,c⟩:=x
  exact ⟨z,y,xs,Paired.mapP r fun p q z=>⟨z.1,ht _ _ z.2.1,z.2.2⟩,ob,es,ep,k _ _ (.inl rfl) e,c⟩
 | set S n=>obtain ⟨ob,es,ep,t,e,c⟩:=x;exact ⟨ob,es,ep,t,k _ _ (.inl rfl) e,c⟩
 | ins C dx fs =>
  obtain ⟨d,z,ne,e,mA,⟨od,es,ep,e2,c⟩,r⟩:=x
  exact ⟨ho _ d,z,ne,k _ _ (.inl rfl) e,mA,⟨od,es,ep,k _ _ (.inr d) e2,c⟩,r⟩
 | own y=>obtain ⟨ob,e⟩:=x;exact ⟨ob,k _ _ (.inl rfl) e⟩
 | xd fs=>obtain ⟨mA,⟨od,es,ep,e,c⟩,r⟩:=x;exact ⟨mA,⟨od,es,ep,k _ _ (.inl rfl) e,c⟩,r⟩
 | rng lo hi=>obtain ⟨t,u,v,e⟩:=x;exact ⟨t,u,v,k _ _ (.inl rfl) e⟩
 | frz ob u ih=>obtain ⟨e,q⟩:=x;exact ⟨k _ _ (.inl rfl) e,ih q⟩
 | tbl pos qual =>
  obtain ⟨ps,e,t,c⟩:=x
  refine ⟨ps,k a _ (.inl rfl) e,t,?_⟩
  rcases c with c | ⟨c,oc,vs,tq,c1,c2,c3⟩
  ·exact .inl c
  ·exact .inr ⟨c,oc,vs,tq,c1,hz _ _ _ c2,c3⟩
 | met f y =>
  have e:h.get? a=some (PySem.W.methodObj (.ref f) (.ref y)):=x
  show h'.get? a=some (PySem.W.methodObj (.ref f) (.ref y))
  exact k a _ (.inl rfl) e
 | ext φ=>obtain ⟨p,⟨o,e⟩,st⟩:=x;exact ⟨st _ _ p fun o q=>k _ _ (.inl rfl) q,⟨o,k _ _ (.inl rfl) e⟩,st⟩
theorem HOk.lt(x:HOk P w H h)(e:H a=some o):a<h.objs.size:=(x a o e).lt
theorem HOk.fresh(x:HOk P w H h)(e:h.objs.size<=a):H a=none:=by
 cases q:H a with
 | none=>rfl
 | some u=>exact absurd (Nat.lt_of_lt_of_le (x.lt q) e) (Nat.lt_irrefl _)
theorem HOk.kept(x:HOk P w H h)(k:∀ b u,h.get? b=some u->h'.get? b=some u):HOk P w H h':=fun a o e =>
 (x a o e).stay (fun b u _ q=>k b u q) (fun _ q=>q) (fun _ _ q=>q) fun _ _ _ q=>q
theorem HOk.laid(x:HOk P w H h)(k:∀ b u,h.get? b=some u->h'.get? b=some u)(hp:h.objs.size<=a)(new:ObjOk P w (upd H a o) h' a o):HOk P w (upd H a o) h':=fun b u e=>by
 have hn:=x.fresh hp
 by_cases hb:b=a
 ·subst hb;rw [z_d] at e;cases e;exact new
 ·rw [z_n hb] at e
  exact (x b u e).stay (fun c v _ q=>k c v q) (fun c q=>by rw [z_n (z_g q hn)];exact q) (fun c xs q=>by rw [z_n (z_g q hn)];exact q) fun c ob xs q=>by rw [z_n (z_g q hn)];exact q
end
def Rd(H:Hp)(a:Addr)(u:HO):Prop:=H a=some u\/∃ o,H a=some (.frz o u)
theorem Rd.ok{P:Program}{w:World}{H:Hp}{h:Heap}{a:Addr}{u:HO}(r:Rd H a u)(x:HOk P w H h):ObjOk P w H h a u:=by
 rcases r with r | ⟨o,r⟩
 ·exact x a u r
 ·obtain ⟨_,q⟩:=x a _ r
  exact q
def Mut:Option HO->Prop
 | some (.lst _)=>True
 | some (.dK _)=>True
 | some (.dT _)=>True
 | some (.set _ _)=>True
 | some (.ins _ _ _)=>True
 | some (.ext _)=>True
 | _=>False
section
variable {P:Program} {w:World} {H:Hp} {h h':Heap} {x e:Addr} {o':HO}
theorem HOk.write(ok:HOk P w H h)(mu:Mut (H x))(he:e=x\/H e=some (.own x))(k:∀ b u,b≠e->h.get? b=some u->h'.get? b=some u)(heo:∃ u,h'.get? e=some u)
  (new:ObjOk P w (upd H x o') h' x o'):HOk P w (upd H x o') h':=fun b u q=>by
 have nown:∀ c y,H c=some (.own y)->c≠x:=fun c y r z=>by subst z;rw [r] at mu;exact mu
 have ntup:∀ c xs,H c=some (.tup xs)->c≠x:=fun c xs r z=>by subst z;rw [r] at mu;exact mu
 by_cases hb:b=x
 ·subst hb;rw [z_d] at q;cases q;exact new
 ·rw [z_n hb] at q
  by_cases hbe:b=e
  ·have q':H b=some (.own x):=by
    rcases he with z | z
    ·exact absurd (hbe.trans z) hb
    ·rw [hbe];exact z
   rw [q] at q';cases q'
   obtain ⟨v,hv⟩:=heo
   exact ⟨v,by rw [hbe];exact hv⟩
  ·refine (ok b u q).stay (fun c v hc r=>k c v ?_ r) (fun c r=>by rw [z_n (nown c b r)];exact r) (fun c xs r=>by rw [z_n (ntup c xs r)];exact r) fun c ob xs r=>by rw [z_n (fun z=>by subst z;rw [r] at mu;exact mu)];exact r
   rcases hc with rfl | hc
   ·exact hbe
   ·rintro rfl
    rcases he with z | z
    ·exact nown c b hc z
    ·rw [hc] at z;cases z;exact hb rfl
end
structure Un(fs ex:List Addr)(H H':Hp)(h h':Heap):Prop where
 keep:∀ b o,h.get? b=some o->H b=none->b∉fs->b∉ex->h'.get? b=some o
 slot:∀ b o,h.get? b=some o->H b=none->b∈fs->b∉ex->∃ sl,h'.get? b=some { o with slots:=sl }
 free:∀ b o,h.get? b=some o->H b=none->b∉ex->H' b=none
 there:∀ b o,h.get? b=some o->b∉ex->∃ o',h'.get? b=some o'
 tups:∀ b xs,H b=some (.tup xs)->H' b=some (.tup xs)
 frzs:∀ b o u,H b=some (.frz o u)->H' b=some (.frz o u)
 tbls:∀ b p q,H b=some (.tbl p q)->H' b=some (.tbl p q)
section
variable {fs fs' ex ex':List Addr} {H H1 H2:Hp} {h h1 h2 h':Heap} {a x e:Addr} {o:HO}
theorem Un.any(u:Un fs ex H H1 h h1){b:Addr}{ob:Obj}(q:h.get? b=some ob)(n:H b=none)(hx:b∉ex):∃ sl,h1.get? b=some { ob with slots:=sl }:=by
 by_cases hb:b∈fs
 ·exact u.slot b ob q n hb hx
 ·exact ⟨ob.slots,u.keep b ob q n hb hx⟩
theorem Un.kept(k:∀ b u,h.get? b=some u->h'.get? b=some u):Un fs ex H H h h' :=
 ⟨fun b ob q _ _ _=>k b ob q,fun b ob q _ _ _=>⟨ob.slots,k b ob q⟩,fun _ _ _ n _=>n,fun b ob q _=>⟨ob,k b ob q⟩,fun _ _ q=>q,fun _ _ _ q=>q,fun _ _ _ q=>q⟩
theorem Un.refl:Un fs ex H H h h:=Un.kept fun _ _ q=>q
theorem Un.laid(k:∀ b u,h.get? b=some u->h'.get? b=some u)(hp:h.objs.size<=a)(hn:H a=none):Un fs ex H (upd H a o) h h' where
 keep:=fun b u q _ _ _=>k b u q
 slot:=fun b u q _ _ _=>⟨u.slots,k b u q⟩
 free:=fun b u q n _=>by rw [z_n (Nat.ne_of_lt (Nat.lt_of_lt_of_le (Heap.lt_size q) hp))];exact n
 there:=fun b u q _=>⟨u,k b u q⟩
 tups:=fun b xs q=>by rw [z_n (z_g q hn)];exact q
 frzs:=fun b u xs q=>by rw [z_n (z_g q hn)];exact q
 tbls:=fun b p q z=>by rw [z_n (z_g z hn)];exact z
theorem Un.write(mu:Mut (H x))(he:e=x\/H e=some (.own x))(k:∀ b u,b≠e->h.get? b=some u->h'.get? b=some u)(heo:∃ u,h'.get? e=some u):Un fs ex H (upd H x o) h h':=by
 have hx:∀ b,H b=none->b≠x:=fun b n z=>by subst z;rw [n] at mu;exact mu
 have hb:∀ b,H b=none->b≠e:=fun b n z=>by
  subst z
  rcases he with r | r
  ·exact hx b n r
  ·rw [n] at r;cases r
 have hm:∀ b u,H b=some u->¬Mut (some u)->b≠x:=fun b u q nm z=>by subst z;rw [q] at mu;exact nm mu
 refine ⟨fun b u q n _ _=>k b u (hb b n) q,fun b u q n _ _=>⟨u.slots,k b u (hb b n) q⟩,fun b u q n _=>by rw [z_n (hx b n)];exact n,fun b u q _=>?_,
  fun b xs q=>by rw [z_n (hm b _ q fun z=>z)];exact q,fun b u xs q=>by rw [z_n (hm b _ q fun z=>z)];exact q,fun b p q z=>by rw [z_n (hm b _ z fun y=>y)];exact z⟩
 by_cases hbe:b=e
 ·subst hbe;exact heo
 ·exact ⟨u,k b u hbe q⟩
end
def trk(h:Heap)(H:Hp):List Addr:=(List.range h.objs.size).filter fun a=>(H a).isSome
def hidT(h:Heap)(H:Hp):Heap:=PySem.W.hideAll h (trk h H)
theorem hidT_size(h:Heap)(H:Hp):(hidT h H).objs.size=h.objs.size:=PySem.W.hideAll_size _ _
theorem hidT_get{h:Heap}{H:Hp}{b:Addr}{o:Obj}(e:h.get? b=some o)(n:H b=none):(hidT h H).get? b=some o :=
 PySem.W.hideAll_get _ e fun hm=>by
  have q:(H b).isSome=true:=(List.mem_filter.mp hm).2
  rw [n] at q;simp at q
theorem of_hidT{h:Heap}{H:Hp}{b:Addr}{o:Obj}(e:(hidT h H).get? b=some o):h.get? b=some o/\H b=none:=by
 have e':h.get? b=some o:=PySem.W.of_hideAll (trk h H) e
 refine ⟨e',?_⟩
 cases q:H b with
 | none=>rfl
 | some x =>
  have hm:b∈trk h H:=List.mem_filter.mpr ⟨List.mem_range.mpr (Heap.lt_size e'),by simp [q]⟩
  have z:(hidT h H).get? b=none:=PySem.W.hideAll_none (trk h H) hm
  rw [z] at e;cases e
open PySem PySem.Spec PyProof.Rows
structure Mod(K:PySem.W.Frag)(mg:Str->Option Value)(base:Heap):Prop where
 kin:K.In base
 glob:base.Ns mainGlobals mg
 blt:∃ mb,base.Ns builtinsNs mb/\∀ x:Str,x ≠ "__name__" -> mb x=bootBuiltins x
 nolimit:base.NoLimit
structure Cx where
 prog:Program
 w:World
 K:PySem.W.Frag
 mg:Str->Option Value
 base:Heap
 A:Around
 N:List Str
 s₀:Shared
 H₀:Hp
 env:Env
 outer:List Env
 stack:List Env
 ex:List Addr
 fn:Str->Bool
 calm:Bool
 pn:List (Addr×Obj)
 xe:Value->Shared->Prop
def frs(l:List Env):List Addr:=l.filterMap (·.frame)
abbrev Cx.fs(X:Cx):List Addr:=frs X.outer
def Vis(sc:Scope)(x:Str):Prop:=sc.names.lookup x=some .local\/sc.names.lookup x=some .cell\/sc.names.lookup x=some .free
def Loc(sc:Scope)(x:Str):Prop:=sc.names.lookup x=some .local\/sc.names.lookup x=some .cell
def Look(env:Env)(h:Heap)(m:Str->Option Value)(x:Str)(u:Value):Prop :=
 (env.kindOf x=some .local/\m x=some u)\/((env.kindOf x=some .cell\/env.kindOf x=some .free)/\∃ c,env.cells.lookup x=some c/\h.IsCell c (some u))
structure Cx.Ok(X:Cx):Prop where
 mod:Mod X.K X.mg X.base
 kind:X.env.scope.kind = .function
 glob:X.env.globals=mainGlobals
 blt:X.env.builtins=builtinsNs
 above:X.s₀.heap.objs.size<=X.env.locals
 inj:∀ x y c,X.env.cells.lookup x=some c->X.env.cells.lookup y=some c->x=y
 has:∀ x,(X.env.kindOf x=some .cell\/X.env.kindOf x=some .free)->∃ c,X.env.cells.lookup x=some c
 cab:∀ x c,X.fn x=true->X.env.cells.lookup x=some c->X.s₀.heap.objs.size<=c
 hd:X.calm=true->X.A.handled=none
 frames:X.A.frames=some X.stack
 gd:X.A.guards=some []
 stk:X.stack=X.outer\/(X.stack=X.env::X.outer/\X.env.frame=some X.env.locals)
 exf:∀ b∈X.ex,b≠X.env.locals/\∀ x c,X.env.cells.lookup x=some c->c≠b
 bs:∀ b o,X.base.get? b=some o->X.s₀.heap.get? b=some o/\X.H₀ b=none
 bsz:X.base.objs.size<=X.s₀.heap.objs.size
 noex:∀ b o,X.base.get? b=some o->b∉X.ex
 exfs:∀ b∈X.ex,b∉X.fs
 funs:X.s₀.heap.FunFrames X.base X.outer
 frf:∀ b∈X.fs,X.H₀ b=none
structure Inv(X:Cx)(pins:List (Addr×Obj))(σ:List (Option V))(H:Hp)(s:Shared):Prop where
 ok:X.Ok
 os:s.os=X.s₀.os
 bare:AllBare s.gens
 base:Un X.fs X.ex X.H₀ H X.s₀.heap s.heap
 loc:∃ m,s.heap.Ns X.env.locals m/\∀ (i:Nat) (x:Str) (v:V),X.N[i]? = some x->σ[i]? = some (some v)->Vis X.env.scope x->∃ u,RelV v u/\Look X.env s.heap m x u
 cell:∀ x c,X.env.cells.lookup x=some c->∃ v,s.heap.IsCell c v
 free:H X.env.locals=none
 freeC:∀ x c,X.env.cells.lookup x=some c->H c=none
 pin:∀ p∈X.pn++pins,s.heap.get? p.1=some p.2/\H p.1=none/\p.1≠X.env.locals/\p.1∉X.fs/\∀ v,p.2.data ≠ .cell v
 hok:HOk X.prog X.w H s.heap
 len:σ.length=X.N.length
section
variable {X:Cx} {pins:List (Addr×Obj)} {σ:List (Option V)} {H H':Hp} {s:Shared} {h':Heap}
theorem Cx.Ok.nofr(ok:X.Ok){b:Addr}{o:Obj}(e:X.base.get? b=some o):b∉X.fs:=fun hb=>by
 have:=(ok.funs.mem hb).1
 rw [e] at this;cases this
theorem Inv.bs(I:Inv X pins σ H s):∀ b o,X.base.get? b=some o->s.heap.get? b=some o/\H b=none:=fun b o e =>
 ⟨I.base.keep b o (I.ok.bs b o e).1 (I.ok.bs b o e).2 (I.ok.nofr e) (I.ok.noex b o e),I.base.free b o (I.ok.bs b o e).1 (I.ok.bs b o e).2 (I.ok.noex b o e)⟩
theorem Inv.bk(I:Inv X pins σ H s):∀ b o,X.base.get? b=some o->s.heap.get? b=some o:=fun b o e=>(I.bs b o e).1
theorem Inv.mod(I:Inv X pins σ H s):Mod X.K X.mg X.base:=I.ok.mod
theorem Inv.kIn(I:Inv X pins σ H s):X.K.In s.heap:=I.ok.mod.kin.keeps I.bk
theorem Inv.lt(I:Inv X pins σ H s):X.env.locals<s.heap.objs.size:=let ⟨_,hn,_⟩:=I.loc;hn.lt
theorem Inv.sz(I:Inv X pins σ H s):X.s₀.heap.objs.size<=s.heap.objs.size:=Nat.le_trans I.ok.above (Nat.le_of_lt I.lt)
theorem Inv.nofs(I:Inv X pins σ H s){a:Addr}(h:s.heap.objs.size<=a):a∉X.fs:=fun hb=>by
 obtain ⟨_,o,ho,_⟩:=I.ok.funs.mem hb
 exact absurd (Nat.lt_of_lt_of_le (Heap.lt_size ho) (Nat.le_trans I.sz h)) (Nat.lt_irrefl _)
theorem Inv.cne(I:Inv X pins σ H s):∀ x c,X.env.cells.lookup x=some c->c≠X.env.locals:=fun x c e z=>by
 obtain ⟨v,o,ho,hd⟩:=I.cell x c e
 obtain ⟨m,⟨o',es,ep,ho',hd',_⟩,_⟩:=I.loc
 rw [z,ho'] at ho;cases ho;rw [hd'] at hd;cases hd
theorem Inv.funs(I:Inv X pins σ H s):s.heap.FunFrames X.base X.outer:=by
 have all:∀ (l:List Env),(∀ b∈frs l,b∈X.fs)->X.s₀.heap.FunFrames X.base l->s.heap.FunFrames X.base l:=by
  intro l
  induction l with
  | nil=>intro _ _;trivial
  | cons env r ih =>
   intro hs hl
   obtain ⟨hk,⟨L,o,hf,hn,ho,hd⟩,hr⟩:=hl
   have hL:L∈X.fs:=hs L (by unfold frs;rw [List.filterMap_cons,hf];exact List.mem_cons_self)
   obtain ⟨sl,e⟩:=I.base.slot L o ho (I.ok.frf L hL) hL fun z=>I.ok.exfs L z hL
   exact ⟨hk,⟨L,_,hf,hn,e,hd⟩,ih (fun b hb=>hs b (by unfold frs;rw [List.filterMap_cons,hf];exact List.mem_cons_of_mem _ hb)) hr⟩
 exact all X.outer (fun _ hb=>hb) I.ok.funs
theorem Inv.stack(I:Inv X pins σ H s):s.heap.FunFrames X.base X.stack:=by
 rcases I.ok.stk with e | ⟨e,hf⟩
 ·rw [e];exact I.funs
 ·rw [e]
  obtain ⟨m,hn,_⟩:=I.loc
  refine .cons (by rw [I.ok.kind];decide) hf hn ?_ I.funs
  exact Heap.get?_none_of_le (Nat.le_trans I.ok.bsz I.ok.above)
theorem Inv.stkSub(I:Inv X pins σ H s):∀ b∈frs X.stack,b∈X.env.locals::X.fs:=fun b hb=>by
 rcases I.ok.stk with e | ⟨e,hf⟩
 ·rw [e] at hb;exact List.mem_cons_of_mem _ hb
 ·rw [e] at hb
  unfold frs at hb
  rw [List.filterMap_cons,hf] at hb
  exact hb
theorem Inv.stkFree(I:Inv X pins σ H s):∀ b∈frs X.stack,H b=none:=fun b hb=>by
 rcases List.mem_cons.mp (I.stkSub b hb) with e | hb
 ·rw [e];exact I.free
 ·obtain ⟨_,o,ho,_⟩:=I.ok.funs.mem hb
  exact I.base.free b o ho (I.ok.frf b hb) fun z=>I.ok.exfs b z hb
theorem Inv.step{g':Array GenState}{t':Nat}{d':Drawn}{ch:List Addr}(I:Inv X pins σ H s)
  (hch:∀ b∈ch,(b∈X.ex\/X.s₀.heap.objs.size<=b)/\b≠X.env.locals/\(∀ x c,X.env.cells.lookup x=some c->c≠b)/\∀ p∈X.pn++pins,p.1≠b)
  (keep:∀ b o,b≠X.env.locals->b∉X.fs->b∉ch->s.heap.get? b=some o->H b=none->h'.get? b=some o)
  (slot:∀ b o,b≠X.env.locals->b∈X.fs->b∉ch->s.heap.get? b=some o->H b=none->∃ sl,h'.get? b=some { o with slots:=sl }) (free:∀ b o,b∉ch->s.heap.get? b=some o->H b=none->H' b=none)
  (there:∀ b o,b∉ch->s.heap.get? b=some o->∃ o',h'.get? b=some o')
  (tups:∀ b xs,H b=some (.tup xs)->H' b=some (.tup xs)) (frzs:∀ b o u,H b=some (.frz o u)->H' b=some (.frz o u)) (tbls:∀ b p q,H b=some (.tbl p q)->H' b=some (.tbl p q))
  (ns:∀ m,s.heap.Ns X.env.locals m->h'.Ns X.env.locals m) (hok:HOk X.prog X.w H' h') (hg:AllBare g') :
  Inv X pins σ H' { s with heap:=h',gens:=g',drawn:=d',toks:=t' }:=by
 have neL:∀ b o,X.s₀.heap.get? b=some o->b≠X.env.locals:=fun b o e=>Nat.ne_of_lt (Nat.lt_of_lt_of_le (Heap.lt_size e) I.ok.above)
 have neC:∀ b o,X.s₀.heap.get? b=some o->b∉X.ex->b∉ch:=fun b o e hx hb=>by
  rcases (hch b hb).1 with z | z
  ·exact hx z
  ·exact absurd (Nat.lt_of_lt_of_le (Heap.lt_size e) z) (Nat.lt_irrefl _)
 have cellK:∀ x c,X.env.cells.lookup x=some c->∀ v,s.heap.IsCell c v->h'.IsCell c v:=fun x c e v ⟨o,ho,hd⟩=>by
  have nch:c∉ch:=fun z=>(hch c z).2.2.1 x c e rfl
  by_cases hc:c∈X.fs
  ·obtain ⟨sl,q⟩:=slot c o (I.cne x c e) hc nch ho (I.freeC x c e)
   exact ⟨_,q,hd⟩
  ·exact ⟨o,keep c o (I.cne x c e) hc nch ho (I.freeC x c e),hd⟩
 refine ⟨I.ok,I.os,hg,⟨fun b o e n hb hx=>?_,fun b o e n hb hx=>?_,fun b o e n hx=>?_,fun b o e hx=>?_,fun b xs e=>tups b xs (I.base.tups b xs e),fun b o xs e=>frzs b o xs (I.base.frzs b o xs e),fun b p q e=>tbls b p q (I.base.tbls b p q e)⟩,?_,fun x c e=>?_,?_,fun x c e=>?_,fun p hp=>?_,hok,I.len⟩
 ·exact keep b o (neL b o e) hb (neC b o e hx) (I.base.keep b o e n hb hx) (I.base.free b o e n hx)
 ·obtain ⟨sl,e1⟩:=I.base.slot b o e n hb hx
  obtain ⟨sl',e2⟩:=slot b _ (neL b o e) hb (neC b o e hx) e1 (I.base.free b o e n hx)
  exact ⟨sl',e2⟩
 ·obtain ⟨o',e1⟩:=I.base.there b o e hx
  exact free b o' (neC b o e hx) e1 (I.base.free b o e n hx)
 ·obtain ⟨o',e1⟩:=I.base.there b o e hx
  exact there b o' (neC b o e hx) e1
 ·obtain ⟨m,hn,hl⟩:=I.loc
  refine ⟨m,ns m hn,fun i x v e1 e2 e3=>?_⟩
  obtain ⟨u,r,l⟩:=hl i x v e1 e2 e3
  refine ⟨u,r,?_⟩
  rcases l with l | ⟨k,c,e,z⟩
  ·exact .inl l
  ·exact .inr ⟨k,c,e,cellK x c e _ z⟩
 ·obtain ⟨v,z⟩:=I.cell x c e
  exact ⟨v,cellK x c e v z⟩
 ·obtain ⟨m,⟨o,_,_,ho,_⟩,_⟩:=I.loc
  exact free _ o (fun z=>(hch _ z).2.1 rfl) ho I.free
 ·obtain ⟨v,o,ho,hd⟩:=I.cell x c e
  exact free c o (fun z=>(hch c z).2.2.1 x c e rfl) ho (I.freeC x c e)
 ·obtain ⟨e,n,ne,nf,d⟩:=I.pin p hp
  have nch:p.1∉ch:=fun z=>(hch p.1 z).2.2.2 p hp rfl
  exact ⟨keep p.1 p.2 ne nf nch e n,free p.1 p.2 nch e n,ne,nf,d⟩
theorem Inv.un{t':Nat}(I:Inv X pins σ H s)(u:Un X.fs [] H H' s.heap h')(hok:HOk X.prog X.w H' h'):Inv X pins σ H' { s with heap:=h',toks:=t' }:=by
 obtain ⟨m,⟨o,es,ep,ho,r⟩,_⟩:=id I.loc
 obtain ⟨sl,hL⟩:=u.any ho I.free (by simp)
 exact I.step (g':=s.gens) (d':=s.drawn) (ch:=[]) (fun _ z=>nomatch z) (fun b o _ hb _ e n=>u.keep b o e n hb (by simp)) (fun b o _ hb _ e n=>u.slot b o e n hb (by simp)) (fun b o _ e n=>u.free b o e n (by simp)) (fun b o _ e=>u.there b o e (by simp)) u.tups u.frzs u.tbls (fun m' hm=>by
  obtain ⟨o',es',ep',ho',r'⟩:=hm
  rw [ho] at ho';cases ho'
  exact ⟨_,es',ep',hL,r'⟩) hok I.bare
theorem Inv.call{g':Array GenState}{t':Nat}{d':Drawn}{ch:List Addr}(I:Inv X pins σ H s)(u:Un (frs X.stack) ch H H' s.heap h')(hok:HOk X.prog X.w H' h')(hg:AllBare g')
  (hch:∀ b∈ch,(b∈X.ex\/X.s₀.heap.objs.size<=b)/\b≠X.env.locals/\(∀ x c,X.env.cells.lookup x=some c->c≠b)/\∀ p∈X.pn++pins,p.1≠b) :
  Inv X pins σ H' { s with heap:=h',gens:=g',drawn:=d',toks:=t' }:=by
 obtain ⟨m,⟨o,es,ep,ho,r⟩,_⟩:=id I.loc
 obtain ⟨sl,hL⟩:=u.any ho I.free fun z=>(hch _ z).2.1 rfl
 exact I.step (ch:=ch) hch (fun b o hL hb hc e n=>u.keep b o e n (fun z=>(List.mem_cons.mp (I.stkSub b z)).elim hL hb) hc) (fun b o _ _ hc e n=>u.any e n hc) (fun b o hc e n=>u.free b o e n hc) (fun b o hc e=>u.there b o e hc) u.tups u.frzs u.tbls (fun m' hm=>by
  obtain ⟨o',es',ep',ho',r'⟩:=hm
  rw [ho] at ho';cases ho'
  exact ⟨_,es',ep',hL,r'⟩) hok hg
theorem Inv.turned{t':Nat}{it:Addr}(I:Inv X pins σ H s)(k:∀ b o,b≠it->s.heap.get? b=some o->h'.get? b=some o)(hn:H it=none)(hL:it≠X.env.locals)
  (h1:it∈X.ex\/X.s₀.heap.objs.size<=it) (h2:∀ x c,X.env.cells.lookup x=some c->c≠it) (h3:∀ p∈X.pn++pins,p.1≠it):Inv X pins σ H { s with heap:=h',toks:=t' }:=by
 have nit:∀ b u,H b=some u->b≠it:=fun b u e z=>by rw [z,hn] at e;cases e
 refine I.step (g':=s.gens) (d':=s.drawn) (ch:=[it]) (fun b hb=>?_) (fun b o _ _ hc e _=>k b o (fun z=>hc (by simp [z])) e) (fun b o _ _ hc e _=>⟨o.slots,k b o (fun z=>hc (by simp [z])) e⟩) (fun _ _ _ _ n=>n)
  (fun b o hc e=>⟨o,k b o (fun z=>hc (by simp [z])) e⟩) (fun _ _ e=>e) (fun _ _ _ e=>e) (fun _ _ _ e=>e) (fun m hm=>?_) (fun b u e=>?_) I.bare
 ·have e:b=it:=by simpa using hb
  subst e
  exact ⟨h1,hL,h2,h3⟩
 ·obtain ⟨o,es,ep,ho,r⟩:=hm
  exact ⟨o,es,ep,k _ o (Ne.symm hL) ho,r⟩
 ·refine (I.hok b u e).stay (fun c v hc q=>k c v ?_ q) (fun _ q=>q) (fun _ _ q=>q) fun _ _ _ q=>q
  rcases hc with z | z
  ·rw [z];exact nit b u e
  ·exact nit c _ z
theorem Inv.tok(I:Inv X pins σ H s)(t:Nat):Inv X pins σ H { s with toks:=t }:=I.un (h':=s.heap) (t':=t) Un.refl I.hok
theorem Inv.kept{t':Nat}(I:Inv X pins σ H s)(k:∀ b u,s.heap.get? b=some u->h'.get? b=some u):Inv X pins σ H { s with heap:=h',toks:=t' }:=I.un (Un.kept k) (I.hok.kept k)
theorem Inv.laid{a:Addr}{o:HO}{t':Nat}(I:Inv X pins σ H s)(k:∀ b u,s.heap.get? b=some u->h'.get? b=some u)(hp:s.heap.objs.size<=a)(new:ObjOk X.prog X.w (upd H a o) h' a o) :
  Inv X pins σ (upd H a o) { s with heap:=h',toks:=t' }:=I.un (Un.laid k hp (I.hok.fresh hp)) (I.hok.laid k hp new)
theorem Inv.write{x e:Addr}{o:HO}{t':Nat}(I:Inv X pins σ H s)(mu:Mut (H x))(he:e=x\/H e=some (.own x))(k:∀ b u,b≠e->s.heap.get? b=some u->h'.get? b=some u)(heo:∃ u,h'.get? e=some u)
  (new:ObjOk X.prog X.w (upd H x o) h' x o):Inv X pins σ (upd H x o) { s with heap:=h',toks:=t' }:=I.un (Un.write mu he k heo) (I.hok.write mu he k heo new)
theorem Inv.pins_of{pins':List (Addr×Obj)}(I:Inv X pins σ H s)(h:∀ p∈pins',s.heap.get? p.1=some p.2/\H p.1=none/\p.1≠X.env.locals/\p.1∉X.fs/\∀ v,p.2.data ≠ .cell v):Inv X pins' σ H s :=
 ⟨I.ok,I.os,I.bare,I.base,I.loc,I.cell,I.free,I.freeC,fun p hp=>(List.mem_append.mp hp).elim (fun z=>I.pin p (List.mem_append_left _ z)) (h p),I.hok,I.len⟩
theorem nodup_ix{N:List Str}(hN:N.Nodup){i j:Nat}{x:Str}(a:N[i]? = some x)(b:N[j]? = some x):i=j:=by
 obtain ⟨h1,e1⟩:=List.getElem?_eq_some_iff.mp a
 obtain ⟨h2,e2⟩:=List.getElem?_eq_some_iff.mp b
 exact (List.getElem_inj hN).mp (e1.trans e2.symm)
theorem store_ok2{M:Model}{A:Around}{E:Value->Shared->Prop}{i:Nat}{x:Str}{v:V}{u:Value}{Q:Unit->Shared->Prop}(I:Inv X pins σ H s)(hN:X.N.Nodup)(hi:X.N[i]? = some x)(hx:Loc X.env.scope x)(r:RelV v u)
  (h:∀ s',Inv X pins (σ.set i (some v)) H s'->(∃ a,Heap.SameBut a s.heap s'.heap/\(a=X.env.locals\/X.env.cells.lookup x=some a))->Q () s') (hf:X.fn x=true\/X.env.scope.names.lookup x=some .local:=by first | exact .inl rfl | exact .inr rfl | assumption):wpAny M A (storeName X.env x u) Q E s:=by
 obtain ⟨m,hn,hl⟩:=id I.loc
 have hcls:(X.env.scope.kind == .class || (X.env.scope.kind == .module&&X.env.locals != X.env.globals))=false:=by rw [I.ok.kind];rfl
 have hiσ:i<σ.length:=by rw [I.len];exact (List.getElem?_eq_some_iff.mp hi).1
 have cne:=I.cne
 have tracked:∀ {a:Addr} {h':Heap},(∃ o,s.heap.get? a=some o/\H a=none)->Heap.SameBut a s.heap h'->HOk X.prog X.w H h':=fun {a h'} ha hs b ob e=>by
  obtain ⟨_,_,hfree⟩:=ha
  refine (I.hok b ob e).stay (fun c w' hc q=>(hs.2 c ?_).trans q) (fun _ q=>q) (fun _ _ q=>q) fun _ _ _ q=>q
  rintro rfl
  rcases hc with rfl | hc
  ·rw [hfree] at e;cases e
  ·rw [hfree] at hc;cases hc
 rcases hx with hk | hk
 ·refine wpAny_storeName_local hk hn (fun h' hn' hs=>?_) hcls
  obtain ⟨oL,_,_,hoL,_⟩:=id hn
  refine h _ ⟨I.ok,I.os,I.bare,⟨fun b o e n hb hx=>?_,fun b o e n hb hx=>?_,I.base.free,fun b o e hx=>?_,I.base.tups,I.base.frzs,I.base.tbls⟩,⟨_,hn',fun j y v' e1 e2 e3=>?_⟩,fun y c e=>?_,I.free,I.freeC,fun p hp=>?_,tracked ⟨oL,hoL,I.free⟩ hs,by simpa using I.len⟩ ⟨_,hs,.inl rfl⟩
  ·exact (hs.2 b (Nat.ne_of_lt (Nat.lt_of_lt_of_le (Heap.lt_size e) I.ok.above))).trans (I.base.keep b o e n hb hx)
  ·obtain ⟨sl,e1⟩:=I.base.slot b o e n hb hx
   exact ⟨sl,(hs.2 b (Nat.ne_of_lt (Nat.lt_of_lt_of_le (Heap.lt_size e) I.ok.above))).trans e1⟩
  ·obtain ⟨o',e1⟩:=I.base.there b o e hx
   exact ⟨o',(hs.2 b (Nat.ne_of_lt (Nat.lt_of_lt_of_le (Heap.lt_size e) I.ok.above))).trans e1⟩
  ·by_cases hj:j=i
   ·subst hj
    rw [hi] at e1;cases e1
    rw [List.getElem?_set_self hiσ] at e2
    cases e2
    exact ⟨u,r,.inl ⟨hk,by simp⟩⟩
   ·rw [List.getElem?_set_ne (Ne.symm hj)] at e2
    obtain ⟨u',r',q⟩:=hl j y v' e1 e2 e3
    refine ⟨u',r',?_⟩
    rcases q with ⟨k,e⟩ | ⟨k,c,e,z⟩
    ·refine .inl ⟨k,?_⟩
     have:y≠x:=fun e=>hj (nodup_ix hN e1 (e▸hi))
     simp [this,e]
    ·exact .inr ⟨k,c,e,z.sameBut hs (cne y c e)⟩
  ·obtain ⟨w',z⟩:=I.cell y c e
   exact ⟨w',z.sameBut hs (cne y c e)⟩
  ·obtain ⟨e,n,ne,nf,d⟩:=I.pin p hp
   exact ⟨(hs.2 p.1 ne).trans e,n,ne,nf,d⟩
 ·have hfn:X.fn x=true:=by
   rcases hf with z | z
   ·exact z
   ·rw [z] at hk;cases hk
  obtain ⟨c,hc⟩:=I.ok.has x (.inl hk)
  obtain ⟨w',z⟩:=I.cell x c hc
  refine wpAny_storeName_cell I.ok.kind hk hc z (fun h' hc' hs=>?_)
  obtain ⟨oc,hoc,hocd⟩:=id z
  refine h { s with heap:=h' } ⟨I.ok,I.os,I.bare,⟨fun b o e n hb hx=>?_,fun b o e n hb hx=>?_,I.base.free,fun b o e hx=>?_,I.base.tups,I.base.frzs,I.base.tbls⟩,⟨m,hn.sameBut hs (Ne.symm (cne x c hc)),fun j y v' e1 e2 e3=>?_⟩,fun y c' e=>?_,I.free,I.freeC,fun p hp=>?_,tracked ⟨oc,hoc,I.freeC x c hc⟩ hs,by simpa using I.len⟩ ⟨c,hs,.inr hc⟩
  ·exact (hs.2 b (Nat.ne_of_lt (Nat.lt_of_lt_of_le (Heap.lt_size e) (I.ok.cab x c hfn hc)))).trans (I.base.keep b o e n hb hx)
  ·obtain ⟨sl,e1⟩:=I.base.slot b o e n hb hx
   exact ⟨sl,(hs.2 b (Nat.ne_of_lt (Nat.lt_of_lt_of_le (Heap.lt_size e) (I.ok.cab x c hfn hc)))).trans e1⟩
  ·obtain ⟨o',e1⟩:=I.base.there b o e hx
   exact ⟨o',(hs.2 b (Nat.ne_of_lt (Nat.lt_of_lt_of_le (Heap.lt_size e) (I.ok.cab x c hfn hc)))).trans e1⟩
  ·by_cases hj:j=i
   ·subst hj
    rw [hi] at e1;cases e1
    rw [List.getElem?_set_self hiσ] at e2
    cases e2
    exact ⟨u,r,.inr ⟨.inl hk,c,hc,hc'⟩⟩
   ·rw [List.getElem?_set_ne (Ne.symm hj)] at e2
    obtain ⟨u',r',q⟩:=hl j y v' e1 e2 e3
    refine ⟨u',r',?_⟩
    rcases q with q | ⟨k,c',e,z'⟩
    ·exact .inl q
    ·refine .inr ⟨k,c',e,z'.sameBut hs ?_⟩
     rintro rfl
     exact hj (nodup_ix hN e1 (I.ok.inj _ _ _ e hc▸hi))
  ·by_cases hcc:c'=c
   ·subst hcc;exact ⟨_,hc'⟩
   ·obtain ⟨w2,z2⟩:=I.cell y c' e
    exact ⟨w2,z2.sameBut hs hcc⟩
  ·obtain ⟨e,n,ne,nf,d⟩:=I.pin p hp
   refine ⟨(hs.2 p.1 ?_).trans e,n,ne,nf,d⟩
   intro q
   rw [q,hoc] at e
   have q':oc=p.2:=Option.some.inj e
   exact d w' (by rw [<-q'];exact hocd)
theorem store_ok{M:Model}{A:Around}{E:Value->Shared->Prop}{i:Nat}{x:Str}{v:V}{u:Value}{Q:Unit->Shared->Prop}(I:Inv X pins σ H s)(hN:X.N.Nodup)(hi:X.N[i]? = some x)(hx:Loc X.env.scope x)(r:RelV v u)
  (h:∀ s',Inv X pins (σ.set i (some v)) H s'->Q () s') (hf:X.fn x=true\/X.env.scope.names.lookup x=some .local:=by first | exact .inl rfl | exact .inr rfl | assumption):wpAny M A (storeName X.env x u) Q E s :=
 store_ok2 I hN hi hx r (fun s' I' _=>h s' I') hf
theorem Inv.call'{s':Shared}{ch:List Addr}(I:Inv X pins σ H s)(ho:s'.os=s.os)(u:Un (frs X.stack) ch H H' s.heap s'.heap)(hok:HOk X.prog X.w H' s'.heap)(hg:AllBare s'.gens)
  (hch:∀ b∈ch,(b∈X.ex\/X.s₀.heap.objs.size<=b)/\b≠X.env.locals/\(∀ x c,X.env.cells.lookup x=some c->c≠b)/\∀ p∈X.pn++pins,p.1≠b):Inv X pins σ H' s':=by
 obtain ⟨h',g',d',t',o'⟩:=s'
 have e:o'=s.os:=ho
 subst e
 exact I.call (g':=g') (t':=t') (d':=d') u hok hg hch
end
abbrev XK:=Value->Option Addr->Hp->Prop
abbrev St:=List (Option V)
abbrev VK:=V->Hp->Prop
abbrev TE:=St->Hp->VK->Prop
abbrev TT:=St->Hp->(Bool->Hp->Prop)->Prop
abbrev TA:=St->Hp->(List V->Hp->Prop)->Prop
structure Ends where
 nx:St->Hp->Prop
 rt:VK
 bk:St->Hp->Prop:=fun _ _=>False
 ct:St->Hp->Prop:=fun _ _=>False
abbrev TS:=Ends->St->Hp->Prop
def EP(X:Cx)(pins:List (Addr×Obj))(σ:St)(Q:VK)(u:Value)(s':Shared):Prop:=∃ v H',Inv X pins σ H' s'/\RelV v u/\Q v H'
def TP(X:Cx)(pins:List (Addr×Obj))(σ:St)(Q:Bool->Hp->Prop)(b:Bool)(s':Shared):Prop:=∃ H',Inv X pins σ H' s'/\Q b H'
def AP(X:Cx)(pins:List (Addr×Obj))(σ:St)(Q:List V->Hp->Prop)(us:List Value)(s':Shared):Prop:=∃ vs H',Inv X pins σ H' s'/\Vals vs us/\Q vs H'
def SP(X:Cx)(pins:List (Addr×Obj))(D:Ends)(f:Flow)(s':Shared):Prop :=
 match f with
 | .next=>∃ σ' H',Inv X pins σ' H' s'/\D.nx σ' H'
 | .brk=>∃ σ' H',Inv X pins σ' H' s'/\D.bk σ' H'
 | .cont=>∃ σ' H',Inv X pins σ' H' s'/\D.ct σ' H'
 | .ret u=>∃ v σ' H',Inv X pins σ' H' s'/\RelV v u/\D.rt v H'
def PE(X:Cx)(e:Expr)(t:TE):Prop :=
 ∀ (pins:List (Addr×Obj)) (s:Shared) (σ:St) (H:Hp) (Q:VK),Inv X pins σ H s->t σ H Q->wpAny (model X.prog X.w) X.A (eval e X.env) (EP X pins σ Q) X.xe s
def PT(X:Cx)(e:Expr)(t:TT):Prop :=
 ∀ (pins:List (Addr×Obj)) (s:Shared) (σ:St) (H:Hp) (Q:Bool->Hp->Prop),Inv X pins σ H s->t σ H Q->wpAny (model X.prog X.w) X.A (isTrue e X.env (eval e X.env)) (TP X pins σ Q) X.xe s
def PW(X:Cx)(e:Expr)(t:TT):Prop :=
 ∀ (whole:Sem Value) (pins:List (Addr×Obj)) (s:Shared) (σ:St) (H:Hp) (Q:Bool->Hp->Prop),Inv X pins σ H s->t σ H Q->wpAny (model X.prog X.w) X.A (isTrue e X.env whole) (TP X pins σ Q) X.xe s
theorem PW.pt{X:Cx}{e:Expr}{t:TT}(h:PW X e t):PT X e t:=h _
def PA(X:Cx)(es:List Expr)(t:TA):Prop :=
 ∀ (pos:Pos) (pins:List (Addr×Obj)) (s:Shared) (σ:St) (H:Hp) (Q:List V->Hp->Prop),Inv X pins σ H s->t σ H Q->wpAny (model X.prog X.w) X.A (spliced (backTo pos (starEach es X.env))) (AP X pins σ Q) X.xe s
def PS(X:Cx)(st:Stmt)(t:TS):Prop :=
 ∀ (pins:List (Addr×Obj)) (s:Shared) (σ:St) (H:Hp) (D:Ends),Inv X pins σ H s->t D σ H->wpAny (model X.prog X.w) X.A (exec st X.env) (SP X pins D) X.xe s
def PSs(X:Cx)(st:List Stmt)(t:TS):Prop :=
 ∀ (pins:List (Addr×Obj)) (s:Shared) (σ:St) (H:Hp) (D:Ends),Inv X pins σ H s->t D σ H->wpAny (model X.prog X.w) X.A (execs st X.env) (SP X pins D) X.xe s
theorem thn{α:Type}{t:Sem α}{Q Q':α->Shared->Prop}{M:Model}{A:Around}{E:Value->Shared->Prop}{s:Shared}(h:wpAny M A t Q E s)(hQ:∀ a s,Q a s->Q' a s):wpAny M A t Q' E s:=wpAny_mono h hQ fun _ _ x=>x
open PySem PySem.Spec PyProof.Rows
section
variable {X:Cx}
def tVar(i:Nat):TE:=fun σ H Q=>∃ v,σ[i]? = some (some v)/\Q v H
def tC(v:V):TE:=fun _ H Q=>Q v H
theorem pe_var{i:Nat}{x:Str}{pos:Pos}(hN:X.N[i]? = some x)(hv:Vis X.env.scope x)(hd:(x == ("__debug__" : Str))=false:=by decide)(hcd:(x == ("__classdict__" : Str))=false:=by decide):PE X (.Name x pos) (tVar i):=by
 intro pins s σ H Q I h
 obtain ⟨v,e,h⟩:=h
 obtain ⟨m,hn,hl⟩:=I.loc
 obtain ⟨u,r,l⟩:=hl i x v hN e hv
 have fin:EP X pins σ Q u s:=⟨v,H,I,r,h⟩
 rcases l with ⟨hk,hm⟩ | ⟨hk,c,hc,hcell⟩
 ·exact wpAny_Name (wpAny_loadName_local I.ok.kind hk hn hm fin) hd
 ·rcases hk with hk | hk
  ·exact wpAny_Name (wpAny_loadName_cell I.ok.kind hk hc hcell fin) hd
  ·exact wpAny_Name (wpAny_loadName_free I.ok.kind hk hc hcell fin hcd) hd
theorem z_b{i j pos}:PE X (.Constant (.int i) j pos) (tC (.int i)):=fun _ _ _ H _ I h=>wpAny_Constant_int ⟨.int i,H,I.tok _,⟨_,rfl⟩,h⟩
theorem pe_bl{b j pos}:PE X (.Constant (.bool b) j pos) (tC (.bl b)):=fun _ _ _ H _ I h=>Constant_bool ⟨.bl b,H,I,rfl,h⟩
theorem pe_non{j pos}:PE X (.Constant .none j pos) (tC .non):=fun _ _ _ H _ I h=>Constant_none ⟨.non,H,I,rfl,h⟩
theorem pe_str{x j pos}:PE X (.Constant (.str x) j pos) (tC (.str x)):=fun _ _ _ H _ I h=>Calls.Constant_str ⟨.str x,H,I.tok _,⟨_,rfl⟩,h⟩
def Gl(X:Cx)(x:Str):Prop:=X.env.kindOf x=some .globalImplicit
theorem ld_glob{E:Value->Shared->Prop}{pins:List (Addr×Obj)}{s:Shared}{σ:St}{H:Hp}{x:Str}{u:Value}{pos:Pos}{Q:Value->Shared->Prop}(I:Inv X pins σ H s)(hg:Gl X x)(hm:X.mg x=some u)(h:Q u s)
  (hd:(x == ("__debug__" : Str))=false:=by decide):wpAny (model X.prog X.w) X.A (eval (.Name x pos) X.env) Q E s :=
 Calls.Name_function_global I.ok.kind hg (Calls.loadGlobal_global (by rw [I.ok.glob];exact I.mod.glob.keeps I.bk) hm h) hd
theorem ld_blt{E:Value->Shared->Prop}{pins:List (Addr×Obj)}{s:Shared}{σ:St}{H:Hp}{x:Str}{u:Value}{pos:Pos}{Q:Value->Shared->Prop}(I:Inv X pins σ H s)(hg:Gl X x)(hm:X.mg x=none)(hv:bootBuiltins x=some u)(h:Q u s)
  (hn:x ≠ "__name__" := by decide) (hd:(x == ("__debug__" : Str))=false:=by decide):wpAny (model X.prog X.w) X.A (eval (.Name x pos) X.env) Q E s:=by
 obtain ⟨mb,h1,h2⟩:=I.mod.blt
 exact Calls.Name_function_global I.ok.kind hg (Calls.loadGlobal_builtin (by rw [I.ok.glob];exact I.mod.glob.keeps I.bk) hm (by rw [I.ok.blt];exact h1.keeps I.bk) ((h2 x hn).trans hv) h) hd
theorem pe_glob{x:Str}{v:V}{u:Value}{pos:Pos}(hg:Gl X x)(hm:X.mg x=some u)(r:RelV v u)(hd:(x == ("__debug__" : Str))=false:=by decide):PE X (.Name x pos) (tC v) :=
 fun _ _ _ H _ I h=>ld_glob I hg hm ⟨v,H,I,r,h⟩ hd
theorem pe_bltn{x:Str}{v:V}{u:Value}{pos:Pos}(hg:Gl X x)(hm:X.mg x=none)(hv:bootBuiltins x=some u)(r:RelV v u)(hn:x ≠ "__name__" := by decide)(hd:(x == ("__debug__" : Str))=false:=by decide):PE X (.Name x pos) (tC v) :=
 fun _ _ _ H _ I h=>ld_blt I hg hm hv ⟨v,H,I,r,h⟩ hn hd
variable {a b:Expr} {ta tb:TE} {pos:Pos}
def PC(X:Cx)(op:CmpOp)(a b:Expr)(t:TE):Prop :=
 ∀ (pins:List (Addr×Obj)) (s:Shared) (σ:St) (H:Hp) (Q:VK),Inv X pins σ H s->t σ H Q ->
  wpAny (model X.prog X.w) X.A (eval a X.env) (fun v s₁=>wpAny (model X.prog X.w) X.A (eval b X.env) (fun u s₂=>wpAny (model X.prog X.w) X.A (compareOp op v u) (EP X pins σ Q) X.xe s₂) X.xe s₁) X.xe s
theorem nobehind(b:Expr){op:CmpOp}(h:op ≠ .In)(h2:op ≠ .NotIn):behindInMarks op b=false:=by
 have e1:(op == CmpOp.In)=false:=by cases op<;>first | rfl | exact absurd rfl h
 have e2:(op == CmpOp.NotIn)=false:=by cases op<;>first | rfl | exact absurd rfl h2
 cases b<;>simp [behindInMarks,e1,e2]
def tB(t:TE):TT:=fun σ H Q=>t σ H fun x H1=>∃ c,x = .bl c/\Q c H1
theorem pt_cmp{op:CmpOp}{t:TE}(h:PC X op a b t)(h1:behindInMarks op b=false:=by first | exact nobehind _ (by decide) (by decide) | rfl):PT X (.Compare a [op] [b] pos) (tB t):=by
 intro pins s σ H Q I hw
 refine wpAny_isTrue_Compare1 (thn (h pins s σ H _ I hw) fun v s1 h1=>thn h1 fun u s2 h2=>thn h2 fun c s3 ⟨x,H1,I1,r1,q1⟩=>?_) h1
 obtain ⟨d,rfl,q⟩:=q1
 cases r1
 exact wpAny_truthy_bool ⟨H1,I1,q⟩
variable {tA tB':TT} {rest:List Expr}
def tAnd(t u:TT):TT:=fun σ H Q=>t σ H fun c H1=>if c=true then u σ H1 Q else Q false H1
def tOr(t u:TT):TT:=fun σ H Q=>t σ H fun c H1=>if c=true then Q true H1 else u σ H1 Q
def tNot(t:TT):TT:=fun σ H Q=>t σ H fun c H1=>Q (!c) H1
theorem pw_and1(ha:PT X a tA):PW X (.BoolOp .And [a] pos) tA:=by
 intro wh pins s σ H Q I h
 refine isTrue_and (thn (ha pins s σ H Q I h) fun c s1 e=>?_)
 cases c with
 | true=>exact isTrue_and_nil e
 | false=>exact e
theorem pw_or1(ha:PT X a tA):PW X (.BoolOp .Or [a] pos) tA:=by
 intro wh pins s σ H Q I h
 refine isTrue_or (thn (ha pins s σ H Q I h) fun c s1 e=>?_)
 cases c with
 | false=>exact isTrue_or_nil e
 | true=>exact e
theorem pw_and(ha:PT X a tA)(hb:PW X (.BoolOp .And (b::rest) pos) tB'):PW X (.BoolOp .And (a::b::rest) pos) (tAnd tA tB'):=by
 intro wh pins s σ H Q I h
 refine isTrue_and (thn (ha pins s σ H _ I h) fun c s1 ⟨H1,I1,q1⟩=>?_)
 cases c with
 | true=>exact hb wh pins s1 σ H1 Q I1 q1
 | false=>exact ⟨H1,I1,q1⟩
theorem pw_or(ha:PT X a tA)(hb:PW X (.BoolOp .Or (b::rest) pos) tB'):PW X (.BoolOp .Or (a::b::rest) pos) (tOr tA tB'):=by
 intro wh pins s σ H Q I h
 refine isTrue_or (thn (ha pins s σ H _ I h) fun c s1 ⟨H1,I1,q1⟩=>?_)
 cases c with
 | true=>exact ⟨H1,I1,q1⟩
 | false=>exact hb wh pins s1 σ H1 Q I1 q1
theorem pt_not(ha:PT X a tA):PT X (.UnaryOp .Not a pos) (tNot tA):=by
 intro pins s σ H Q I h
 exact isTrue_not (ha pins s σ H (fun c H1=>Q (!c) H1) I h)
def tAndV(ta tb:TE):TE:=fun σ H Q=>ta σ H fun x H1=>∃ c,x = .bl c/\if c=true then tb σ H1 Q else Q (.bl false) H1
def tNotV(ta:TE):TE:=fun σ H Q=>ta σ H fun x H1=>∃ c,x = .bl c/\Q (.bl (!c)) H1
theorem pe_one{op}{t:TE}(h:PE X a t):PE X (.BoolOp op [a] pos) t:=fun pins s σ H Q I hw=>BoolOp_one (h pins s σ H Q I hw)
theorem pe_and(ha:PE X a ta)(hb:PE X (.BoolOp .And (b::rest) pos) tb):PE X (.BoolOp .And (a::b::rest) pos) (tAndV ta tb):=by
 intro pins s σ H Q I h
 refine BoolOp_and (thn (ha pins s σ H _ I h) fun v s1 ⟨x,H1,I1,r1,q1⟩=>?_)
 obtain ⟨c,rfl,q1⟩:=q1
 cases r1
 refine wpAny_truthy_bool ?_
 cases c with
 | true=>exact hb pins s1 σ H1 Q I1 q1
 | false=>exact ⟨.bl false,H1,I1,rfl,q1⟩
theorem pe_not(ha:PE X a ta):PE X (.UnaryOp .Not a pos) (tNotV ta):=by
 intro pins s σ H Q I h
 refine UnaryOp_ (thn (ha pins s σ H _ I h) fun v s1 ⟨x,H1,I1,r1,q1⟩=>?_)
 obtain ⟨c,rfl,q1⟩:=q1
 cases r1
 exact not_of (wpAny_truthy_bool ⟨.bl (!c),H1,I1,rfl,q1⟩)
def tIf(t:TT)(ta tb:TE):TE:=fun σ H Q=>t σ H fun c H1=>if c=true then ta σ H1 Q else tb σ H1 Q
theorem pe_ifExp{c:Expr}(hc:PT X c tA)(ha:PE X a ta)(hb:PE X b tb):PE X (.IfExp c a b pos) (tIf tA ta tb):=by
 intro pins s σ H Q I h
 refine wpAny_IfExp (thn (hc pins s σ H _ I h) fun d s1 ⟨H1,I1,q1⟩=>?_)
 cases d with
 | true=>exact ha pins s1 σ H1 Q I1 q1
 | false=>exact hb pins s1 σ H1 Q I1 q1
end
open PySem PySem.Spec PyProof.Rows
def SqL(K:PySem.W.Frag)(H:Hp)(a:Addr)(xs:List V):Prop :=
 Rd H a (.lst xs) \/
  ∃ (o:Obj) (its:Array Value) (n:Nat),K.lookup a=some o/\o.cls = .type "list" /\ o.dict=none/\o.data = .seq its n/\its.size<=sizeLine/\Vals xs its.toList
def SqT(K:PySem.W.Frag)(H:Hp)(a:Addr)(xs:List V):Prop :=
 Rd H a (.tup xs) \/
  ∃ (o:Obj) (its:Array Value) (n:Nat),K.lookup a=some o/\o.cls = .type "tuple" /\ o.data = .seq its n/\its.size<=sizeLine/\Vals xs its.toList
def absV:Value->Option V
 | .none=>some .non
 | .bool b=>some (.bl b)
 | .int i _=>some (.int i)
 | .str x _=>some (.str x)
 | .bytes b _=>some (.byt b)
 | .float b _=>some (.flt b)
 | .ref a=>some (.ref a)
 | .type n=>some (.ty n)
 | _=>none
theorem RelV.abs{x:V}{u:Value}(r:RelV x u):absV u=some x:=by
 cases x with
 | non=>cases r;rfl
 | bl _=>cases r;rfl
 | int _=>obtain ⟨t,rfl⟩:=r;rfl
 | str _=>obtain ⟨t,rfl⟩:=r;rfl
 | byt _=>obtain ⟨t,rfl⟩:=r;rfl
 | flt _=>obtain ⟨t,rfl⟩:=r;rfl
 | ref _=>cases r;rfl
 | ty _=>cases r;rfl
theorem RelV.inj{x y:V}{u:Value}(r:RelV x u)(q:RelV y u):x=y:=Option.some.inj (r.abs.symm.trans q.abs)
theorem Vals.inj:∀ {xs ys:List V} {us:List Value},Vals xs us->Vals ys us->xs=ys
 | _,_,_,.nil,.nil=>rfl
 | _,_,_,.cons r t,.cons r' t'=>by rw [r.inj r',Vals.inj t t']
section
variable {X:Cx} {pins:List (Addr×Obj)} {σ:St} {H:Hp} {s:Shared} {a:Addr} {xs ys:List V}
theorem SqL.of{K:PySem.W.Frag}(h:H a=some (.lst xs)):SqL K H a xs:=.inl (.inl h)
theorem SqT.of{K:PySem.W.Frag}(h:H a=some (.tup xs)):SqT K H a xs:=.inl (.inl h)
theorem Inv.list(I:Inv X pins σ H s)(h:SqL X.K H a xs):∃ its:List Value,Vals xs its/\PlainL s.heap a its.toArray/\xs.length<=sizeLine:=by
 rcases h with h | ⟨o,its,n,hk,hc,hd,hs,hz,r⟩
 ·obtain ⟨z,its,n,r,e⟩:=h.ok I.hok
  exact ⟨its,r,⟨_,n,e,rfl,rfl,rfl⟩,z⟩
 ·refine ⟨its.toList,r,⟨o,n,I.kIn a o hk,hc,hd,by simpa using hs⟩,?_⟩
  have e:=r.length
  simp only [Array.length_toList] at e
  lia
theorem Inv.tuple(I:Inv X pins σ H s)(h:SqT X.K H a xs):∃ its:List Value,Vals xs its/\IsTup s.heap a its.toArray/\xs.length<=sizeLine:=by
 rcases h with h | ⟨o,its,n,hk,hc,hs,hz,r⟩
 ·obtain ⟨z,its,r,p⟩:=h.ok I.hok
  exact ⟨its,r,p,z⟩
 ·refine ⟨its.toList,r,⟨o,I.kIn a o hk,hc,n,by simpa using hs⟩,?_⟩
  have e:=r.length
  simp only [Array.length_toList] at e
  lia
theorem Inv.list_inj(I:Inv X pins σ H s)(h:SqL X.K H a xs)(h':SqL X.K H a ys):xs=ys:=by
 obtain ⟨its,r,⟨o,n,e,_,_,d⟩,_⟩:=I.list h
 obtain ⟨its',r',⟨o',n',e',_,_,d'⟩,_⟩:=I.list h'
 rw [e] at e';cases e'
 rw [d] at d'
 injection d' with d1 _
 have:its=its':=by simpa using congrArg Array.toList d1
 subst this
 exact r.inj r'
theorem Inv.tuple_inj(I:Inv X pins σ H s)(h:SqT X.K H a xs)(h':SqT X.K H a ys):xs=ys:=by
 obtain ⟨its,r,⟨o,e,_,n,d⟩,_⟩:=I.tuple h
 obtain ⟨its',r',⟨o',e',_,n',d'⟩,_⟩:=I.tuple h'
 rw [e] at e';cases e'
 rw [d] at d'
 injection d' with d1 _
 have:its=its':=by simpa using congrArg Array.toList d1
 subst this
 exact r.inj r'
end
abbrev Cx.wish(X:Cx)(E:Value->Shared->Prop):Cx:={ X with xe:=E }
abbrev Cx.nox(X:Cx):Cx:=X.wish fun _ _=>False
theorem Cx.Ok.wish{X:Cx}(ok:X.Ok)(E:Value->Shared->Prop):(X.wish E).Ok :=
 ⟨ok.mod,ok.kind,ok.glob,ok.blt,ok.above,ok.inj,ok.has,ok.cab,ok.hd,ok.frames,ok.gd,ok.stk,ok.exf,ok.bs,ok.bsz,ok.noex,ok.exfs,ok.funs,ok.frf⟩
theorem Cx.Ok.unwish{X:Cx}{E:Value->Shared->Prop}(ok:(X.wish E).Ok):X.Ok :=
 ⟨ok.mod,ok.kind,ok.glob,ok.blt,ok.above,ok.inj,ok.has,ok.cab,ok.hd,ok.frames,ok.gd,ok.stk,ok.exf,ok.bs,ok.bsz,ok.noex,ok.exfs,ok.funs,ok.frf⟩
section
variable {X:Cx} {pins:List (Addr×Obj)} {σ:St} {H:Hp} {s:Shared} {E:Value->Shared->Prop}
theorem Inv.wish(I:Inv X pins σ H s)(E:Value->Shared->Prop):Inv (X.wish E) pins σ H s:=⟨I.ok.wish E,I.os,I.bare,I.base,I.loc,I.cell,I.free,I.freeC,I.pin,I.hok,I.len⟩
theorem Inv.unwish(I:Inv (X.wish E) pins σ H s):Inv X pins σ H s:=⟨I.ok.unwish,I.os,I.bare,I.base,I.loc,I.cell,I.free,I.freeC,I.pin,I.hok,I.len⟩
theorem SP.unwish{D:Ends}{f:Flow}{s':Shared}(h:SP (X.wish E) pins D f s'):SP X pins D f s':=by
 cases f with
 | next=>obtain ⟨σ',H',I,q⟩:=h;exact ⟨σ',H',I.unwish,q⟩
 | brk=>obtain ⟨σ',H',I,q⟩:=h;exact ⟨σ',H',I.unwish,q⟩
 | cont=>obtain ⟨σ',H',I,q⟩:=h;exact ⟨σ',H',I.unwish,q⟩
 | ret u=>obtain ⟨v,σ',H',I,r,q⟩:=h;exact ⟨v,σ',H',I.unwish,r,q⟩
theorem PSs.nox{st:List Stmt}{t:TS}(h:PSs X.nox st t):PSs X st t:=fun pins s σ H D I hw =>
 wpAny_mono (h pins s σ H D (I.wish _) hw) (fun _ _ q=>q.unwish) fun _ _ z=>False.elim z
end
section
variable {X:Cx} {st:Stmt} {rest:List Stmt} {t u:TS} {e:Expr} {te:TE} {pos:Pos}
def tNext:TS:=fun D σ H=>D.nx σ H
def tSeq(t u:TS):TS:=fun D σ H=>t { D with nx:=u D } σ H
theorem y_f:PSs X [] tNext:=fun _ _ σ H _ I h=>wpAny_execs_nil ⟨σ,H,I,h⟩
theorem z_c(h1:PS X st t)(h2:PSs X rest u):PSs X (st::rest) (tSeq t u):=by
 intro pins s σ H D I h
 refine wpAny_execs_cons (thn (h1 pins s σ H { D with nx:=u D } I h) fun f s1 q=>?_)
 cases f with
 | next =>
  obtain ⟨σ',H',I',q⟩:=q
  exact h2 pins s1 σ' H' D I' q
 | ret v=>exact q
 | brk=>exact q
 | cont=>exact q
theorem z_j(h1:PS X st t):PSs X [st] t:=by
 intro pins s σ H D I h
 refine wpAny_execs_cons (thn (h1 pins s σ H D I h) fun f s1 q=>?_)
 cases f with
 | next=>exact wpAny_execs_nil q
 | ret v=>exact q
 | brk=>exact q
 | cont=>exact q
def tCont:TS:=fun D σ H=>D.ct σ H
theorem ps_continue:PS X (.Continue pos) tCont:=fun _ _ σ H _ I h=>wpAny_Continue ⟨σ,H,I,h⟩
theorem Inv.quiet{pins:List (Addr×Obj)}{σ:St}{H:Hp}{s:Shared}(I:Inv X pins σ H s):interactive X.env=false:=by simp [interactive,I.ok.kind]
def tDrop(te:TE):TS:=fun D σ H=>te σ H fun _ H1=>D.nx σ H1
theorem ps_expr(he:PE X e te)(hs:swapsWith e none pos.line X.env=pure false:=by rfl):PS X (.Expr e pos) (tDrop te):=by
 intro pins s σ H D I h
 exact wpAny_Expr_any (thn (he pins s σ H _ I h) fun v s1 ⟨x,H1,I1,r1,q1⟩=>⟨σ,H1,I1,q1⟩) I.quiet hs
def tRet(te:TE):TS:=fun D σ H=>te σ H D.rt
theorem y_b(he:PE X e te):PS X (.Return (some e) pos) (tRet te):=by
 intro pins s σ H D I h
 exact wpAny_Return_some (thn (he pins s σ H _ I h) fun v s1 ⟨x,H1,I1,r1,q1⟩=>⟨x,σ,H1,I1,r1,q1⟩)
def tIfS(c:TT)(t u:TS):TS:=fun D σ H=>c σ H fun b H1=>if b=true then t D σ H1 else u D σ H1
theorem ps_if{c:Expr}{a b:List Stmt}{tc:TT}(hc:PT X c tc)(ha:PSs X a t)(hb:PSs X b u):PS X (.If c a b pos) (tIfS tc t u):=by
 intro pins s σ H D I h
 refine wpAny_If (thn (hc pins s σ H _ I h) fun d s1 ⟨H1,I1,q1⟩=>?_)
 cases d with
 | true=>exact ha pins s1 σ H1 D I1 q1
 | false=>exact hb pins s1 σ H1 D I1 q1
end
abbrev TG:=V->St->Hp->(St->Hp->Prop)->Prop
abbrev TGs:=List V->St->Hp->(St->Hp->Prop)->Prop
def PG(X:Cx)(target:Expr)(t:TG):Prop :=
 ∀ (pins:List (Addr×Obj)) (s:Shared) (σ:St) (H:Hp) (v:V) (u:Value) (Q:St->Hp->Prop),Inv X pins σ H s->RelV v u->t v σ H Q ->
  wpAny (model X.prog X.w) X.A (assign target X.env u) (fun _ s'=>∃ σ' H',Inv X pins σ' H' s'/\Q σ' H') X.xe s
def PGs(X:Cx)(ts:List Expr)(t:TGs):Prop :=
 ∀ (pins:List (Addr×Obj)) (s:Shared) (σ:St) (H:Hp) (vs:List V) (us:List Value) (Q:St->Hp->Prop),Inv X pins σ H s->Vals vs us->t vs σ H Q ->
  wpAny (model X.prog X.w) X.A (assignInOrder ((assignEach ts X.env).map (·.2)) us) (fun _ s'=>∃ σ' H',Inv X pins σ' H' s'/\Q σ' H') X.xe s
abbrev TSet:=V->V->V->Hp->(Hp->Prop)->Prop
def PSet(X:Cx)(t:TSet):Prop :=
 ∀ (pins:List (Addr×Obj)) (s:Shared) (σ:St) (H:Hp) (o i v:V) (ov iv u:Value) (Q:Hp->Prop),Inv X pins σ H s->RelV o ov->RelV i iv->RelV v u->t o i v H Q ->
  wpAny (model X.prog X.w) X.A (setItem ov iv u) (fun _ s'=>∃ H',Inv X pins σ H' s'/\Q H') X.xe s
section
variable {X:Cx} {pos:Pos}
def gName(i:Nat):TG:=fun v σ H Q=>Q (σ.set i (some v)) H
theorem y_j{i:Nat}{x:Str}(hN:X.N.Nodup)(hi:X.N[i]? = some x)(hx:Loc X.env.scope x)(hf:X.fn x=true\/X.env.scope.names.lookup x=some .local:=by first | exact .inl rfl | exact .inr rfl | assumption):PG X (.Name x pos) (gName i):=by
 intro pins s σ H v u Q I r h
 exact wpAny_assign_Name (store_ok I hN hi hx r (fun s' I'=>⟨_,H,I',h⟩) hf)
def gNil:TGs:=fun vs σ H Q=>vs=[]/\Q σ H
def gCons(t:TG)(u:TGs):TGs:=fun vs σ H Q=>∃ v r,vs=v::r/\t v σ H fun σ' H'=>u r σ' H' Q
theorem pgs_nil:PGs X [] gNil:=by
 intro pins s σ H vs us Q I r h
 obtain ⟨e,h⟩:=h
 subst e
 cases r
 exact assignInOrder_nil ⟨σ,H,I,h⟩
theorem pgs_cons{e:Expr}{es:List Expr}{t:TG}{u:TGs}(h1:PG X e t)(h2:PGs X es u)
  (hs:(assignEach (e::es) X.env).map (·.2)=assign e X.env::(assignEach es X.env).map (·.2):=by rfl):PGs X (e::es) (gCons t u):=by
 intro pins s σ H vs us Q I r h
 obtain ⟨v,vr,e1,h⟩:=h
 subst e1
 cases r with
 | cons r rr =>
  rw [hs]
  refine assignInOrder_cons (thn (h1 pins s σ H _ _ _ I r h) fun _ s1 ⟨σ1,H1,I1,q1⟩=>?_)
  exact h2 pins s1 σ1 H1 _ _ Q I1 rr q1
def gTup(K:PySem.W.Frag)(n:Nat)(t:TGs):TG:=fun v σ H Q=>∃ a xs,v = .ref a/\SqT K H a xs/\xs.length=n/\t xs σ H Q
theorem pg_tup{es:List Expr}{k:Nat}{t:TGs}{n:Nat}(hc:X.calm=true)(h:PGs X es t)
  (hn:(assignEach es X.env).length=n:=by rfl) (hst:(assignEach es X.env).findIdx? (·.1)=none:=by rfl):PG X (.Tuple es k pos) (gTup X.K n t):=by
 intro pins s σ H v u Q I r hw
 obtain ⟨a,xs,e1,hq,hl,hw⟩:=hw
 subst e1
 cases r
 obtain ⟨its,rv,ht,hz⟩:=I.tuple hq
 refine assign_Tuple_tuple (I.ok.hd hc) ht (by simp [hn,<-hl,rv.length]) hst fun h' hx=>?_
 have I1:Inv X pins σ H { s with heap:=h' }:=I.kept (t':=s.toks) fun b o e=>hx b o (Nat.ne_of_lt (Heap.lt_size e)) e
 exact h pins _ σ H xs _ Q I1 (by simpa using rv) hw
def gSub(to ti:TE)(t:TSet):TG:=fun v σ H Q=>to σ H fun o H1=>ti σ H1 fun i H2=>t o i v H2 fun H3=>Q σ H3
theorem pg_sub{o i:Expr}{to ti:TE}{t:TSet}(ho:PE X o to)(hi:PE X i ti)(hs:PSet X t)
  (ha:∀ v,assign (.Subscript o i pos) X.env v=(do
   let ov <-holding [v] (eval o X.env)
   let iv <-holding [v,ov] (eval i X.env)
   standAt pos
   holding [v,ov,iv] (setItem ov iv v)
   release [v,ov,iv] []):=by intro _;rfl):PG X (.Subscript o i pos) (gSub to ti t):=by
 intro pins s σ H v u Q I r h
 rw [ha]
 refine wpAny_bind (wpAny_holding (thn (ho pins s σ H _ I h) fun ov s1 ⟨x,H1,I1,r1,q1⟩=>?_))
 refine wpAny_bind (wpAny_holding (thn (hi pins s1 σ H1 _ I1 q1) fun iv s2 ⟨y,H2,I2,r2,q2⟩=>?_))
 refine wpAny_bind (wpAny_standAt (wpAny_bind (wpAny_holding (thn (hs pins s2 σ H2 x y v ov iv u _ I2 r1 r2 r q2) fun _ s3 ⟨H3,I3,q3⟩=>?_))))
 exact wpAny_release ⟨σ,H3,I3,q3⟩
def tAsg(te:TE)(g:TG):TS:=fun D σ H=>te σ H fun x H1=>g x σ H1 D.nx
theorem ps_asg{tg e:Expr}{te:TE}{g:TG}(he:PE X e te)(hg:PG X tg g)(hs:swapsWithSole [tg] e pos.line X.env=pure false:=by rfl)(hw:swappedStores [tg] e X.env=pure none:=by rfl)
  (h1:(assignEach [tg] X.env).map (·.2)=[assign tg X.env]:=by rfl):PS X (.Assign [tg] e pos) (tAsg te g):=by
 intro pins s σ H D I h
 refine wpAny_Assign_stores (thn (he pins s σ H _ I h) fun v s1 ⟨x,H1,I1,r1,q1⟩=>?_) hs hw
 rw [h1]
 exact thn (hg pins s1 σ H1 x v _ I1 r1 q1) fun _ s2 q=>q
theorem z_q{i:Nat}{x:Str}{e:Expr}{te:TE}{pos':Pos}(hN:X.N.Nodup)(hi:X.N[i]? = some x)(hx:Loc X.env.scope x)(he:PE X e te)(hs:swapsWith e (some (.Name x pos')) pos.line X.env=pure false:=by rfl)(hf:X.fn x=true\/X.env.scope.names.lookup x=some .local:=by first | exact .inl rfl | exact .inr rfl | assumption) :
  PS X (.Assign [.Name x pos'] e pos) (tAsg te (gName i)):=by
 intro pins s σ H D I h
 refine wpAny_Assign_Name (thn (he pins s σ H _ I h) fun v s1 ⟨y,H1,I1,r1,q1⟩=>?_) hs
 exact store_ok I1 hN hi hx r1 (fun s2 I2=>⟨_,H1,I2,q1⟩) hf
end
section
variable {X:Cx} {pos:Pos}
def tWhile(c:TT)(tb:TS):TS:=fun D σ H=>∃ W:Nat->St->Hp->Prop,(∃ m,W m σ H)/\∀ m σ H,W m σ H ->
 c σ H fun b H1=>if b=true then ∃ N:St->Hp->Prop,(∀ σ' H',N σ' H'->∃ m',m'<m/\W m' σ' H')/\tb { D with nx:=N,ct:=N,bk:=D.nx } σ H1 else D.nx σ H1
theorem ps_while{c:Expr}{body:List Stmt}{tc:TT}{tb:TS}(hp:PassesOwn (model X.prog X.w) X.A X.env X.xe)(hc:PT X c tc)(hb:PSs X body tb):PS X (.While c body [] pos) (tWhile tc tb):=by
 intro pins s σ H D I h
 obtain ⟨W,⟨m0,w0⟩,turn⟩:=h
 refine wpAny_While (codeAny_whileLoop (fun n s'=>∃ σ' H',Inv X pins σ' H' s'/\W n σ' H') ?_ m0 ⟨σ,H,I,w0⟩)
 rintro n s1 ⟨σ1,H1,I1,w1⟩
 refine wpAny_passesOwn hp (thn (hc pins s1 σ1 H1 _ I1 (turn n σ1 H1 w1)) fun b s2 ⟨H2,I2,q2⟩=>?_)
 cases b with
 | true =>
  obtain ⟨N,hN,q2⟩:=q2
  rw [if_pos rfl]
  refine wpAny_passesOwn hp (thn (hb pins s2 σ1 H2 _ I2 q2) fun f s3 q3=>?_)
  cases f with
  | next =>
   obtain ⟨σ3,H3,I3,n3⟩:=q3
   obtain ⟨m',hm,w3⟩:=hN σ3 H3 n3
   exact ⟨m',hm,σ3,H3,I3,w3⟩
  | cont =>
   obtain ⟨σ3,H3,I3,n3⟩:=q3
   obtain ⟨m',hm,w3⟩:=hN σ3 H3 n3
   exact ⟨m',hm,σ3,H3,I3,w3⟩
  | brk=>exact q3
  | ret v=>exact q3
 | false =>
  rw [if_neg Bool.false_ne_true]
  exact wpAny_execs_nil ⟨σ1,H2,I2,q2⟩
end
structure It where
 go:Nat->Hp->Prop
 yld:Nat->Hp->V->Hp->Prop
 stop:Nat->Hp->Prop
def FpOk(X:Cx)(pins:List (Addr×Obj))(H:Hp)(b:Addr):Prop :=
 H b=none/\b≠X.env.locals/\b∉X.fs/\(b∈X.ex\/X.s₀.heap.objs.size<=b)/\(∀ x c,X.env.cells.lookup x=some c->c≠b)/\∀ p∈X.pn++pins,p.1≠b
theorem Inv.fpOk{X:Cx}{pins:List (Addr×Obj)}{σ:St}{H H':Hp}{s:Shared}{b:Addr}(I:Inv X pins σ H s)(hb:s.heap.objs.size<=b)(hn:H' b=none):FpOk X pins H' b:=by
 refine ⟨hn,Nat.ne_of_gt (Nat.lt_of_lt_of_le I.lt hb),I.nofs hb,.inr (Nat.le_trans I.sz hb),fun x c e z=>?_,fun p hp z=>?_⟩
 ·obtain ⟨v,q⟩:=I.cell x c e
  exact absurd (Nat.lt_of_lt_of_le q.lt (by rw [z];exact hb)) (Nat.lt_irrefl _)
 ·exact absurd (Nat.lt_of_lt_of_le (Heap.lt_size (I.pin p hp).1) (by rw [z];exact hb)) (Nat.lt_irrefl _)
structure Turn(P:Program)(w:World)(K:PySem.W.Frag)(tg:Expr)(J:It)(fp:List Addr)(it:Addr)(tn:Nat->Heap->Prop):Prop where
 mem:it∈fp
 obj:∀ i h,tn i h->∀ b∈fp,∃ o,h.get? b=some o/\∀ v,o.data ≠ .cell v
 keep:∀ i h h',tn i h->(∀ b∈fp,∀ o,h.get? b=some o->h'.get? b=some o)->tn i h'
 item:∀ (X:Cx),X.prog=P->X.w=w->X.K=K->X.calm=true->∀ (i:Nat) (pins:List (Addr×Obj)) (s:Shared) (σ:St) (H:Hp) (E:Value->Shared->Prop),Inv X pins σ H s->(∀ b∈fp,FpOk X pins H b)->tn i s.heap->J.go i H ->
  wpAny (model P w) X.A (pyNext (.ref it)) (fun r s1=>∃ u,r=some u /\
   wpAny (model P w) X.A (letOwnedTupleGo tg (.ref it) u) (fun _ s2=>∃ x H',Inv X pins σ H' s2/\RelV x u/\J.yld i H x H'/\tn (i+1) s2.heap/\∀ b∈fp,H' b=none) E s1) E s
 done:∀ (X:Cx),X.prog=P->X.w=w->X.K=K->X.calm=true->∀ (i:Nat) (pins:List (Addr×Obj)) (s:Shared) (σ:St) (H:Hp) (E:Value->Shared->Prop),Inv X pins σ H s->(∀ b∈fp,FpOk X pins H b)->tn i s.heap->J.stop i H ->
  wpAny (model P w) X.A (pyNext (.ref it)) (fun r s1=>r=none/\Inv X pins σ H s1) E s
 self:∀ (A:Around) (i:Nat) (s:Shared) (Q:Value->Shared->Prop) (E:Value->Shared->Prop),tn i s.heap->Q (.ref it) s->wpAny (model P w) A (pyIter (.ref it)) Q E s
abbrev TI:=St->Hp->(It->Hp->Prop)->Prop
def PIE(X:Cx)(pins:List (Addr×Obj))(σ:St)(tg:Expr)(R:It->Hp->Prop)(itv:Value)(s2:Shared):Prop :=
 ∃ (it:Addr) (fp:List Addr) (tn:Nat->Heap->Prop) (J:It) (H':Hp),itv = .ref it/\Inv X pins σ H' s2/\Turn X.prog X.w X.K tg J fp it tn/\tn 0 s2.heap/\(∀ b∈fp,FpOk X pins H' b)/\R J H'
def PI(X:Cx)(tg iter:Expr)(wi:TI):Prop :=
 ∀ (pins:List (Addr×Obj)) (s:Shared) (σ:St) (H:Hp) (R:It->Hp->Prop),Inv X pins σ H s->wi σ H R ->
  wpAny (model X.prog X.w) X.A (eval iter X.env) (fun v s1=>wpAny (model X.prog X.w) X.A (pyIter v) (PIE X pins σ tg R) X.xe s1) X.xe s
theorem go_of{M : Model}{A : Around}{E : Value -> Shared -> Prop}{s : Shared}{tg : Expr}{it : Addr}{u : Value}{o : Obj}{n : String}{vs : Array Value}{Q : Unit -> Shared -> Prop}(ho : s.heap.get? it = some o)(hc : o.cls = .type n)(hd : o.data = .fields vs)
    (hn : ["enumerate", "zip", "dict_itemiterator", "dict_reverseitemiterator", "odict_iterator", "itertools.zip_longest", "itertools.pairwise"].contains n = false) (hQ : Q () s) : wpAny M A (letOwnedTupleGo tg (.ref it) u) Q E s := by
  unfold letOwnedTupleGo
  cases tg <;> first
    | exact wpAny_pure hQ
    | (cases u <;> first
        | exact wpAny_pure hQ
        | (refine wpAny_bind (wpAny_load ho ?_)
           rw [hc, hd]
           show wpAny M A (if (["enumerate", "zip", "dict_itemiterator", "dict_reverseitemiterator", "odict_iterator", "itertools.zip_longest", "itertools.pairwise"].contains n && vs[0]? == some (rawInt _)) = true then _ else _) Q E s
           rw [if_neg (by intro h; rw [hn, Bool.false_and] at h; cases h)]
           exact wpAny_pure hQ))
def Itl(K:PySem.W.Frag)(a:Addr):It :=
 ⟨fun i H=>∃ xs x,SqL K H a xs/\xs[i]? = some x,fun i H x H'=>H'=H/\∀ xs,SqL K H a xs->xs[i]? = some x,fun i H=>∃ xs,SqL K H a xs/\xs.length<=i⟩
def Itt(K:PySem.W.Frag)(a:Addr):It :=
 ⟨fun i H=>∃ xs x,SqT K H a xs/\xs[i]? = some x,fun i H x H'=>H'=H/\∀ xs,SqT K H a xs->xs[i]? = some x,fun i H=>∃ xs,SqT K H a xs/\xs.length<=i⟩
def Itr(lo:Int)(n:Nat):It:=⟨fun i _=>i<n,fun i H x H'=>H'=H/\x = .int (lo+i),fun i _=>n<=i⟩
theorem turn_list{P:Program}{w:World}{K:PySem.W.Frag}{tg:Expr}(a it:Addr):Turn P w K tg (Itl K a) [it] it (fun i h=>h.IsListIter it a i) where
 mem:=by simp
 obj:=fun i h st b hb=>by
  have e:b=it:=by simpa using hb
  subst e
  obtain ⟨o,e,c,d⟩:=st
  exact ⟨o,e,fun v z=>by rw [d] at z;cases z⟩
 keep:=fun i h h' st k=>st.at fun o e=>k it (by simp) o e
 item:=by
  intro X hP hw hK hc i pins s σ H E I hf st hg
  subst hP hw hK
  obtain ⟨xs,x,hq,hx⟩:=hg
  obtain ⟨its,rv,p,hz⟩:=I.list hq
  obtain ⟨u,hu,ru⟩:=rv.get hx
  obtain ⟨f0,f1,f2,f3,f4,f5⟩:=hf it (by simp)
  refine wpAny_pyNext_list_item st p.isList (x:=u) (by simpa using hu) fun h' st' sb=>?_
  have I1:Inv X pins σ H { s with heap:=h' }:=I.turned (t':=s.toks) (fun b o hb e=>(sb.2 b hb).trans e) f0 f1 f3 f4 f5
  obtain ⟨o,e,c,d⟩:=id st'
  exact ⟨u,rfl,go_of (s:={ s with heap:=h' }) e c d (by decide) ⟨x,H,I1,ru,⟨rfl,fun ys hy=>by rw [I.list_inj hy hq];exact hx⟩,st',fun b hb=>(hf b hb).1⟩⟩
 done:=by
  intro X hP hw hK hc i pins s σ H E I hf st hg
  subst hP hw hK
  obtain ⟨xs,hq,hx⟩:=hg
  obtain ⟨its,rv,p,hz⟩:=I.list hq
  obtain ⟨f0,f1,f2,f3,f4,f5⟩:=hf it (by simp)
  have hl:=rv.length
  exact wpAny_pyNext_list_end (I.ok.hd hc) st p.isList (by simp;lia) fun h' eb=>⟨rfl,I.turned (t':=s.toks) (fun b o hb e=>eb b o hb e) f0 f1 f3 f4 f5⟩
 self:=fun _ _ _ _ _ st h=>wpAny_pyIter_listiter st h
theorem turn_tuple{P:Program}{w:World}{K:PySem.W.Frag}{tg:Expr}(a it:Addr):Turn P w K tg (Itt K a) [it] it (fun i h=>h.IsTupleIter it a i) where
 mem:=by simp
 obj:=fun i h st b hb=>by
  have e:b=it:=by simpa using hb
  subst e
  obtain ⟨o,e,c,d⟩:=st
  exact ⟨o,e,fun v z=>by rw [d] at z;cases z⟩
 keep:=fun i h h' st k=>st.at fun o e=>k it (by simp) o e
 item:=by
  intro X hP hw hK hc i pins s σ H E I hf st hg
  subst hP hw hK
  obtain ⟨xs,x,hq,hx⟩:=hg
  obtain ⟨its,rv,p,hz⟩:=I.tuple hq
  obtain ⟨u,hu,ru⟩:=rv.get hx
  obtain ⟨f0,f1,f2,f3,f4,f5⟩:=hf it (by simp)
  refine wpAny_pyNext_tuple_item st (show s.heap.IsTuple a its.toArray from p) (x:=u) (by simpa using hu) fun h' st' sb=>?_
  have I1:Inv X pins σ H { s with heap:=h' }:=I.turned (t':=s.toks) (fun b o hb e=>(sb.2 b hb).trans e) f0 f1 f3 f4 f5
  obtain ⟨o,e,c,d⟩:=id st'
  exact ⟨u,rfl,go_of (s:={ s with heap:=h' }) e c d (by decide) ⟨x,H,I1,ru,⟨rfl,fun ys hy=>by rw [I.tuple_inj hy hq];exact hx⟩,st',fun b hb=>(hf b hb).1⟩⟩
 done:=by
  intro X hP hw hK hc i pins s σ H E I hf st hg
  subst hP hw hK
  obtain ⟨xs,hq,hx⟩:=hg
  obtain ⟨its,rv,p,hz⟩:=I.tuple hq
  obtain ⟨f0,f1,f2,f3,f4,f5⟩:=hf it (by simp)
  have hl:=rv.length
  exact wpAny_pyNext_tuple_end (I.ok.hd hc) st (show s.heap.IsTuple a its.toArray from p) (by simp;lia) fun h' eb=>⟨rfl,I.turned (t':=s.toks) (fun b o hb e=>eb b o hb e) f0 f1 f3 f4 f5⟩
 self:=fun _ _ _ _ _ st h=>wpAny_pyIter_tupleiter st h
theorem turn_range{P:Program}{w:World}{K:PySem.W.Frag}{tg:Expr}(it:Addr)(lo:Int)(n:Nat):Turn P w K tg (Itr lo n) [it] it (fun i h=>IsRangeIter h it (lo+(i:Nat)*1) ((n:Int)-(i:Nat)) 1) where
 mem:=by simp
 obj:=fun i h st b hb=>by
  have e:b=it:=by simpa using hb
  subst e
  exact ⟨_,st,fun v z=>by
   have z':Data.fields _=Data.cell v:=z
   cases z'⟩
 keep:=fun i h h' st k=>k it (by simp) _ st
 item:=by
  intro X hP hw hK hc i pins s σ H E I hf st hg
  subst hP hw hK
  obtain ⟨f0,f1,f2,f3,f4,f5⟩:=hf it (by simp)
  have W:=Walks.range (prog:=X.prog) (w:=X.w) (I.ok.hd hc) it lo 1 n
  refine W.item i s _ _ hg st fun v h' tk hv st' kk=>?_
  obtain ⟨t,rfl⟩:=hv
  have I1:Inv X pins σ H { s with heap:=h',toks:=tk }:=I.turned (fun b o hb e=>kk b o (by simpa using hb) e) f0 f1 f3 f4 f5
  refine ⟨_,rfl,go_of (s:={ s with heap:=h',toks:=tk }) (n := "range_iterator") st' rfl rfl (by decide) ⟨.int (lo+i),H,I1,⟨t,?_⟩,⟨rfl,rfl⟩,st',fun b hb=>(hf b hb).1⟩⟩
  rw [Int.mul_one]
 done:=by
  intro X hP hw hK hc i pins s σ H E I hf st hg
  subst hP hw hK
  obtain ⟨f0,f1,f2,f3,f4,f5⟩:=hf it (by simp)
  exact wpAny_pyNext_range_end (I.ok.hd hc) st (by have:n<=i:=hg;lia) fun h' eb=>⟨rfl,I.turned (t':=s.toks) (fun b o hb e=>eb b o hb e) f0 f1 f3 f4 f5⟩
 self:=fun _ _ _ _ _ st h=>wpAny_pyIter_rangeiter st h
open PySem PySem.Spec PyProof.Rows
section
variable {X:Cx} {tg:Expr}
def iList(K:PySem.W.Frag)(tl:TE):TI:=fun σ H R=>tl σ H fun x H1=>∃ a,x = .ref a/\(∃ xs,SqL K H1 a xs)/\R (Itl K a) H1
def iTup(K:PySem.W.Frag)(tl:TE):TI:=fun σ H R=>tl σ H fun x H1=>∃ a,x = .ref a/\(∃ xs,SqT K H1 a xs)/\R (Itt K a) H1
theorem pi_list{l:Expr}{tl:TE}(hl:PE X l tl):PI X tg l (iList X.K tl):=by
 intro pins s σ H R I h
 refine thn (hl pins s σ H _ I h) fun v s1 ⟨x,H1,I1,r1,q1⟩=>?_
 obtain ⟨a,e,⟨xs,hq⟩,q⟩:=q1
 subst e
 cases r1
 obtain ⟨its,rv,p,hz⟩:=I1.list hq
 refine wpAny_pyIter_list p.isList ?_
 refine ⟨s1.heap.objs.size,[s1.heap.objs.size],_,_,H1,rfl,I1.kept (t':=s1.toks) fun b o e=>Heap.get?_push_of_some _ e,turn_list a _,⟨_,Heap.get?_push_size _ rfl,rfl,rfl⟩,fun b hb=>?_,q⟩
 have e:b=s1.heap.objs.size:=by simpa using hb
 subst e
 exact I1.fpOk (Nat.le_refl _) (I1.hok.fresh (Nat.le_refl _))
theorem pi_tup{l:Expr}{tl:TE}(hl:PE X l tl):PI X tg l (iTup X.K tl):=by
 intro pins s σ H R I h
 refine thn (hl pins s σ H _ I h) fun v s1 ⟨x,H1,I1,r1,q1⟩=>?_
 obtain ⟨a,e,⟨xs,hq⟩,q⟩:=q1
 subst e
 cases r1
 obtain ⟨its,rv,p,hz⟩:=I1.tuple hq
 refine wpAny_pyIter_tuple (show s1.heap.IsTuple a its.toArray from p) ?_
 refine ⟨s1.heap.objs.size,[s1.heap.objs.size],_,_,H1,rfl,I1.kept (t':=s1.toks) fun b o e=>Heap.get?_push_of_some _ e,turn_tuple a _,⟨_,Heap.get?_push_size _ rfl,rfl,rfl⟩,fun b hb=>?_,q⟩
 have e:b=s1.heap.objs.size:=by simpa using hb
 subst e
 exact I1.fpOk (Nat.le_refl _) (I1.hok.fresh (Nat.le_refl _))
theorem range_it{pins:List (Addr×Obj)}{σ:St}{H:Hp}{s:Shared}{R:It->Hp->Prop}{E:Value->Shared->Prop}{lo hi:Int}{t u v:Tok}{tk:Nat}(I:Inv X pins σ H s)(h1 : -(2^62)<=lo)(h2:lo<2^62)(h3 : -(2^62)<=hi)(h4:hi<2^62)
  (q:R (Itr lo (hi-lo).toNat) H):wpAny (model X.prog X.w) X.A (pyIter (.ref s.heap.objs.size)) (PIE X pins σ tg R) E { s with heap:=s.heap.push { cls:=.type "range",data:=.fields #[.int lo t,.int hi u,.int 1 v] },toks:=tk }:=by
 refine wpAny_pyIter_range (IsRange.new ..) (small_one h1 h2 h3 h4) ?_
 have I1:Inv X pins σ H { s with heap:=s.heap.push { cls:=.type "range",data:=.fields #[.int lo t,.int hi u,.int 1 v] },toks:=tk }:=I.kept fun b o e=>Heap.get?_push_of_some _ e
 refine ⟨(s.heap.push { cls:=.type "range",data:=.fields #[.int lo t,.int hi u,.int 1 v] }).objs.size,[(s.heap.push { cls:=.type "range",data:=.fields #[.int lo t,.int hi u,.int 1 v] }).objs.size],_,_,H,rfl,
  I1.kept (t':=tk) fun b o e=>Heap.get?_push_of_some _ e,turn_range _ lo (hi-lo).toNat,?_,fun b hb=>?_,q⟩
 ·have e1:lo+((0:Nat):Int)*1=lo:=by simp
  have e2:(((hi-lo).toNat:Nat):Int)-((0:Nat):Int)=Builtin.Range.rangeSize lo hi 1:=by rw [rangeSize_one];split<;>lia
  show IsRangeIter _ _ (lo+((0:Nat):Int)*1) ((((hi-lo).toNat:Nat):Int)-((0:Nat):Int)) 1
  rw [e1,e2]
  exact Heap.get?_push_size _ rfl
 ·have e:b=(s.heap.push { cls:=.type "range",data:=.fields #[.int lo t,.int hi u,.int 1 v] }).objs.size:=by simpa using hb
  subst e
  exact I1.fpOk (Nat.le_refl _) (I1.hok.fresh (Nat.le_refl _))
def iRng1(ta:TA):TI:=fun σ H R=>ta σ H fun vs H1=>∃ j:Int,vs=[.int j] /\ -(2^62)<=j/\j<2^62/\R (Itr 0 j.toNat) H1
def iRng2(ta:TA):TI:=fun σ H R=>ta σ H fun vs H1=>∃ i j:Int,vs=[.int i,.int j]/\(-(2^62)<=i/\i<2^62 /\ -(2^62)<=j/\j<2^62)/\R (Itr i (j-i).toNat) H1
theorem x_b{a:Expr}{ta:TA}{p pos:Pos}(hg:Gl X "range")(hm:X.mg "range" = none)(ha:PA X [a] ta)(hs:starEach [a] X.env=[(false,eval a X.env)]:=by rfl):PI X tg (.Call (.Name "range" p) [a] [] pos) (iRng1 ta):=by
 intro pins s σ H R I h
 refine Call_ (ld_blt I hg hm boot_range (PyProof.Rows.callWith_type1 (thn (ha pos pins s σ H _ I h) fun us s1 ⟨vs,H1,I1,r1,q1⟩=>?_) hs rfl))
 obtain ⟨j,e,q1,q2,q⟩:=q1
 subst e
 cases r1 with
 | cons r rr =>
  cases rr
  obtain ⟨t,rfl⟩:=r
  exact call_range_1 (range_it I1 (by lia) (by lia) q1 q2 (by simpa using q))
theorem pi_range2{a b:Expr}{ta:TA}{p pos:Pos}(hg:Gl X "range")(hm:X.mg "range" = none)(ha:PA X [a,b] ta)(hs:starEach [a,b] X.env=[(false,eval a X.env),(false,eval b X.env)]:=by rfl)(hs2:starEach [b] X.env=[(false,eval b X.env)]:=by rfl) :
  PI X tg (.Call (.Name "range" p) [a,b] [] pos) (iRng2 ta):=by
 intro pins s σ H R I h
 refine Call_ (ld_blt I hg hm boot_range (PyProof.Rows.callWith_type1 (thn (ha pos pins s σ H _ I h) fun us s1 ⟨vs,H1,I1,r1,q1⟩=>?_) (by rw [hs,hs2]) (by rw [hs2];rfl)))
 obtain ⟨i,j,e,⟨q1,q2,q3,q4⟩,q⟩:=q1
 subst e
 cases r1 with
 | cons r rr =>
  cases rr with
  | cons r' rr =>
   cases rr
   obtain ⟨t,rfl⟩:=r
   obtain ⟨t',rfl⟩:=r'
   exact call_range_2 (range_it I1 q1 q2 q3 q4 q)
def tFor(wi:TI)(g:TG)(tb:TS):TS:=fun D σ H=>wi σ H fun J H1=>∃ W:Nat->Nat->St->Hp->Prop,(∃ m,W 0 m σ H1)/\∀ i m σ H,W i m σ H ->
 (J.stop i H/\D.nx σ H)\/(J.go i H/\∃ N:St->Hp->Prop,(∀ σ' H',N σ' H'->∃ m',m'<m/\W (i+1) m' σ' H')/\∀ x H',J.yld i H x H'->g x σ H' fun σ2 H2=>tb { D with nx:=N,ct:=N,bk:=D.nx } σ2 H2)
def pinsAt(fp:List Addr)(h:Heap):List (Addr×Obj):=fp.filterMap fun b=>(h.get? b).map fun o=>(b,o)
theorem mem_pinsAt{fp:List Addr}{h:Heap}{b:Addr}{o:Obj}(hb:b∈fp)(e:h.get? b=some o):(b,o)∈pinsAt fp h:=List.mem_filterMap.mpr ⟨b,hb,by rw [e];rfl⟩
theorem of_pinsAt{fp:List Addr}{h:Heap}{p:Addr×Obj}(hp:p∈pinsAt fp h):p.1∈fp/\h.get? p.1=some p.2:=by
 obtain ⟨b,hb,e⟩:=List.mem_filterMap.mp hp
 cases q:h.get? b with
 | none=>rw [q] at e;cases e
 | some o =>
  rw [q] at e
  have e':(b,o)=p:=Option.some.inj e
  subst e'
  exact ⟨hb,q⟩
theorem Inv.pinned{pins:List (Addr×Obj)}{σ:St}{H:Hp}{s:Shared}{fp:List Addr}(I:Inv X pins σ H s)(hf:∀ b∈fp,FpOk X pins H b)(ho:∀ b∈fp,∃ o,s.heap.get? b=some o/\∀ v,o.data ≠ .cell v):Inv X (pins++pinsAt fp s.heap) σ H s :=
 I.pins_of fun p hp=>(List.mem_append.mp hp).elim (fun z=>I.pin p (List.mem_append_right _ z)) fun z=>by
  obtain ⟨hb,e⟩:=of_pinsAt z
  obtain ⟨f0,f1,f2,_⟩:=hf p.1 hb
  obtain ⟨o,e',d⟩:=ho p.1 hb
  rw [e] at e';cases e'
  exact ⟨e,f0,f1,f2,d⟩
theorem Inv.unpinned{pins pl:List (Addr×Obj)}{σ:St}{H:Hp}{s:Shared}(I:Inv X (pins++pl) σ H s):Inv X pins σ H s:=I.pins_of fun p hp=>I.pin p (List.mem_append_right _ (List.mem_append_left _ hp))
theorem ps_for{iter:Expr}{body:List Stmt}{wi:TI}{g:TG}{tb:TS}{pos:Pos}(hp:PassesOwn (model X.prog X.w) X.A X.env X.xe)(hc:X.calm=true)(hi:PI X tg iter wi)(hg:PG X tg g)(hb:PSs X body tb)
  (hs:∀ x,foldedSetIterable iter X.env x=pure x:=by intro _;rfl):PS X (.For tg iter body [] pos) (tFor wi g tb):=by
 intro pins s σ H D I h
 refine wpAny_For (thn (hi pins s σ H _ I h) fun v s1 h1=>thn h1 fun itv s2 h2=>?_) hs
 obtain ⟨it,fp,tn,J,H2,e,I2,T,st2,f2,W,⟨m0,w0⟩,turn⟩:=h2
 subst e
 have stat:∀ {H':Hp},(∀ b∈fp,H' b=none)->∀ b∈fp,FpOk X pins H' b:=fun hn b hb=>⟨hn b hb,(f2 b hb).2⟩
 refine codeAny_forLoop_any (fun n s'=>∃ i σ' H',Inv X pins σ' H' s'/\tn i s'.heap/\(∀ b∈fp,H' b=none)/\W i n σ' H') ?_ m0 ⟨0,σ,H2,I2,st2,fun b hb=>(f2 b hb).1,w0⟩
 rintro n s3 ⟨i,σ3,H3,I3,st3,fr3,w3⟩
 rcases turn i n σ3 H3 w3 with ⟨stop,qn⟩ | ⟨go,N,hN,step⟩
 ·refine wpAny_passesOwn hp (thn (T.done X rfl rfl rfl hc i pins s3 σ3 H3 X.xe I3 (stat fr3) st3 stop) fun r s4 ⟨hr,I4⟩=>?_)
  subst hr
  exact wpAny_execs_nil ⟨σ3,H3,I4,qn⟩
 ·refine wpAny_passesOwn hp (thn (T.item X rfl rfl rfl hc i pins s3 σ3 H3 X.xe I3 (stat fr3) st3 go) fun r s4 ⟨u,hr,h4⟩=>?_)
  subst hr
  refine wpAny_passesOwn hp (thn h4 fun _ s5 ⟨x,H5,I5,r5,y5,st5,fr5⟩=>?_)
  have I5':=I5.pinned (stat fr5) (T.obj _ _ st5)
  refine wpAny_passesOwn hp (thn (hg _ s5 σ3 H5 x u _ I5' r5 (step x H5 y5)) fun _ s6 ⟨σ6,H6,I6,q6⟩=>?_)
  refine wpAny_passesOwn hp (thn (hb _ s6 σ6 H6 _ I6 q6) fun f s7 q7=>?_)
  have again:∀ {σ7:St} {H7:Hp},Inv X (pins++pinsAt fp s5.heap) σ7 H7 s7->N σ7 H7->∃ m,m<n/\∃ i σ' H',Inv X pins σ' H' s7/\tn i s7.heap/\(∀ b∈fp,H' b=none)/\W i m σ' H':=fun {σ7 H7} I7 n7=>by
   obtain ⟨m',hm,w7⟩:=hN σ7 H7 n7
   refine ⟨m',hm,i+1,σ7,H7,I7.unpinned,T.keep _ _ _ st5 fun b hb o e=>(I7.pin (b,o) (List.mem_append_right _ (List.mem_append_right _ (mem_pinsAt hb e)))).1,fun b hb=>?_,w7⟩
   obtain ⟨o,e,d⟩:=T.obj _ _ st5 b hb
   exact (I7.pin (b,o) (List.mem_append_right _ (List.mem_append_right _ (mem_pinsAt hb e)))).2.1
  cases f with
  | next=>obtain ⟨σ7,H7,I7,n7⟩:=q7;exact again I7 n7
  | cont=>obtain ⟨σ7,H7,I7,n7⟩:=q7;exact again I7 n7
  | brk=>obtain ⟨σ7,H7,I7,q7⟩:=q7;exact ⟨σ7,H7,I7.unpinned,q7⟩
  | ret v=>obtain ⟨x7,σ7,H7,I7,r7,q7⟩:=q7;exact ⟨x7,σ7,H7,I7.unpinned,r7,q7⟩
end
theorem for_list{K:PySem.W.Frag}{a:Addr}{xs:List V}{g:TG}{tb:TS}{D:Ends}{σ:St}{H:Hp}(Pv:Nat->St->Hp->Prop)(h0:Pv 0 σ H)(hl:∀ i σ H,i<=xs.length->Pv i σ H->SqL K H a xs)
  (hs:∀ i x σ H,xs[i]? = some x->Pv i σ H->g x σ H fun σ2 H2=>tb { D with nx:=Pv (i+1),ct:=Pv (i+1),bk:=D.nx } σ2 H2) (hd:∀ σ H,Pv xs.length σ H->D.nx σ H) :
  ∃ W:Nat->Nat->St->Hp->Prop,(∃ m,W 0 m σ H)/\∀ i m σ H,W i m σ H ->
   ((Itl K a).stop i H/\D.nx σ H)\/((Itl K a).go i H/\∃ N:St->Hp->Prop,(∀ σ' H',N σ' H'->∃ m',m'<m/\W (i+1) m' σ' H')/\∀ x H',(Itl K a).yld i H x H'->g x σ H' fun σ2 H2=>tb { D with nx:=N,ct:=N,bk:=D.nx } σ2 H2):=by
 refine ⟨fun i m σ H=>m=xs.length-i/\i<=xs.length/\Pv i σ H,⟨xs.length,by simp,Nat.zero_le _,h0⟩,?_⟩
 rintro i m σ H ⟨rfl,hi,p⟩
 have q:=hl i σ H hi p
 by_cases hlt:i<xs.length
 ·refine .inr ⟨⟨xs,xs[i],q,by simp [hlt]⟩,Pv (i+1),fun σ' H' p'=>⟨xs.length-(i+1),by lia,rfl,hlt,p'⟩,fun x H' y=>?_⟩
  obtain ⟨e,y⟩:=y
  subst e
  exact hs i x σ _ (y xs q) p
 ·have e:i=xs.length:=by lia
  subst e
  exact .inl ⟨⟨xs,q,Nat.le_refl _⟩,hd σ H p⟩
theorem for_tup{K:PySem.W.Frag}{a:Addr}{xs:List V}{g:TG}{tb:TS}{D:Ends}{σ:St}{H:Hp}(Pv:Nat->St->Hp->Prop)(h0:Pv 0 σ H)(hl:∀ i σ H,i<=xs.length->Pv i σ H->SqT K H a xs)
  (hs:∀ i x σ H,xs[i]? = some x->Pv i σ H->g x σ H fun σ2 H2=>tb { D with nx:=Pv (i+1),ct:=Pv (i+1),bk:=D.nx } σ2 H2) (hd:∀ σ H,Pv xs.length σ H->D.nx σ H) :
  ∃ W:Nat->Nat->St->Hp->Prop,(∃ m,W 0 m σ H)/\∀ i m σ H,W i m σ H ->
   ((Itt K a).stop i H/\D.nx σ H)\/((Itt K a).go i H/\∃ N:St->Hp->Prop,(∀ σ' H',N σ' H'->∃ m',m'<m/\W (i+1) m' σ' H')/\∀ x H',(Itt K a).yld i H x H'->g x σ H' fun σ2 H2=>tb { D with nx:=N,ct:=N,bk:=D.nx } σ2 H2):=by
 refine ⟨fun i m σ H=>m=xs.length-i/\i<=xs.length/\Pv i σ H,⟨xs.length,by simp,Nat.zero_le _,h0⟩,?_⟩
 rintro i m σ H ⟨rfl,hi,p⟩
 have q:=hl i σ H hi p
 by_cases hlt:i<xs.length
 ·refine .inr ⟨⟨xs,xs[i],q,by simp [hlt]⟩,Pv (i+1),fun σ' H' p'=>⟨xs.length-(i+1),by lia,rfl,hlt,p'⟩,fun x H' y=>?_⟩
  obtain ⟨e,y⟩:=y
  subst e
  exact hs i x σ _ (y xs q) p
 ·have e:i=xs.length:=by lia
  subst e
  exact .inl ⟨⟨xs,q,Nat.le_refl _⟩,hd σ H p⟩
theorem for_range{lo:Int}{n:Nat}{g:TG}{tb:TS}{D:Ends}{σ:St}{H:Hp}(Pv:Nat->St->Hp->Prop)(h0:Pv 0 σ H)
  (hs:∀ i σ H,i<n->Pv i σ H->g (.int (lo+i)) σ H fun σ2 H2=>tb { D with nx:=Pv (i+1),ct:=Pv (i+1),bk:=D.nx } σ2 H2) (hd:∀ σ H,Pv n σ H->D.nx σ H) :
  ∃ W:Nat->Nat->St->Hp->Prop,(∃ m,W 0 m σ H)/\∀ i m σ H,W i m σ H ->
   ((Itr lo n).stop i H/\D.nx σ H)\/((Itr lo n).go i H/\∃ N:St->Hp->Prop,(∀ σ' H',N σ' H'->∃ m',m'<m/\W (i+1) m' σ' H')/\∀ x H',(Itr lo n).yld i H x H'->g x σ H' fun σ2 H2=>tb { D with nx:=N,ct:=N,bk:=D.nx } σ2 H2):=by
 refine ⟨fun i m σ H=>m=n-i/\i<=n/\Pv i σ H,⟨n,by simp,Nat.zero_le _,h0⟩,?_⟩
 rintro i m σ H ⟨rfl,hi,p⟩
 by_cases hlt:i<n
 ·refine .inr ⟨hlt,Pv (i+1),fun σ' H' p'=>⟨n-(i+1),by lia,rfl,hlt,p'⟩,fun x H' y=>?_⟩
  obtain ⟨e,y⟩:=y
  subst e y
  exact hs i σ _ hlt p
 ·have e:i=n:=by lia
  subst e
  exact .inl ⟨Nat.le_refl _,hd σ H p⟩
open PySem PySem.Spec PyProof.Rows
abbrev R2:=V->V->Hp->VK->Prop
def OpR(X:Cx)(f:Value->Value->Sem Value)(r:R2):Prop :=
 ∀ (pins:List (Addr×Obj)) (s:Shared) (σ:St) (H:Hp) (x y:V) (v u:Value) (Q:VK),Inv X pins σ H s->RelV x v->RelV y u->r x y H Q ->
  wpAny (model X.prog X.w) X.A (f v u) (EP X pins σ Q) X.xe s
def CallR(X:Cx)(f:Value)(r:List V->Hp->VK->Prop):Prop :=
 ∀ (pins:List (Addr×Obj)) (s:Shared) (σ:St) (H:Hp) (xs:List V) (us:List Value) (Q:VK),Inv X pins σ H s->Vals xs us->r xs H Q ->
  wpAny (model X.prog X.w) X.A (call f us) (EP X pins σ Q) X.xe s
def TruR(X:Cx)(r:V->Hp->(Bool->Hp->Prop)->Prop):Prop :=
 ∀ (pins:List (Addr×Obj)) (s:Shared) (σ:St) (H:Hp) (x:V) (v:Value) (Q:Bool->Hp->Prop),Inv X pins σ H s->RelV x v->r x H Q ->
  wpAny (model X.prog X.w) X.A (truthy v) (TP X pins σ Q) X.xe s
def tOp(r:R2)(ta tb:TE):TE:=fun σ H Q=>ta σ H fun x H1=>tb σ H1 fun y H2=>r x y H2 Q
def rI(C:Int->Int->Prop)(g:Int->Int->V):R2:=fun x y H Q=>∃ i j,x = .int i/\y = .int j/\C i j/\Q (g i j) H
def rI0(g:Int->Int->V):R2:=fun x y H Q=>∃ i j,x = .int i/\y = .int j/\Q (g i j) H
section
variable {X:Cx} {a b c:Expr} {ta tb tc:TE} {pos:Pos}
theorem binT(ha:PE X a ta)(hb:PE X b tb){pins:List (Addr×Obj)}{s:Shared}{σ:St}{H:Hp}{R:V->V->Hp->Prop}(I:Inv X pins σ H s)
  (h:ta σ H fun x H1=>tb σ H1 fun y H2=>R x y H2) {Q:Value->Shared->Prop} {f:Value->Value->Sem Value}
  (hf:∀ v u s2 x y H2,Inv X pins σ H2 s2->RelV x v->RelV y u->R x y H2->wpAny (model X.prog X.w) X.A (f v u) Q X.xe s2) :
  wpAny (model X.prog X.w) X.A (eval a X.env) (fun v s₁=>wpAny (model X.prog X.w) X.A (eval b X.env) (fun u s₂=>wpAny (model X.prog X.w) X.A (f v u) Q X.xe s₂) X.xe s₁) X.xe s:=by
 refine thn (ha pins s σ H _ I h) fun v s1 ⟨x,H1,I1,r1,q1⟩=>?_
 refine thn (hb pins s1 σ H1 _ I1 q1) fun u s2 ⟨y,H2,I2,r2,q2⟩=>?_
 exact hf v u s2 x y H2 I2 r1 r2 q2
theorem z_i{op:Operator}{r:R2}(ho:OpR X (binaryOp op) r)(ha:PE X a ta)(hb:PE X b tb):PE X (.BinOp a op b pos) (tOp r ta tb):=by
 intro pins s σ H Q I h
 exact wpAny_BinOp (binT ha hb I h fun v u s2 x y H2 I2 rx ry q=>ho pins s2 σ H2 x y v u Q I2 rx ry q)
theorem opI{f:Value->Value->Sem Value}{C:Int->Int->Prop}{g:Int->Int->Int}
  (rule:∀ (i j:Int) (t u:Tok) (s:Shared) (Q:Value->Shared->Prop) (E:Value->Shared->Prop),C i j->Q (.int (g i j) s.toks) { s with toks:=s.toks+1 }->wpAny (model X.prog X.w) X.A (f (.int i t) (.int j u)) Q E s) :
  OpR X f (rI C fun i j=>.int (g i j)):=by
 intro pins s σ H x y v u Q I rx ry h
 obtain ⟨i,j,rfl,rfl,hc,q⟩:=h
 obtain ⟨t,rfl⟩:=rx
 obtain ⟨t',rfl⟩:=ry
 exact rule i j t t' s _ _ hc ⟨.int (g i j),H,I.tok _,⟨_,rfl⟩,q⟩
theorem opI0{f:Value->Value->Sem Value}{g:Int->Int->Int}
  (rule:∀ (i j:Int) (t u:Tok) (s:Shared) (Q:Value->Shared->Prop) (E:Value->Shared->Prop),Q (.int (g i j) s.toks) { s with toks:=s.toks+1 }->wpAny (model X.prog X.w) X.A (f (.int i t) (.int j u)) Q E s) :
  OpR X f (rI0 fun i j=>.int (g i j)):=by
 intro pins s σ H x y v u Q I rx ry h
 obtain ⟨i,j,rfl,rfl,q⟩:=h
 obtain ⟨t,rfl⟩:=rx
 obtain ⟨t',rfl⟩:=ry
 exact rule i j t t' s _ _ ⟨.int (g i j),H,I.tok _,⟨_,rfl⟩,q⟩
theorem opB0{f:Value->Value->Sem Value}{g:Int->Int->Bool}
  (rule:∀ (i j:Int) (t u:Tok) (s:Shared) (Q:Value->Shared->Prop) (E:Value->Shared->Prop),Q (.bool (g i j)) s->wpAny (model X.prog X.w) X.A (f (.int i t) (.int j u)) Q E s) :
  OpR X f (rI0 fun i j=>.bl (g i j)):=by
 intro pins s σ H x y v u Q I rx ry h
 obtain ⟨i,j,rfl,rfl,q⟩:=h
 obtain ⟨t,rfl⟩:=rx
 obtain ⟨t',rfl⟩:=ry
 exact rule i j t t' s _ _ ⟨.bl (g i j),H,I,rfl,q⟩
def CPow(i j:Int):Prop:=0<=j/\j<=1000000/\i.natAbs<2^64
def CMul(i j:Int):Prop:=(-(2^64)<i/\i<2^64)\/(-(2^64)<j/\j<2^64)
theorem CMul.ok{i j:Int}(h:CMul i j):IntMulOk i j:=by
 rcases h with ⟨h1,h2⟩ | ⟨h1,h2⟩
 ·exact .of_left (intBits_le_64 h1 h2)
 ·exact .of_right (intBits_le_64 h1 h2)
theorem two_pow_nn(k:Nat):(0:Int)<=2^k:=by
 rw [two_pow_cast]
 exact Int.natCast_nonneg _
theorem y_k:OpR X (binaryOp .Add) (rI0 fun i j=>.int (i+j)):=opI0 fun _ _ _ _ _ _ _ q=>add_int q
theorem op_sub:OpR X (binaryOp .Sub) (rI0 fun i j=>.int (i-j)):=opI0 fun _ _ _ _ _ _ _ q=>sub_int q
theorem y_m:OpR X (binaryOp .Mult) (rI CMul fun i j=>.int (i*j)):=opI fun _ _ _ _ _ _ _ hc q=>mul_int q hc.ok
theorem y_d:OpR X (binaryOp .Mod) (rI (fun _ j=>0<j) fun i j=>.int (i%j)):=opI fun i j _ _ _ _ _ hc q=>by
 have h1:(0:Int)<j:=hc
 exact mod_int' (by lia) (by rw [Int.fmod_eq_emod_of_nonneg i (by lia)];exact q)
theorem op_pow:OpR X (binaryOp .Pow) (rI CPow fun i j=>.int (i^j.toNat)):=opI fun _ _ _ _ _ _ _ hc q=>pow_int_small hc.1 hc.2.1 hc.2.2 q
theorem op_shr:OpR X (binaryOp .RShift) (rI (fun _ j=>0<=j) fun i j=>.int (i/2^j.toNat)):=opI fun i j _ _ _ _ _ hc q =>
 rshift_int hc (by rw [Int.fdiv_eq_ediv_of_nonneg i (two_pow_nn _)];exact q)
theorem op_and:OpR X (binaryOp .BitAnd) (rI0 fun i j=>.int (Builtin.bitAnd i j)):=opI0 fun _ _ _ _ _ _ _ q=>and_int q
theorem op_xor:OpR X (binaryOp .BitXor) (rI0 fun i j=>.int (Builtin.bitXor i j)):=opI0 fun _ _ _ _ _ _ _ q=>xor_int q
end
def scal:V->V->Bool
 | .non,.non=>true | .non,.int _=>true | .int _,.non=>true | .non,.bl _=>true | .bl _,.non=>true | .non,.str _=>true | .str _,.non=>true
 | .int _,.int _=>true | .bl _,.bl _=>true | .str _,.str _=>true | .byt _,.byt _=>true
 | .int _,.str _=>true | .str _,.int _=>true | .bl _,.str _=>true | .str _,.bl _=>true
 | _,_=>false
def rEq:R2:=fun x y H Q=>scal x y=true/\Q (.bl (decide (x=y))) H
def rNe:R2:=fun x y H Q=>scal x y=true/\Q (.bl (!decide (x=y))) H
theorem dec_int{i j:Int}:decide (V.int i=V.int j)=(i == j):=by
 rw [Bool.eq_iff_iff]
 simp
theorem dec_bl{i j:Bool}:decide (V.bl i=V.bl j)=(i == j):=by
 rw [Bool.eq_iff_iff]
 simp
theorem dec_str{i j:Str}:decide (V.str i=V.str j)=(i == j):=by
 rw [Bool.eq_iff_iff]
 simp
theorem dec_byt{i j:Array UInt8}:decide (V.byt i=V.byt j)=(i.toList == j.toList):=by
 rw [Bool.eq_iff_iff]
 cases i
 cases j
 simp
section
variable {X:Cx} {a b c:Expr} {ta tb tc:TE} {pos:Pos}
theorem y_g{pins:List (Addr×Obj)}{σ:St}{H:Hp}{s:Shared}{Q:VK}{k k':Bool}(I:Inv X pins σ H s)(q:Q (.bl k) H)(e:k=k'):EP X pins σ Q (.bool k') s:=by
 subst e
 exact ⟨.bl k,H,I,rfl,q⟩
theorem op_eq:OpR X (compareOp .Eq) rEq:=by
 intro pins s σ H x y v u Q I rx ry h
 obtain ⟨hs,q⟩:=h
 cases x with
 | non =>
  cases rx
  cases y with
  | non=>cases ry;exact PySem.EqNone.eq_none_none (y_g I q (by simp))
  | bl j=>cases ry;exact PySem.EqNone.eq_none_bool (y_g I q (by simp))
  | int j=>obtain ⟨t',rfl⟩:=ry;exact PySem.EqNone.eq_none_int (y_g I q (by simp))
  | str j=>obtain ⟨t',rfl⟩:=ry;exact PySem.EqNone.eq_none_str (y_g I q (by simp))
  | _=>exact absurd (show false=true from hs) Bool.false_ne_true
 | bl i =>
  cases rx
  cases y with
  | non=>cases ry;exact PySem.EqNone.eq_bool_none (y_g I q (by simp))
  | bl j=>cases ry;exact eq_bool (y_g I q dec_bl)
  | str j=>obtain ⟨t',rfl⟩:=ry;exact PySem.EqMixed.eq_bool_str (y_g I q (by simp))
  | _=>exact absurd (show false=true from hs) Bool.false_ne_true
 | int i =>
  obtain ⟨t,rfl⟩:=rx
  cases y with
  | non=>cases ry;exact PySem.EqNone.eq_int_none (y_g I q (by simp))
  | int j=>obtain ⟨t',rfl⟩:=ry;exact eq_int (y_g I q dec_int)
  | str j=>obtain ⟨t',rfl⟩:=ry;exact PySem.EqMixed.eq_int_str (y_g I q (by simp))
  | _=>exact absurd (show false=true from hs) Bool.false_ne_true
 | str i =>
  obtain ⟨t,rfl⟩:=rx
  cases y with
  | non=>cases ry;exact PySem.EqNone.eq_str_none (y_g I q (by simp))
  | bl j=>cases ry;exact PySem.EqMixed.eq_str_bool (y_g I q (by simp))
  | int j=>obtain ⟨t',rfl⟩:=ry;exact PySem.EqMixed.eq_str_int (y_g I q (by simp))
  | str j=>obtain ⟨t',rfl⟩:=ry;exact eq_str (y_g I q dec_str)
  | _=>exact absurd (show false=true from hs) Bool.false_ne_true
 | byt i =>
  obtain ⟨t,rfl⟩:=rx
  cases y with
  | byt j=>obtain ⟨t',rfl⟩:=ry;exact PySem.W.eq_bytes (y_g I q dec_byt)
  | _=>exact absurd (show false=true from hs) Bool.false_ne_true
 | _=>cases y<;>exact absurd (show false=true from hs) Bool.false_ne_true
theorem op_ne:OpR X (compareOp .NotEq) rNe:=by
 intro pins s σ H x y v u Q I rx ry h
 obtain ⟨hs,q⟩:=h
 cases x with
 | non =>
  cases rx
  cases y with
  | non=>cases ry;exact PySem.EqNone.ne_none_none (y_g I q (by simp))
  | bl j=>cases ry;exact PySem.EqNone.ne_none_bool (y_g I q (by simp))
  | int j=>obtain ⟨t',rfl⟩:=ry;exact PySem.EqNone.ne_none_int (y_g I q (by simp))
  | str j=>obtain ⟨t',rfl⟩:=ry;exact PySem.EqNone.ne_none_str (y_g I q (by simp))
  | _=>exact absurd (show false=true from hs) Bool.false_ne_true
 | bl i =>
  cases rx
  cases y with
  | non=>cases ry;exact PySem.EqNone.ne_bool_none (y_g I q (by simp))
  | bl j=>cases ry;exact ne_bool (y_g I q (congrArg not dec_bl))
  | str j=>obtain ⟨t',rfl⟩:=ry;exact PySem.EqMixed.ne_bool_str (y_g I q (by simp))
  | _=>exact absurd (show false=true from hs) Bool.false_ne_true
 | int i =>
  obtain ⟨t,rfl⟩:=rx
  cases y with
  | non=>cases ry;exact PySem.EqNone.ne_int_none (y_g I q (by simp))
  | int j=>obtain ⟨t',rfl⟩:=ry;exact ne_int (y_g I q (congrArg not dec_int))
  | str j=>obtain ⟨t',rfl⟩:=ry;exact PySem.EqMixed.ne_int_str (y_g I q (by simp))
  | _=>exact absurd (show false=true from hs) Bool.false_ne_true
 | str i =>
  obtain ⟨t,rfl⟩:=rx
  cases y with
  | non=>cases ry;exact PySem.EqNone.ne_str_none (y_g I q (by simp))
  | bl j=>cases ry;exact PySem.EqMixed.ne_str_bool (y_g I q (by simp))
  | int j=>obtain ⟨t',rfl⟩:=ry;exact PySem.EqMixed.ne_str_int (y_g I q (by simp))
  | str j=>obtain ⟨t',rfl⟩:=ry;exact ne_str (y_g I q (congrArg not dec_str))
  | _=>exact absurd (show false=true from hs) Bool.false_ne_true
 | byt i =>
  obtain ⟨t,rfl⟩:=rx
  cases y with
  | byt j=>obtain ⟨t',rfl⟩:=ry;exact PySem.W.ne_bytes (y_g I q (congrArg not dec_byt))
  | _=>exact absurd (show false=true from hs) Bool.false_ne_true
 | _=>cases y<;>exact absurd (show false=true from hs) Bool.false_ne_true
theorem op_lt:OpR X (compareOp .Lt) (rI0 fun i j=>.bl (decide (i<j))):=opB0 fun _ _ _ _ _ _ _ q=>lt_int q
theorem op_le:OpR X (compareOp .LtE) (rI0 fun i j=>.bl (decide (i<=j))):=opB0 fun _ _ _ _ _ _ _ q=>le_int q
theorem op_gt:OpR X (compareOp .Gt) (rI0 fun i j=>.bl (decide (j<i))):=opB0 fun _ _ _ _ _ _ _ q=>gt_int q
theorem op_ge:OpR X (compareOp .GtE) (rI0 fun i j=>.bl (decide (j<=i))):=opB0 fun _ _ _ _ _ _ _ q=>ge_int q
theorem op_isN:OpR X (compareOp .Is) (fun x y H Q=>y = .non/\Q (.bl (decide (x = .non))) H):=by
 intro pins s σ H x y v u Q I rx ry h
 obtain ⟨rfl,q⟩:=h
 cases ry
 refine is_none_gen (y_g I q ?_)
 cases x<;>first
  | (cases rx;rfl)
  | (obtain ⟨t,rfl⟩:=rx;rfl)
theorem op_notN:OpR X (compareOp .IsNot) (fun x y H Q=>y = .non/\Q (.bl (!decide (x = .non))) H):=by
 intro pins s σ H x y v u Q I rx ry h
 obtain ⟨rfl,q⟩:=h
 cases ry
 refine isnot_none_gen (y_g I q ?_)
 cases x<;>first
  | (cases rx;rfl)
  | (obtain ⟨t,rfl⟩:=rx;rfl)
theorem nomark(b:Expr){op:CmpOp}(h:op ≠ .In:=by decide)(h2:op ≠ .NotIn:=by decide):behindInMarks op b=false:=by
 have e1:(op == CmpOp.In)=false:=by cases op<;>first | rfl | exact absurd rfl h
 have e2:(op == CmpOp.NotIn)=false:=by cases op<;>first | rfl | exact absurd rfl h2
 cases b<;>simp [behindInMarks,e1,e2]
theorem pe_cmpR{op:CmpOp}{r:R2}(ho:OpR X (compareOp op) r)(ha:PE X a ta)(hb:PE X b tb)(hm:behindInMarks op b=false):PE X (.Compare a [op] [b] pos) (tOp r ta tb):=by
 intro pins s σ H Q I h
 exact wpAny_Compare1 (binT ha hb I h fun v u s2 x y H2 I2 rx ry q=>ho pins s2 σ H2 x y v u Q I2 rx ry q) hm
def tTest(t:TE):TT:=fun σ H Q=>t σ H fun x H'=>∃ k,x = .bl k/\Q k H'
theorem z_s{op:CmpOp}{r:R2}(ho:OpR X (compareOp op) r)(ha:PE X a ta)(hb:PE X b tb)(hm:behindInMarks op b=false):PT X (.Compare a [op] [b] pos) (tTest (tOp r ta tb)):=by
 intro pins s σ H Q I h
 refine wpAny_isTrue_Compare1 (thn (ha pins s σ H _ I h) fun v s1 ⟨x,H1,I1,r1,q1⟩=>thn (hb pins s1 σ H1 _ I1 q1) fun u s2 ⟨y,H2,I2,r2,q2⟩ =>
  thn (ho pins s2 σ H2 x y v u _ I2 r1 r2 q2) fun c s3 ⟨z,H3,I3,r3,k,e,q3⟩=>?_) hm
 subst e
 cases r3
 exact wpAny_truthy_bool ⟨H3,I3,q3⟩
def tChain(r r':R2)(ta tb tc:TE):TE:=fun σ H Q=>ta σ H fun x H1=>tb σ H1 fun y H2=>r x y H2 fun z H3=>∃ k,z = .bl k /\
 (if k=true then tc σ H3 fun w' H4=>r' y w' H4 Q else Q (.bl false) H3)
theorem pe_chain{op op':CmpOp}{r r':R2}(ho:OpR X (compareOp op) r)(ho':OpR X (compareOp op') r')(ha:PE X a ta)(hb:PE X b tb)(hc:PE X c tc)
  (hm:lastMarks [op,op'] [b,c]=false:=by with_unfolding_all rfl):PE X (.Compare a [op,op'] [b,c] pos) (tChain r r' ta tb tc):=by
 intro pins s σ H Q I h
 refine Compare_chain (thn (ha pins s σ H _ I h) fun v s1 ⟨x,H1,I1,r1,q1⟩=>chain_link (thn (hb pins s1 σ H1 _ I1 q1) fun u s2 ⟨y,H2,I2,r2,q2⟩ =>
  thn (ho pins s2 σ H2 x y v u _ I2 r1 r2 q2) fun d s3 ⟨z,H3,I3,r3,k,e,q3⟩=>?_)) hm
 subst e
 cases r3
 refine wpAny_truthy_bool ?_
 cases k with
 | false=>exact ite_ff ⟨.bl false,H3,I3,rfl,q3⟩
 | true=>exact ite_tt (chain_last (thn (hc pins s3 σ H3 _ I3 q3) fun w' s4 ⟨z',H4,I4,r4,q4⟩=>ho' pins s4 σ H4 y z' u w' Q I4 r2 r4 q4))
def TruV(K:PySem.W.Frag)(x:V)(H:Hp)(k:Bool):Prop :=
 match x with
 | .non=>k=false
 | .bl b=>k=b
 | .int i=>k=(i != 0)
 | .str y=>y.length<=sizeLine/\k=((y.length:Int) != 0)
 | .byt y=>y.size<=sizeLine/\k=((y.size:Int) != 0)
 | .ref p=>(∃ xs,SqL K H p xs/\k = !xs.isEmpty)\/(∃ xs,SqT K H p xs/\k = !xs.isEmpty)\/∃ kvs,H p=some (.dK kvs)/\k = !kvs.isEmpty
 | _=>False
theorem isEmpty_kv{κ:Type}{kvs:List (κ×V)}{vs:List (κ×Value)}(r:KV kvs vs):(!vs.isEmpty) = !kvs.isEmpty:=by
 cases r<;>rfl
theorem isEmpty_of{xs:List V}{its:List Value}(r:Vals xs its):(!its.toArray.isEmpty) = !xs.isEmpty:=by
 cases r<;>simp
theorem line63:(sizeLine:Nat)<2^63:=by rw [sizeLine_eq];decide
theorem tru_ok:TruR X (fun x H Q=>∃ k,TruV X.K x H k/\Q k H):=by
 intro pins s σ H x v Q I rx h
 obtain ⟨k,e,q⟩:=h
 have hl:=line63
 have hs:sizeLine=16777216:=sizeLine_eq
 cases x with
 | non =>
  cases rx
  have e':k=false:=e
  subst e'
  exact truthy_none ⟨H,I,q⟩
 | bl b =>
  cases rx
  have e':k=b:=e
  subst e'
  exact wpAny_truthy_bool ⟨H,I,q⟩
 | int i =>
  obtain ⟨t,rfl⟩:=rx
  have e':k=(i != 0):=e
  subst e'
  exact PySem.P.truthy_int ⟨H,I,q⟩
 | str y =>
  obtain ⟨t,rfl⟩:=rx
  obtain ⟨hy,e'⟩:y.length<=sizeLine/\k=((y.length:Int) != 0):=e
  subst e'
  exact PySem.P.truthy_str (by lia) ⟨H,I.tok _,q⟩
 | byt y =>
  obtain ⟨t,rfl⟩:=rx
  obtain ⟨hy,e'⟩:y.size<=sizeLine/\k=((y.size:Int) != 0):=e
  subst e'
  exact PySem.W.truthy_bytes (by lia) ⟨H,I.tok _,q⟩
 | ref p =>
  cases rx
  have e':(∃ xs,SqL X.K H p xs/\k = !xs.isEmpty)\/(∃ xs,SqT X.K H p xs/\k = !xs.isEmpty)\/∃ kvs,H p=some (.dK kvs)/\k = !kvs.isEmpty:=e
  rcases e' with ⟨xs,hx,e'⟩ | ⟨xs,hx,e'⟩ | ⟨kvs,hx,e'⟩
  ·subst e'
   obtain ⟨its,r,pl,hz⟩:=I.list hx
   have hlen:=r.length
   exact wpAny_truthy_list pl.isList (by simp only [List.size_toArray];lia) ⟨H,I.tok _,by rw [isEmpty_of r];exact q⟩
  ·subst e'
   obtain ⟨its,r,pl,hz⟩:=I.tuple hx
   have hlen:=r.length
   exact truthy_tuple pl (by simp only [List.size_toArray];lia) ⟨H,I.tok _,by rw [isEmpty_of r];exact q⟩
  ·subst e'
   obtain ⟨hz,hS,vs,r,m⟩:kvs.length<=sizeLine/\(p == sysModules)=false/\∃ vs,KV kvs vs/\s.heap.DictOf (mixKind X.prog X.w) p vs:=I.hok p _ hx
   have hlen:kvs.length=vs.length:=Paired.length r
   exact wpAny_truthy_dict hS m (by lia) ⟨H,I.tok _,by rw [isEmpty_kv r];exact q⟩
 | _=>exact (show False from e).elim
theorem pt_truth(ha:PE X a ta)(he:∀ whole,isTrue a X.env whole=(do let v <-whole;standAt a.pos;holding [v] (truthy v))) :
  PT X a (fun σ H Q=>ta σ H fun x H'=>∃ k,TruV X.K x H' k/\Q k H'):=by
 intro pins s σ H Q I h
 exact isTrue_plain (thn (ha pins s σ H _ I h) fun v s1 ⟨x,H1,I1,r1,q1⟩=>tru_ok pins s1 σ H1 x v Q I1 r1 q1) (he _)
theorem vals1{x:V}{us:List Value}(r:Vals [x] us):∃ u,us=[u]/\RelV x u:=by
 cases r with
 | cons r1 r2=>cases r2;exact ⟨_,rfl,r1⟩
theorem vals2{x y:V}{us:List Value}(r:Vals [x,y] us):∃ u w',us=[u,w']/\RelV x u/\RelV y w':=by
 cases r with
 | cons r1 r2 =>
  cases r2 with
  | cons r3 r4=>cases r4;exact ⟨_,_,rfl,r1,r3⟩
theorem call_abs:CallR X (.builtin "abs") (fun xs H Q=>∃ i,xs=[.int i]/\Q (.int (if i<0 then -i else i)) H):=by
 intro pins s σ H xs us Q I r h
 obtain ⟨i,rfl,q⟩:=h
 obtain ⟨u,rfl,t,rfl⟩:=vals1 r
 exact call_abs_int fun u tk=>⟨.int (if i<0 then -i else i),H,I.tok _,⟨_,rfl⟩,q⟩
theorem call_max2(hc:X.calm=true):CallR X (.builtin "max") (fun xs H Q=>∃ i j,xs=[.int i,.int j]/\Q (.int (if j > i then j else i)) H):=by
 intro pins s σ H xs us Q I r h
 obtain ⟨i,j,rfl,q⟩:=h
 obtain ⟨u,w',rfl,⟨t,rfl⟩,⟨t',rfl⟩⟩:=vals2 r
 refine max_two_ints (I.ok.hd hc) fun h' tk k=>⟨_,H,I.kept k,?_,q⟩
 by_cases hj:j > i
 ·rw [if_pos hj,if_pos hj];exact ⟨_,rfl⟩
 ·rw [if_neg hj,if_neg hj];exact ⟨_,rfl⟩
theorem call_min2(hc:X.calm=true):CallR X (.builtin "min") (fun xs H Q=>∃ i j,xs=[.int i,.int j]/\Q (.int (if j<i then j else i)) H):=by
 intro pins s σ H xs us Q I r h
 obtain ⟨i,j,rfl,q⟩:=h
 obtain ⟨u,w',rfl,⟨t,rfl⟩,⟨t',rfl⟩⟩:=vals2 r
 refine min_two_ints (I.ok.hd hc) fun h' tk k=>⟨_,H,I.kept k,?_,q⟩
 by_cases hj:j<i
 ·rw [if_pos hj,if_pos hj];exact ⟨_,rfl⟩
 ·rw [if_neg hj,if_neg hj];exact ⟨_,rfl⟩
def LenV(K:PySem.W.Frag)(x:V)(H:Hp)(n:Nat):Prop :=
 match x with
 | .str y=>y.length<=sizeLine/\n=y.length
 | .byt y=>y.size<=sizeLine/\n=y.size
 | .ref p=>(∃ xs,SqL K H p xs/\n=xs.length)\/∃ xs,SqT K H p xs/\n=xs.length
 | _=>False
theorem y_o:CallR X (.builtin "len") (fun xs H Q=>∃ x n,xs=[x]/\LenV X.K x H n/\Q (.int n) H):=by
 intro pins s σ H xs us Q I r h
 obtain ⟨x,n,rfl,e,q⟩:=h
 obtain ⟨u,rfl,rx⟩:=vals1 r
 have hl:=line63
 have hs:sizeLine=16777216:=sizeLine_eq
 cases x with
 | str y =>
  obtain ⟨t,rfl⟩:=rx
  obtain ⟨hy,e'⟩:y.length<=sizeLine/\n=y.length:=e
  subst e'
  exact len_str (by lia) ⟨.int _,H,I.tok _,⟨_,rfl⟩,q⟩
 | byt y =>
  obtain ⟨t,rfl⟩:=rx
  obtain ⟨hy,e'⟩:y.size<=sizeLine/\n=y.size:=e
  subst e'
  exact PySem.W.len_bytes (by lia) ⟨.int _,H,I.tok _,⟨_,rfl⟩,q⟩
 | ref p =>
  cases rx
  have e':(∃ xs,SqL X.K H p xs/\n=xs.length)\/∃ xs,SqT X.K H p xs/\n=xs.length:=e
  rcases e' with ⟨xs,hx,e'⟩ | ⟨xs,hx,e'⟩
  ·subst e'
   obtain ⟨its,r',pl,hz⟩:=I.list hx
   have hlen:=r'.length
   exact Calls.call_len_list pl.isList (by simp only [List.size_toArray];lia) ⟨.int xs.length,H,I.tok _,⟨_,by simp only [List.size_toArray];rw [hlen]⟩,q⟩
  ·subst e'
   obtain ⟨its,r',pl,hz⟩:=I.tuple hx
   have hlen:=r'.length
   exact len_tuple pl (by simp only [List.size_toArray];lia) ⟨.int xs.length,H,I.tok _,⟨_,by simp only [List.size_toArray];rw [hlen]⟩,q⟩
 | _=>exact (show False from e).elim
end
open PySem PySem.Spec PyProof.Rows
structure ObjM(h:Heap)(x dx C:Addr)(mA:Str->Option Value):Prop where
 obj:h.get? x=some (PySem.W.instObj C dx)
 ns:h.Ns1 dx mA
 ne:dx≠x
theorem lookIn_ns{h:Heap}{dx:Addr}{mA:Str->Option Value}(n:h.Ns1 dx mA):∃ od,h.get? dx=some od/\∀ name,PySem.W.lookIn name od=some (mA name):=by
 obtain ⟨o,es,ep,ho,hd,hk,_,hm⟩:=n
 refine ⟨o,ho,fun name=>?_⟩
 have e:=hm name
 unfold nsFind findBy at e
 rw [<-Array.find?_toList] at e
 unfold PySem.W.lookIn
 rw [hd]
 dsimp only
 split
 ·rename_i y q
  rw [q] at e
  exact congrArg some e
 ·rename_i q
  rw [q] at e
  have a:es.toList.any (·.refKey)=false:=by
   rw [List.any_eq_false]
   intro y hy
   obtain ⟨z,t,hkey⟩:=hk y (Array.mem_toList_iff.mp hy)
   simp [DictEntry.refKey,hkey]
  have a':¬es.toList.any (·.refKey)=true:=by rw [a];exact Bool.false_ne_true
  rw [if_neg a']
  exact congrArg some e
theorem ObjM.look{h:Heap}{x dx C:Addr}{mA:Str->Option Value}(I:ObjM h x dx C mA):∃ od,PySem.W.InstAt h x (PySem.W.instObj C dx) C (some od)/\∀ name,PySem.W.lookIn name od=some (mA name) :=
 let ⟨od,ho,hl⟩:=lookIn_ns I.ns
 ⟨od,⟨I.obj,rfl,rfl,ho⟩,hl⟩
section
variable {prog:Program} {w:World} {A:Around} {E:Value->Shared->Prop} {s:Shared} {K:PySem.W.Frag} {x dx C f:Addr} {mA:Str->Option Value} {name:Str} {v:Value}
theorem get_map{expr:Bool}{Q:Value->Shared->Prop}(X:K.In s.heap)(I:ObjM s.heap x dx C mA)(hg:PySem.W.plainGet K C name=true)(hh:PySem.W.hasDictIn K C=true)
  (ha:PySem.W.findIn K (.ref C) name=some none) (hv:mA name=some v) (hv':PySem.W.handedIn v=true) (h:Q v { s with toks:=s.toks+1 }) :
  wpAny (model prog w) A (getAttr (.ref x) name expr) Q E s:=by
 obtain ⟨od,J,hl⟩:=I.look
 exact PySem.W.get_value X J (PySem.W.plainGet_of hg).1 (PySem.W.findObj_own hh ha rfl (by rw [hl,hv])) hv' h
theorem get_meth{pl:Sem Bool}{Q:Value×List Value->Shared->Prop}(X:K.In s.heap)(I:ObjM s.heap x dx C mA)(hg:PySem.W.plainGet K C name=true)
  (hf:PySem.W.findIn K (.ref C) name=some (some (.ref f))) (ht:PySem.W.isFn K (.ref f)=true) (hv:mA name=none) (h:Q (.ref f,[.ref x]) s) :
  wpAny (model prog w) A (getMethod (.ref x) name pl) Q E s:=by
 obtain ⟨od,J,hl⟩:=I.look
 exact PySem.W.method_fn X J (PySem.W.plainGet_of hg).1 (PySem.W.plainGet_of hg).2 hf (beq_iff_eq.mp ht) (by show (PySem.W.lookIn name od).map (·.isSome)=some false;rw [hl,hv];rfl) h
theorem set_map{ns:List Str}{Q:Unit->Shared->Prop}(X:K.In s.heap)(I:ObjM s.heap x dx C mA)
  (hs:PySem.W.findIn K (.ref C) "__setattr__" = some (some (.builtin "object.__setattr__"))) (hp:PySem.W.plainOver K C=true) (ht:PySem.W.takerIn K C name=some none) (hh:PySem.W.hasDictIn K C=true)
  (hw:PySem.Within mA ns) (hsz:ns.length<=sizeLine)
  (h:∀ h',ObjM h' x dx C (fun y=>if y=name then some v else mA y)->Heap.SameBut dx s.heap h'->Q () { s with heap:=h',toks:=s.toks+2 }) :
  wpAny (model prog w) A (setAttr (.ref x) name v) Q E s:=by
 obtain ⟨od,J,hl⟩:=I.look
 refine PySem.W.set_plain X J hs (PySem.W.osa_open (s:={ s with toks:=s.toks+1 }) (r:=none) X J hp ht fun b=>?_)
 obtain ⟨cd,hc,hd'⟩:=PySem.W.any_some hh
 have hx:s.heap.get? x=some ⟨.ref C,some dx,.plain,#[]⟩:=I.obj
 refine wpAny_bind (wpAny_pure (wpAny_bind (wpAny_bind (wpAny_loadPart hx (wpAny_bind (PySem.W.Looks.here (s:={ s with toks:=s.toks+1 }) (PySem.W.looks_clsIn X hc) ?_))))))
 rw [hd']
 refine wpAny_pure (a:=some dx) (wpAny_bind (wpAny_pure (wpAny_bind ?_)))
 refine wpAny_nsSet1 (s:={ s with toks:=s.toks+1 }) I.ns fun h' hn2 hs2=>?_
 obtain ⟨oD,esD,epD,hoD,hdD,hcD⟩:=hn2.count (PySem.Within.cons name v hw)
 refine wpAny_bind (wpAny_lookBehind hoD (by rw [hdD];exact pastItsLine_dict (Nat.le_trans hcD (by rw [List.length_cons];lia))) ?_)
 exact wpAny_pure (h _ ⟨(hs2.2 _ (Ne.symm I.ne)).trans I.obj,hn2,I.ne⟩ hs2)
theorem make_map{R:Result->Shared->Prop}{vs:List Value}{kw:List (Str×Value)}(X:K.In s.heap)(hm:PySem.W.makesIn K C=true)
  (hi:PySem.W.findIn K (.ref C) "__init__" = some (some (.ref f))) (hf:PySem.W.typeIn K (.ref f)=some (.type "function"))
  (h:codeAny (model prog w) (A.under (.builtin "type.__call__" ⟨.ref C::vs,kw⟩)) (.call (.ref f) ⟨.ref (s.heap.objs.size+1)::vs,kw⟩) (PySem.W.InitBack (s.heap.objs.size+1) R)
   { s with heap:=(s.heap.push PySem.W.emptyDict).push (PySem.W.instObj C s.heap.objs.size) }) :
  codeAny (model prog w) A (.call (.ref C) ⟨vs,kw⟩) R s:=by
 obtain ⟨hh,g,d,t,os⟩:=s
 exact PySem.W.make_core (PySem.W.makes_of X hm) (PySem.W.looks_findIn X hi) (fun self=>PySem.W.bind_fn X self hf) (.inl rfl) h
end
def putF(f:Str)(v:V):List (Str×V)->List (Str×V)
 | []=>[(f,v)]
 | (g,x)::r=>if g=f then (g,v)::r else (g,x)::putF f v r
theorem lookup_putF(f g:Str)(v:V):∀ fs:List (Str×V),(putF f v fs).lookup g=if g=f then some v else fs.lookup g
 | []=>by
  show List.lookup g [(f,v)]=_
  by_cases h:g=f
  ·have hb:(g == f)=true:=beq_iff_eq.mpr h
   simp only [List.lookup,hb,if_pos h]
  ·have hb:(g == f)=false:=beq_eq_false_iff_ne.mpr h
   simp only [List.lookup,hb,if_neg h]
 | (k,x)::r=>by
  have ih:=lookup_putF f g v r
  rw [show putF f v ((k,x)::r)=(if k=f then (k,v)::r else (k,x)::putF f v r) from rfl]
  by_cases hk:k=f
  ·rw [if_pos hk]
   by_cases h:g=k
   ·have hb:(g == k)=true:=beq_iff_eq.mpr h
    simp only [List.lookup,hb,if_pos (h.trans hk)]
   ·have hb:(g == k)=false:=beq_eq_false_iff_ne.mpr h
    simp only [List.lookup,hb,if_neg (fun e:g=f=>h (e.trans hk.symm))]
  ·rw [if_neg hk]
   by_cases h:g=k
   ·have hb:(g == k)=true:=beq_iff_eq.mpr h
    simp only [List.lookup,hb,if_neg (fun e:g=f=>hk (h.symm.trans e))]
   ·have hb:(g == k)=false:=beq_eq_false_iff_ne.mpr h
    simp only [List.lookup,hb]
    exact ih
theorem keys_putF(f:Str)(v:V):∀ fs:List (Str×V),f∈(putF f v fs).map (·.1)/\∀ g,g∈fs.map (·.1)->g∈(putF f v fs).map (·.1)
 | []=>⟨by simp [putF],fun g h=>by simp at h⟩
 | (k,x)::r=>by
  obtain ⟨i1,i2⟩:=keys_putF f v r
  rw [show putF f v ((k,x)::r)=(if k=f then (k,v)::r else (k,x)::putF f v r) from rfl]
  by_cases hk:k=f
  ·rw [if_pos hk]
   subst hk
   exact ⟨by simp,fun g h=>by simpa using h⟩
  ·rw [if_neg hk]
   refine ⟨?_,fun g h=>?_⟩
   ·rw [List.map_cons]
    exact List.mem_cons_of_mem _ i1
   ·rw [List.map_cons] at h ⊢
    rcases List.mem_cons.mp h with e | e
    ·exact List.mem_cons.mpr (.inl e)
    ·exact List.mem_cons_of_mem _ (i2 g e)
theorem length_putF(f:Str)(v:V):∀ fs:List (Str×V),(putF f v fs).length<=fs.length+1
 | []=>by simp [putF]
 | (k,x)::r=>by
  have ih:=length_putF f v r
  rw [show putF f v ((k,x)::r)=(if k=f then (k,v)::r else (k,x)::putF f v r) from rfl]
  by_cases hk:k=f
  ·rw [if_pos hk,List.length_cons,List.length_cons];lia
  ·rw [if_neg hk,List.length_cons,List.length_cons];lia
theorem RelO.some_of{v:V}{o:Option Value}(r:RelO (some v) o):∃ u,o=some u/\RelV v u:=by
 cases o with
 | none=>exact (show False from r).elim
 | some u=>exact ⟨u,rfl,r⟩
theorem RelO.none_of{o:Option Value}(r:RelO none o):o=none:=by
 cases o with
 | none=>rfl
 | some u=>exact (show False from r).elim
theorem handed_of{v:V}{u:Value}(r:RelV v u):PySem.W.handedIn u=true:=by
 cases v with
 | non=>cases (show u=Value.none from r);rfl
 | bl b=>cases (show u=Value.bool b from r);rfl
 | int i=>obtain ⟨t,e⟩:=(show ∃ t,u=Value.int i t from r);cases e;rfl
 | str x=>obtain ⟨t,e⟩:=(show ∃ t,u=Value.str x t from r);cases e;rfl
 | byt b=>obtain ⟨t,e⟩:=(show ∃ t,u=Value.bytes b t from r);cases e;rfl
 | flt b=>obtain ⟨t,e⟩:=(show ∃ t,u=Value.float b t from r);cases e;rfl
 | ref a=>cases (show u=Value.ref a from r);rfl
 | ty n=>cases (show u=Value.type n from r);rfl
section
variable {P:Program} {w:World} {H H':Hp} {h h':Heap} {a C dx:Addr} {fs fs':List (Str×V)}
theorem ins_get(hok:HOk P w H h)(e:H a=some (.ins C dx fs)):∃ mA,ObjM h a dx C mA/\(∀ f,RelO (fs.lookup f) (mA f))/\PySem.Within mA (fs.map (·.1))/\fs.length<=1000/\H dx=some (.own a):=by
 obtain ⟨d,z,ne,ob,mA,n,r,q⟩:=(show ObjOk P w H h a (.ins C dx fs) from hok a _ e)
 exact ⟨mA,⟨ob,n,ne⟩,r,q,z,d⟩
end
structure Cls(K:PySem.W.Frag)(C:Addr):Prop where
 pg:PySem.W.plainGet K C Str.empty=true
 hd:PySem.W.hasDictIn K C=true
 po:PySem.W.plainOver K C=true
 sa:PySem.W.findIn K (.ref C) "__setattr__" = some (some (.builtin "object.__setattr__"))
theorem Cls.get{K:PySem.W.Frag}{C:Addr}(c:Cls K C)(f:Str):PySem.W.plainGet K C f=true:=c.pg
def NoAttr(K:PySem.W.Frag)(C:Addr)(f:Str):Prop:=PySem.W.findIn K (.ref C) f=some none
theorem NoAttr.taker{K:PySem.W.Frag}{C:Addr}{f:Str}(n:NoAttr K C f):PySem.W.takerIn K C f=some none:=by
 unfold PySem.W.takerIn
 rw [show PySem.W.findIn K (.ref C) f=some none from n]
 rfl
structure Meth(K:PySem.W.Frag)(C:Addr)(m:Str)(f:Addr):Prop where
 at_:PySem.W.findIn K (.ref C) m=some (some (.ref f))
 fn:PySem.W.isFn K (.ref f)=true
 kp:PySem.W.keepIn K (.ref f)=true
section
variable {X:Cx} {pins:List (Addr×Obj)} {σ:St} {H:Hp} {s:Shared} {a C dx:Addr} {fs:List (Str×V)} {f:Str} {v:V} {A:Around} {E:Value->Shared->Prop}
theorem getattr_ok{b:Bool}{Q:Value->Shared->Prop}(I:Inv X pins σ H s)(e:H a=some (.ins C dx fs))(c:Cls X.K C)(n:NoAttr X.K C f)(l:fs.lookup f=some v)
  (h:∀ u s',Inv X pins σ H s'->RelV v u->Q u s'):wpAny (model X.prog X.w) A (getAttr (.ref a) f b) Q E s:=by
 obtain ⟨mA,O,r,_,_,_⟩:=ins_get I.hok e
 obtain ⟨u,hu,ru⟩:=RelO.some_of (v:=v) (o:=mA f) (by rw [<-l];exact r f)
 exact get_map I.kIn O (c.get f) c.hd n hu (handed_of ru) (h u _ (I.tok _) ru)
theorem getmeth_ok{m:Str}{g:Addr}{pl:Sem Bool}{Q:Value×List Value->Shared->Prop}(I:Inv X pins σ H s)(e:H a=some (.ins C dx fs))(c:Cls X.K C)(k:Meth X.K C m g)(l:fs.lookup m=none)
  (h:Q (.ref g,[.ref a]) s):wpAny (model X.prog X.w) A (getMethod (.ref a) m pl) Q E s:=by
 obtain ⟨mA,O,r,_,_,_⟩:=ins_get I.hok e
 have hn:mA m=none:=RelO.none_of (by rw [<-l];exact r m)
 exact get_meth I.kIn O (c.get m) k.at_ k.fn hn h
theorem setattr_ok{y:V}{u:Value}{Q:Unit->Shared->Prop}(I:Inv X pins σ H s)(e:H a=some (.ins C dx fs))(c:Cls X.K C)(n:NoAttr X.K C f)(hl:fs.length<1000)(ry:RelV y u)
  (h:∀ s',Inv X pins σ (upd H a (.ins C dx (putF f y fs))) s'->Q () s'):wpAny (model X.prog X.w) A (setAttr (.ref a) f u) Q E s:=by
 obtain ⟨mA,O,r,wi,_,ho⟩:=ins_get I.hok e
 have hz:(fs.map (·.1)).length<=sizeLine:=by rw [List.length_map,sizeLine_eq];lia
 refine set_map I.kIn O c.sa c.po n.taker c.hd wi hz fun h' O' sb=>h _ ?_
 have hd:∃ o,h'.get? dx=some o:=let ⟨o,_,_,e',_⟩:=O'.ns;⟨o,e'⟩
 refine I.write (x:=a) (e:=dx) (by rw [e];exact True.intro) (.inr ho) (fun b q hb z=>(sb.2 b hb).trans z) hd ?_
 refine ⟨by rw [z_n O.ne];exact ho,?_,O.ne,O'.obj,_,O'.ns,fun g=>?_,fun g hg=>?_⟩
 ·have:=length_putF f y fs;lia
 ·show RelO ((putF f y fs).lookup g) (if g=f then some u else mA g)
  rw [lookup_putF]
  by_cases q:g=f
  ·rw [if_pos q,if_pos q];exact ry
  ·rw [if_neg q,if_neg q];exact r g
 ·by_cases q:g=f
  ·rw [q];exact (keys_putF f y fs).1
  ·refine (keys_putF f y fs).2 g (wi g fun z=>hg ?_)
   show (if g=f then some u else mA g)=none
   rw [if_neg q];exact z
theorem Inv.made(I:Inv X pins σ H s):Inv X pins σ (upd (upd H s.heap.objs.size (.own (s.heap.objs.size+1))) (s.heap.objs.size+1) (.ins C s.heap.objs.size []))
  { s with heap:=(s.heap.push PySem.W.emptyDict).push (PySem.W.instObj C s.heap.objs.size) }:=by
 have e1:(s.heap.push PySem.W.emptyDict).get? s.heap.objs.size=some PySem.W.emptyDict:=Heap.get?_push_size s.heap rfl
 have e2:((s.heap.push PySem.W.emptyDict).push (PySem.W.instObj C s.heap.objs.size)).get? (s.heap.objs.size+1)=some (PySem.W.instObj C s.heap.objs.size):=by
  have:=Heap.get?_push_size (s.heap.push PySem.W.emptyDict) (o:=PySem.W.instObj C s.heap.objs.size) rfl
  rwa [Heap.size_push] at this
 have e3:(s.heap.push PySem.W.emptyDict).Ns s.heap.objs.size (fun _=>none):=⟨PySem.W.emptyDict,#[],_,e1,rfl,(fun e he=>absurd he (by simp)),fun _=>rfl⟩
 have I1:=I.laid (a:=s.heap.objs.size) (o:=.own (s.heap.objs.size+1)) (h':=s.heap.push PySem.W.emptyDict) (t':=s.toks) (fun b u q=>Heap.get?_push_of_some _ q) (Nat.le_refl _) ⟨_,e1⟩
 refine I1.laid (a:=s.heap.objs.size+1) (o:=.ins C s.heap.objs.size []) (t':=s.toks) (fun b u q=>Heap.get?_push_of_some _ q) (Nat.le_of_eq (Heap.size_push _ _)) ?_
 have ne:s.heap.objs.size≠s.heap.objs.size+1:=Nat.ne_of_lt (Nat.lt_succ_self _)
 refine ⟨by rw [z_n ne,z_d],Nat.zero_le _,ne,e2,fun _=>none,(Heap.Ns1.of_empty e3).at fun o q=>Heap.get?_push_of_some _ q,fun _=>True.intro,fun y hy=>absurd rfl hy⟩
theorem attr_of{prog:Program}{w:World}{env:Env}{e:Expr}{f:Str}{pos:Pos}{s:Shared}{Q:Value->Shared->Prop}(hb:attributeBase e f env (eval e env)=eval e env)
  (h:wpAny (model prog w) A (eval e env) (fun o s₁=>wpAny (model prog w) A (getAttr o f true) Q E s₁) E s):wpAny (model prog w) A (eval (.Attribute e f pos) env) Q E s :=
 Attribute_any_ h (by rw [arm_eval_Attribute,hb])
end
def tFld(K:PySem.W.Frag)(ta:TE)(f:Str):TE:=fun σ H Q=>ta σ H fun x H1=>∃ a C dx fs v,x = .ref a/\H1 a=some (.ins C dx fs)/\Cls K C/\NoAttr K C f/\fs.lookup f=some v/\Q v H1
def sFld(K:PySem.W.Frag)(ta tv:TE)(f:Str):TS:=fun D σ H=>tv σ H fun y H1=>ta σ H1 fun x H2=>∃ a C dx fs,x = .ref a/\H2 a=some (.ins C dx fs)/\Cls K C/\NoAttr K C f/\fs.length<1000 /\
 D.nx σ (upd H2 a (.ins C dx (putF f y fs)))
section
variable {X:Cx} {o e value:Expr} {f:Str} {pos pos' tpos:Pos} {ta tv:TE}
theorem pe_fld(he:PE X e ta)(hb:attributeBase e f X.env (eval e X.env)=eval e X.env):PE X (.Attribute e f pos) (tFld X.K ta f):=by
 intro pins s σ H Q I h
 refine attr_of hb (thn (he pins s σ H _ I h) fun u s1 ⟨x,H1,I1,rx,a,C,dx,fs,v,ex,ea,c,n,l,q⟩=>?_)
 subst ex
 obtain rfl:u=Value.ref a:=rx
 exact getattr_ok I1 ea c n l fun u' s2 I2 ru=>⟨v,H1,I2,ru,q⟩
theorem ps_fld(ha:PE X o ta)(hv:PE X value tv)(hs:swapsWith value (some (.Attribute o f pos')) pos.line X.env=pure false):PS X (.Assign [.Attribute o f pos'] value pos) (sFld X.K ta tv f):=by
 intro pins s σ H D I h
 refine plainObj_wpAny_Assign_Attribute (thn (hv pins s σ H _ I h) fun u s1 ⟨y,H1,I1,ry,q⟩=>thn (ha pins s1 σ H1 _ I1 q) fun ov s2 ⟨x,H2,I2,rx,a,C,dx,fs,ex,ea,c,n,l,q2⟩=>?_) hs
 subst ex
 obtain rfl:ov=Value.ref a:=rx
 exact setattr_ok I2 ea c n l ry fun s3 I3=>⟨σ,_,I3,q2⟩
end
section
variable {X:Cx} {pins:List (Addr×Obj)} {σ:St} {H:Hp} {s:Shared} {A:Around} {E:Value->Shared->Prop} {Q:Value->Shared->Prop} {c:Value} {b:Bool}
inductive TyOf (K:PySem.W.Frag) (H:Hp):V->Value->Prop where
 | non:TyOf K H .non (.type "NoneType")
 | bl (x:Bool):TyOf K H (.bl x) (.type "bool")
 | int (i:Int):TyOf K H (.int i) (.type "int")
 | str (x:Str):TyOf K H (.str x) (.type "str")
 | flt (x:UInt64):TyOf K H (.flt x) (.type "float")
 | lst {a:Addr} {xs:List V} (e:H a=some (.lst xs)):TyOf K H (.ref a) (.type "list")
 | frz {a:Addr} {o:Obj} {xs:List V} (e:H a=some (.frz o (.lst xs))):TyOf K H (.ref a) (.type "list")
 | tup {a:Addr} {xs:List V} (e:H a=some (.tup xs)):TyOf K H (.ref a) (.type "tuple")
 | dK {a:Addr} {kvs:List (Key×V)} (e:H a=some (.dK kvs)):TyOf K H (.ref a) (.type "dict")
 | dT {a:Addr} {kvs:List (List Key×V)} (e:H a=some (.dT kvs)):TyOf K H (.ref a) (.type "dict")
 | ins {a C dx:Addr} {fs:List (Str×V)} (e:H a=some (.ins C dx fs)) (cl:Cls K C) (ha:PySem.W.findIn K (.ref C) "__class__" = some (some (.builtin "object.__class__")))
   (hn:PySem.W.specialIn K (.builtin "object.__class__") "__get__" = some (some (.builtin "getset_descriptor.__get__"))) (htk:PySem.W.takesIn K (.builtin "object.__class__")=some true)
   (hm:PySem.W.mroIn K C (.type "object")=some true):TyOf K H (.ref a) (.ref C)
theorem isinst_ok{x:V}{u t:Value}(I:Inv X pins σ H s)(rx:RelV x u)(ty:TyOf X.K H x t)(e:PySem.W.kitOne X.K t c=some b)(h:∀ tk,Q (.bool b) { s with toks:=tk }) :
  wpAny (model X.prog X.w) A (call (.builtin "isinstance") [u,c]) Q E s:=by
 cases ty with
 | non=>cases (show u=Value.none from rx);exact PySem.W.kia_one PySem.W.kitx_none I.kIn True.intro e (fun z=>nomatch z) h
 | bl y=>cases (show u=Value.bool y from rx);exact PySem.W.kia_one PySem.W.kitx_bool I.kIn True.intro e (fun z=>nomatch z) h
 | int i=>obtain ⟨t,q⟩:=(show ∃ t,u=Value.int i t from rx);cases q;exact PySem.W.kia_one PySem.W.kitx_int I.kIn True.intro e (fun z=>nomatch z) h
 | str y=>obtain ⟨t,q⟩:=(show ∃ t,u=Value.str y t from rx);cases q;exact PySem.W.kia_one PySem.W.kitx_str I.kIn True.intro e (fun z=>nomatch z) h
 | flt y=>obtain ⟨t,q⟩:=(show ∃ t,u=Value.float y t from rx);cases q;exact PySem.W.kia_one PySem.W.kitx_float I.kIn True.intro e (fun z=>nomatch z) h
 | @lst a xs ea =>
  cases (show u=Value.ref a from rx)
  obtain ⟨_,_,n,_,h1⟩:=(show ObjOk X.prog X.w H s.heap a (.lst xs) from I.hok a _ ea)
  exact PySem.W.kia_one PySem.W.kitx_list I.kIn ⟨_,h1,rfl⟩ e (fun z=>nomatch z) h
 | @frz a ob xs ea =>
  cases (show u=Value.ref a from rx)
  obtain ⟨_,_,_,n,_,h1⟩:=(show ObjOk X.prog X.w H s.heap a (.frz ob (.lst xs)) from I.hok a _ ea)
  exact PySem.W.kia_one PySem.W.kitx_list I.kIn ⟨_,h1,rfl⟩ e (fun z=>nomatch z) h
 | @tup a xs ea =>
  cases (show u=Value.ref a from rx)
  obtain ⟨_,_,_,p⟩:=(show ObjOk X.prog X.w H s.heap a (.tup xs) from I.hok a _ ea)
  obtain ⟨o,h1,h2,_⟩:=p
  exact PySem.W.kia_one PySem.W.kitx_tuple I.kIn ⟨o,h1,h2⟩ e (fun z=>nomatch z) h
 | @dK a kvs ea =>
  cases (show u=Value.ref a from rx)
  obtain ⟨_,_,vs,_,p⟩:=(show ObjOk X.prog X.w H s.heap a (.dK kvs) from I.hok a _ ea)
  obtain ⟨o,es,ep,h1,h2,_⟩:=p
  exact PySem.W.kia_one PySem.W.kitx_dict I.kIn ⟨o,h1,h2.1⟩ e (fun z=>nomatch z) h
 | @dT a kvs ea =>
  cases (show u=Value.ref a from rx)
  obtain ⟨_,_,xs,_,o,es,ep,h1,h2,_⟩:=(show ObjOk X.prog X.w H s.heap a (.dT kvs) from I.hok a _ ea)
  exact PySem.W.kia_one PySem.W.kitx_dict I.kIn ⟨o,h1,h2.1⟩ e (fun z=>nomatch z) h
 | @ins a C dx fs ea cl ha hn htk hm =>
  cases (show u=Value.ref a from rx)
  obtain ⟨mA,O,_⟩:=ins_get I.hok ea
  obtain ⟨od,J,_⟩:=O.look
  exact PySem.W.kia_one (PySem.W.kitx_own (cl.get _) cl.hd ha hn htk hm) I.kIn J e (fun z=>nomatch z) h
end
open PySem PySem.Spec PyProof.Rows
structure Room(k:Nat)(A:Around):Prop where
 hd:A.handled=none
 dp:A.depth+3*k+5<recursionLimit
 un:A.units+16*k+200<cLine
theorem Room.mono{j k:Nat}{A:Around}(r:Room k A)(h:j<=k):Room j A:=⟨r.hd,by have:=r.dp;lia,by have:=r.un;lia⟩
theorem Room.deeper{k:Nat}{A:Around}(r:Room (k+1) A)(env:Env):Room k (A.deeper env) :=
 ⟨r.hd,by have:=r.dp;show A.depth+1+3*k+5<_;lia,by have:=r.un;show A.units+3+16*k+200<_;lia⟩
theorem make_depth{A:Around}{C:Addr}{us:List Value}{kw:List (Str×Value)}:(A.under (.builtin "type.__call__" ⟨.ref C::us,kw⟩)).depth=A.depth+1:=by
 first | rfl | simp [Around.under,Code.weight,Code.isCreation,Code.isGuard,Code.isCaller,Code.frames,Code.isFrame,guardIds]
theorem make_units{A:Around}{C:Addr}{us:List Value}{kw:List (Str×Value)}:(A.under (.builtin "type.__call__" ⟨.ref C::us,kw⟩)).units=A.units+1:=by
 first | rfl | simp [Around.under,Code.cUnits,Code.frames,Code.isFrame]
theorem Room.make{k:Nat}{A:Around}(r:Room (k+1) A)(C:Addr)(us:List Value)(kw:List (Str×Value)):Room k (A.under (.builtin "type.__call__" ⟨.ref C::us,kw⟩)) :=
 ⟨r.hd,by have:=r.dp;rw [make_depth];lia,by have:=r.un;rw [make_units];lia⟩
theorem Room.depth{k:Nat}{A:Around}(r:Room k A):A.depth<recursionLimit:=by have:=r.dp;lia
theorem Room.units{k:Nat}{A:Around}(r:Room k A):A.units+64<cLine:=by have:=r.un;lia
def tNil:TA:=fun _ H Q=>Q [] H
def tCons(ta:TE)(tr:TA):TA:=fun σ H Q=>ta σ H fun x H1=>tr σ H1 fun xs H2=>Q (x::xs) H2
section
variable {X:Cx} {e:Expr} {es:List Expr} {te:TE} {t:TA} {pos:Pos}
theorem z_f:PA X [] tNil:=fun _ _ _ _ H Q I h=>Calls.spliced_nil ⟨[],H,I,.nil,h⟩
theorem z_a(ha:PE X e te)(hr:PA X es t)(hs:starEach (e::es) X.env=(false,eval e X.env)::starEach es X.env:=by rfl):PA X (e::es) (tCons te t):=by
 intro pos pins s σ H Q I h
 rw [hs]
 show wpAny _ _ (spliced ((false,eval e X.env)::backTo pos (starEach es X.env))) _ _ s
 refine Calls.spliced_cons (thn (ha pins s σ H _ I h) fun u s1 ⟨x,H1,I1,r1,q1⟩=>?_)
 exact thn (hr pos pins s1 σ H1 _ I1 q1) fun us s2 ⟨xs,H2,I2,r2,q2⟩=>⟨x::xs,H2,I2,.cons r1 r2,q2⟩
def tTup(t:TA):TE:=fun σ H Q=>t σ H fun xs H1=>xs.length<=sizeLine/\∀ p,H1 p=none->Q (.ref p) (upd H1 p (.tup xs))
def tLst(t:TA):TE:=fun σ H Q=>t σ H fun xs H1=>xs.length<=sizeLine/\∀ p,H1 p=none->Q (.ref p) (upd H1 p (.lst xs))
theorem pe_tup{x1}(h:PA X es t):PE X (.Tuple es x1 pos) (tTup t):=by
 intro pins s σ H Q I hq
 refine wpAny_Tuple_spliced (thn (h pos pins s σ H _ I hq) fun us s1 ⟨xs,H1,I1,r,z,q⟩=>⟨by rw [<-r.length];exact z,?_⟩)
 have hf:H1 s1.heap.objs.size=none:=I1.hok.fresh (Nat.le_refl _)
 refine ⟨.ref s1.heap.objs.size,upd H1 s1.heap.objs.size (.tup xs),I1.laid (t':=s1.toks) (fun b u e=>Heap.get?_push_of_some _ e) (Nat.le_refl _) ?_,rfl,q _ hf⟩
 exact ⟨z,us,r,⟨_,Heap.get?_push_size _ rfl,rfl,_,rfl⟩⟩
theorem pe_lst(h:PA X es t):PE X (.List es pos) (tLst t):=by
 intro pins s σ H Q I hq
 refine wpAny_List_spliced (thn (h pos pins s σ H _ I hq) fun us s1 ⟨xs,H1,I1,r,z,q⟩=>⟨by rw [<-r.length];exact z,?_⟩)
 have hf:H1 s1.heap.objs.size=none:=I1.hok.fresh (Nat.le_refl _)
 refine ⟨.ref s1.heap.objs.size,upd H1 s1.heap.objs.size (.lst xs),I1.laid (t':=s1.toks) (fun b u e=>Heap.get?_push_of_some _ e) (Nat.le_refl _) ?_,rfl,q _ hf⟩
 exact ⟨z,us,0,r,Heap.get?_push_size _ rfl⟩
end
abbrev Sp:=List V->Hp->VK->XK->Prop
abbrev CXT:=List Env->Hp->Shared->XK->Value->Shared->Prop
structure Env0(P:Program)(w:World)(K:PySem.W.Frag)(mg:Str->Option Value)(base:Heap)(A:Around)(outer:List Env)(s:Shared)(H:Hp):Prop where
 frames:A.frames=some outer
 gd:A.guards=some []
 mod:Mod K mg base
 bs:∀ b o,base.get? b=some o->s.heap.get? b=some o/\H b=none
 bsz:base.objs.size<=s.heap.objs.size
 funs:s.heap.FunFrames base outer
 frf:∀ b∈frs outer,H b=none
 hok:HOk P w H s.heap
 bare:AllBare s.gens
def CE(outer:List Env)(P:Program)(w:World)(H:Hp)(s:Shared)(Q:VK)(u:Value)(s':Shared):Prop :=
 ∃ v H',s'.os=s.os/\AllBare s'.gens/\Un (frs outer) [] H H' s.heap s'.heap/\HOk P w H' s'.heap/\RelV v u/\Q v H'
def CR(CX:CXT)(outer:List Env)(P:Program)(w:World)(H:Hp)(s:Shared)(Q:VK)(E:XK)(r:Result)(s':Shared):Prop :=
 match r with
 | .ok (.ret u)=>CE outer P w H s Q u s'
 | .ok _=>False
 | .error e=>CX outer H s E e s'
structure FnOk(P:Program)(w:World)(K:PySem.W.Frag)(mg:Str->Option Value)(base:Heap)(CX:CXT)(k:Nat)(f:Addr)(fd:FuncData)(ps:List Str)(sp:Sp):Prop where
 len:∀ vs H Q E,sp vs H Q E->vs.length=ps.length
 run:∀ (A:Around) (outer:List Env) (s:Shared) (H:Hp) (args:Args) (us:List Value) (vs:List V) (Q:VK) (E:XK),Room k A->Env0 P w K mg base A outer s H->BindsTo s fd args (ps.zip us)->Vals vs us->sp vs H Q E ->
  codeAny (model P w) A (.call (.ref f) args) (CR CX outer P w H s Q E) s
theorem FnOk.imp{P:Program}{w:World}{K:PySem.W.Frag}{mg:Str->Option Value}{base:Heap}{CX:CXT}{k:Nat}{f:Addr}{fd:FuncData}{ps:List Str}{sp sp':Sp}(F:FnOk P w K mg base CX k f fd ps sp)
  (h:∀ vs H Q E,sp' vs H Q E->sp vs H Q E):FnOk P w K mg base CX k f fd ps sp' :=
 ⟨fun vs H Q E q=>F.len vs H Q E (h _ _ _ _ q),fun A outer s H args us vs Q E hr he hb hv hs=>F.run A outer s H args us vs Q E hr he hb hv (h _ _ _ _ hs)⟩
theorem Env0.make{P:Program}{w:World}{K:PySem.W.Frag}{mg:Str->Option Value}{base:Heap}{A:Around}{outer:List Env}{s:Shared}{H:Hp}(e:Env0 P w K mg base A outer s H)(C:Addr)(us:List Value)(kw:List (Str×Value)) :
  Env0 P w K mg base (A.under (.builtin "type.__call__" ⟨.ref C::us,kw⟩)) outer s H:=⟨by first | exact e.frames | (simpa [Around.under,Code.envs,Code.isFrame,pushEnvs] using e.frames),by first | exact e.gd | (simpa [Around.under,Code.isGuard,guardIds] using e.gd),e.mod,e.bs,e.bsz,e.funs,e.frf,e.hok,e.bare⟩
section
variable {X:Cx} {pins:List (Addr×Obj)} {σ:St} {H:Hp} {s s':Shared}
theorem Inv.env0(I:Inv X pins σ H s):Env0 X.prog X.w X.K X.mg X.base X.A X.stack s H :=
 ⟨I.ok.frames,I.ok.gd,I.ok.mod,I.bs,Nat.le_trans I.ok.bsz I.sz,I.stack,I.stkFree,I.hok,I.bare⟩
theorem Inv.after{Q:VK}{u:Value}(I:Inv X pins σ H s)(h:CE X.stack X.prog X.w H s Q u s'):EP X pins σ Q u s':=by
 obtain ⟨v,H',os,bare,un,hok,r,q⟩:=h
 obtain ⟨hh,g,d,t,os'⟩:=s'
 obtain rfl:os'=s.os:=os
 exact ⟨v,H',I.call (h':=hh) (g':=g) (d':=d) (t':=t) (ch:=[]) un hok bare (fun b z=>absurd z (by simp)),r,q⟩
end
def tCall(sp:Sp)(dvs:List V)(E:XK)(t:TA):TE:=fun σ H Q=>t σ H fun vs H1=>sp (vs++dvs) H1 Q E
def tMeth(C:Addr)(m:Str)(sp:Sp)(dvs:List V)(E:XK)(ta:TE)(t:TA):TE:=fun σ H Q=>ta σ H fun x H1=>∃ a dx fs,x = .ref a/\H1 a=some (.ins C dx fs)/\fs.lookup m=none /\
 t σ H1 fun vs H2=>sp (x::(vs++dvs)) H2 Q E
def tMake(C:Addr)(sp:Sp)(dvs:List V)(E:XK)(t:TA):TE:=fun σ H Q=>t σ H fun vs H1=>∀ x dx,H1 x=none->H1 dx=none->dx≠x ->
 sp (.ref x::(vs++dvs)) (upd (upd H1 dx (.own x)) x (.ins C dx [])) (fun v H2=>v = .non/\Q (.ref x) H2) E
def Binds(K:PySem.W.Frag)(fd:FuncData)(ps:List Str)(ds:List Value):Prop :=
 ∀ (s:Shared) (us:List Value),K.In s.heap->(us++ds).length=ps.length->BindsTo s fd ⟨us,[]⟩ (ps.zip (us++ds))
theorem Binds.all{K:PySem.W.Frag}{fd:FuncData}{ps:List Str}(h:∀ us:List Value,us.length=ps.length->bindArgs fd ⟨us,[]⟩=pure (ps.zip us)):Binds K fd ps []:=fun s us _ hl=>by
 rw [List.append_nil] at hl ⊢
 exact .of_eq (h us hl)
def Passes(CX:CXT)(X:Cx)(E:XK):Prop:=∀ (pins:List (Addr×Obj)) (σ:St) (H:Hp) (s:Shared) (e:Value) (s':Shared),Inv X pins σ H s->CX X.stack H s E e s'->X.xe e s'
section
variable {X:Cx} {CX:CXT} {k:Nat} {f C:Addr} {fd:FuncData} {ps:List Str} {sp:Sp} {dvs:List V} {ds:List Value} {E:XK} {x m:Str} {p pos apos:Pos} {e o:Expr} {es:List Expr} {ta:TE} {t:TA}
theorem run_fn{pins:List (Addr×Obj)}{σ:St}{H:Hp}{s:Shared}{Q:VK}{us:List Value}{vs:List V}(F:FnOk X.prog X.w X.K X.mg X.base CX k f fd ps sp)(hr:Room k X.A)(hb:Binds X.K fd ps ds)(hd:Vals dvs ds)(hx:Passes CX X E)
  (I:Inv X pins σ H s) (r:Vals vs us) (h:sp (vs++dvs) H Q E):wpAny (model X.prog X.w) X.A (call (.ref f) us) (EP X pins σ Q) X.xe s:=by
 have r2:Vals (vs++dvs) (us++ds):=r.append hd
 have hl:(us++ds).length=ps.length:=by rw [<-r2.length];exact F.len _ _ _ _ h
 refine wpAny_call (codeAny_mono (F.run X.A X.stack s H ⟨us,[]⟩ (us++ds) (vs++dvs) Q E hr I.env0 (hb s us I.kIn hl) r2 h) fun r s' hq=>?_)
 cases r with
 | error e=>exact hx pins σ H s e s' I hq
 | ok fl =>
  cases fl with
  | ret u=>exact I.after hq
  | next=>exact False.elim hq
  | brk=>exact False.elim hq
  | cont=>exact False.elim hq
theorem y_e(F:FnOk X.prog X.w X.K X.mg X.base CX k f fd ps sp)(hr:Room k X.A)(hg:Gl X x)(hm:X.mg x=some (.ref f))(hk:PySem.W.keepIn X.K (.ref f)=true)(hb:Binds X.K fd ps ds)(hd:Vals dvs ds)(hx:Passes CX X E)
  (ha:PA X (e::es) t) (hdb:(x == ("__debug__" : Str))=false:=by decide) (he:starEach (e::es) X.env=(false,eval e X.env)::starEach es X.env:=by rfl) (hpl:(backTo pos (starEach es X.env)).any (·.1)=false:=by rfl) :
  PE X (.Call (.Name x p) (e::es) [] pos) (tCall sp dvs E t):=by
 intro pins s σ H Q I h
 refine wpAny_Call_Name_kw (ld_glob I hg hm ?_ hdb)
 refine PySem.W.callWith_K (h₀:=X.base) I.ok.mod.kin hk (thn (ha pos pins s σ H _ I h) fun us s1 ⟨vs,H1,I1,r,q⟩=>⟨I1.kIn,?_⟩) he hpl
 exact run_fn F hr hb hd hx I1 r q
theorem pe_meth{pl:Sem Bool}(he:PE X o ta)(c:Cls X.K C)(hm:Meth X.K C m f)(F:FnOk X.prog X.w X.K X.mg X.base CX k f fd ps sp)(hr:Room k X.A)(hb:Binds X.K fd ps ds)(hd:Vals dvs ds)(hx:Passes CX X E)(ha:PA X (e::es) t)
  (hst:starEach (e::es) X.env=(false,eval e X.env)::starEach es X.env:=by rfl) (hpl:(backTo pos (starEach es X.env)).any (·.1)=false:=by rfl)
  (ht:eval (.Call (.Attribute o m apos) (e::es) [] pos) X.env=(do
   let ov <-eval o X.env
   standAt apos.atName
   let (f,first) <-holding [ov] (getMethod ov m pl)
   callWith pos f first (backTo pos (starEach (e::es) X.env)) (backToKw pos (keywordEach [] X.env))):=by rfl) :
  PE X (.Call (.Attribute o m apos) (e::es) [] pos) (tMeth C m sp dvs E ta t):=by
 intro pins s σ H Q I h
 refine PySem.W.methodCall_KW (pl:=pl) (thn (he pins s σ H _ I h) fun u s1 ⟨x,H1,I1,rx,a,dx,fs,ex,ea,l,q⟩=>?_) ht
 subst ex
 obtain rfl:u=Value.ref a:=rx
 refine getmeth_ok I1 ea c hm l ?_
 refine PySem.W.callWith_K (first:=[.ref a]) (h₀:=X.base) I.ok.mod.kin hm.kp (thn (ha pos pins s1 σ H1 _ I1 q) fun us s2 ⟨vs,H2,I2,r,q2⟩=>⟨I2.kIn,?_⟩) hst hpl
 exact run_fn (us:=.ref a::us) (vs:=.ref a::vs) F hr hb hd hx I2 (.cons rfl r) q2
structure Mk(K:PySem.W.Frag)(C f:Addr):Prop where
 makes:PySem.W.makesIn K C=true
 init:PySem.W.findIn K (.ref C) "__init__" = some (some (.ref f))
 fn:PySem.W.isFn K (.ref f)=true
 kp:PySem.W.keepIn K (.ref C)=true
theorem run_make{pins:List (Addr×Obj)}{σ:St}{H:Hp}{s:Shared}{Q:VK}{us:List Value}{vs:List V}(M:Mk X.K C f)(F:FnOk X.prog X.w X.K X.mg X.base CX k f fd ps sp)(hr:Room (k+1) X.A)(hb:Binds X.K fd ps ds)(hd:Vals dvs ds)
  (hx:Passes CX X E) (I:Inv X pins σ H s) (r:Vals vs us)
  (h:∀ x dx,H x=none->H dx=none->dx≠x->sp (.ref x::(vs++dvs)) (upd (upd H dx (.own x)) x (.ins C dx [])) (fun v H2=>v = .non/\Q (.ref x) H2) E) :
  wpAny (model X.prog X.w) X.A (call (.ref C) us) (EP X pins σ Q) X.xe s:=by
 have hq:=h (s.heap.objs.size+1) s.heap.objs.size (I.hok.fresh (Nat.le_succ _)) (I.hok.fresh (Nat.le_refl _)) (Nat.ne_of_lt (Nat.lt_succ_self _))
 have I2:=Inv.made (C:=C) I
 have r2:Vals (V.ref (s.heap.objs.size+1)::(vs++dvs)) (Value.ref (s.heap.objs.size+1)::(us++ds)):=.cons rfl (r.append hd)
 have hl:(Value.ref (s.heap.objs.size+1)::us++ds).length=ps.length:=by
  have e:=r2.length
  rw [F.len _ _ _ _ hq] at e
  exact e.symm
 refine wpAny_call (make_map (f:=f) I.kIn M.makes M.init (beq_iff_eq.mp M.fn) (codeAny_mono (F.run _ X.stack _ _ ⟨Value.ref (s.heap.objs.size+1)::us,[]⟩ (Value.ref (s.heap.objs.size+1)::(us++ds)) _ _ E (hr.make C us [])
  (I2.env0.make C us []) (hb _ (Value.ref (s.heap.objs.size+1)::us) I2.kIn hl) r2 hq) fun r s' hq'=>?_))
 cases r with
 | error e=>exact hx pins σ _ _ e s' I2 hq'
 | ok fl =>
  cases fl with
  | ret u =>
   obtain ⟨v,H',I3,rv,ev,q3⟩:=I2.after hq'
   subst ev
   exact ⟨rv,⟨V.ref (s.heap.objs.size+1),H',I3,rfl,q3⟩⟩
  | next=>exact False.elim hq'
  | brk=>exact False.elim hq'
  | cont=>exact False.elim hq'
theorem pe_make(M:Mk X.K C f)(F:FnOk X.prog X.w X.K X.mg X.base CX k f fd ps sp)(hr:Room (k+1) X.A)(hg:Gl X x)(hm:X.mg x=some (.ref C))(hb:Binds X.K fd ps ds)(hd:Vals dvs ds)(hx:Passes CX X E)
  (ha:PA X (e::es) t) (hdb:(x == ("__debug__" : Str))=false:=by decide) (he:starEach (e::es) X.env=(false,eval e X.env)::starEach es X.env:=by rfl) (hpl:(backTo pos (starEach es X.env)).any (·.1)=false:=by rfl) :
  PE X (.Call (.Name x p) (e::es) [] pos) (tMake C sp dvs E t):=by
 intro pins s σ H Q I h
 refine wpAny_Call_Name_kw (ld_glob I hg hm ?_ hdb)
 refine PySem.W.callWith_K (h₀:=X.base) I.ok.mod.kin M.kp (thn (ha pos pins s σ H _ I h) fun us s1 ⟨vs,H1,I1,r,q⟩=>⟨I1.kIn,?_⟩) he hpl
 exact run_make M F hr hb hd hx I1 r q
end
structure FnScope(N P:List Str)(sc:Scope):Prop where
 kind:sc.kind = .function
 co:sc.isCoroutine=false
 gen:sc.isGenerator=false
 nd:N.Nodup
 pre:N.take P.length=P
 par:∀ x∈P,sc.names.lookup x=some .local\/sc.names.lookup x=some .cell
 nofree:∀ y∈sc.names,y.2 ≠ .free
theorem bindL_out{kindOf:Str->Option NameKind}{x:Str}:∀ {binds:List (Str×Value)} {m:Str->Option Value},(∀ v,(x,v)∉binds)->bindL kindOf binds m x=m x
 | [],_,_=>rfl
 | (n,v)::r,m,h=>by
  unfold bindL
  rw [bindL_out fun w hw=>h w (List.mem_cons_of_mem _ hw)]
  split
  ·have:x≠n:=by rintro rfl;exact h v List.mem_cons_self
   simp [this]
  ·rfl
theorem bindC_out{kindOf:Str->Option NameKind}{x:Str}:∀ {binds:List (Str×Value)} {m:Str->Option Value},(∀ v,(x,v)∉binds)->bindC kindOf binds m x=m x
 | [],_,_=>rfl
 | (n,v)::r,m,h=>by
  unfold bindC
  rw [bindC_out fun w hw=>h w (List.mem_cons_of_mem _ hw)]
  split
  ·rfl
  ·have:x≠n:=by rintro rfl;exact h v List.mem_cons_self
   simp [this]
theorem bindL_get{kindOf:Str->Option NameKind}{x:Str}{v:Value}:∀ {P:List Str} {vs:List Value} {i:Nat} {m:Str->Option Value},P.Nodup->P[i]? = some x->vs[i]? = some v->kindOf x=some .local ->
  bindL kindOf (P.zip vs) m x=some v
 | [],_,_,_,_,h,_,_=>by simp at h
 | _::_,[],_,_,_,_,h,_=>by simp at h
 | p::P,w::vs,0,m,nd,h1,h2,hk=>by
  simp at h1 h2;subst h1;subst h2
  show bindL kindOf ((p,w)::P.zip vs) m p=_
  unfold bindL
  rw [bindL_out fun v hv=>(List.nodup_cons.mp nd).1 (List.of_mem_zip hv).1,if_pos hk]
  simp
 | p::P,w::vs,i+1,m,nd,h1,h2,hk=>by
  show bindL kindOf ((p,w)::P.zip vs) m x=_
  unfold bindL
  exact bindL_get (i:=i) (List.nodup_cons.mp nd).2 (by simpa using h1) (by simpa using h2) hk
theorem bindC_get{kindOf:Str->Option NameKind}{x:Str}{v:Value}:∀ {P:List Str} {vs:List Value} {i:Nat} {m:Str->Option Value},P.Nodup->P[i]? = some x->vs[i]? = some v->kindOf x≠some .local ->
  bindC kindOf (P.zip vs) m x=some v
 | [],_,_,_,_,h,_,_=>by simp at h
 | _::_,[],_,_,_,_,h,_=>by simp at h
 | p::P,w::vs,0,m,nd,h1,h2,hk=>by
  simp at h1 h2;subst h1;subst h2
  show bindC kindOf ((p,w)::P.zip vs) m p=_
  unfold bindC
  rw [bindC_out fun v hv=>(List.nodup_cons.mp nd).1 (List.of_mem_zip hv).1,if_neg hk]
  simp
 | p::P,w::vs,i+1,m,nd,h1,h2,hk=>by
  show bindC kindOf ((p,w)::P.zip vs) m x=_
  unfold bindC
  exact bindC_get (i:=i) (List.nodup_cons.mp nd).2 (by simpa using h1) (by simpa using h2) hk
def start(N:List Str)(vs:List V):St:=vs.map some++List.replicate (N.length-vs.length) none
def cxOf(CX:CXT)(P:Program)(w:World)(K:PySem.W.Frag)(mg:Str->Option Value)(base:Heap)(N:List Str)(qual:Str)(scope:Scope)(f:Addr)(cd:Value)(A:Around)(outer:List Env)(s:Shared)(H:Hp)(E:XK):Cx where
 prog:=P
 w:=w
 K:=K
 mg:=mg
 base:=base
 A:=A.deeper (envOfC qual scope s.heap.objs.size f cd)
 N:=N
 s₀:=s
 H₀:=H
 env:=envOfC qual scope s.heap.objs.size f cd
 outer:=outer
 stack:=envOfC qual scope s.heap.objs.size f cd::outer
 ex:=[]
 calm:=true
 fn:=fun _=>true
 pn:=[]
 xe:=fun e s'=>wpAny (model P w) (A.deeper (envOfC qual scope s.heap.objs.size f cd)) (leaving (envOfC qual scope s.heap.objs.size f cd) e) (fun _ s''=>CX outer H s E e s'') (fun e' s''=>CX outer H s E e' s'') s'
theorem cell_has{sc:Scope}{n:Nat}{x:Str}(h:sc.names.lookup x=some .cell):∃ c,(cellsFrom n sc.names []).lookup x=some c:=by
 have q:=PySem.W.cellsFrom_some sc.names n [] (.inl h)
 exact Option.isSome_iff_exists.mp q
theorem inv_start{CX:CXT}{P:Program}{w:World}{K:PySem.W.Frag}{mg:Str->Option Value}{base:Heap}{N ps:List Str}{qual:Str}{scope:Scope}{f:Addr}{cd:Value}{A:Around}{outer:List Env}{s s1:Shared}{H:Hp}{E:XK}{us:List Value}{vs:List V}
  (S:FnScope N ps scope) (hd:A.handled=none) (e0:Env0 P w K mg base A outer s H) (hl:vs.length=ps.length) (r:Vals vs us)
  (x:InCallC s s.heap.objs.size (bindL (envOfC qual scope s.heap.objs.size f cd).kindOf (ps.zip us) fun _=>none) (cellsFrom (s.heap.objs.size+1) scope.names []) (bindC (envOfC qual scope s.heap.objs.size f cd).kindOf (ps.zip us) fun _=>none) s1) :
  Inv (cxOf CX P w K mg base N qual scope f cd A outer s H E) [] (start N vs) H s1:=by
 have hpl:ps.length<=N.length:=by have:=congrArg List.length S.pre;rw [List.length_take] at this;lia
 obtain ⟨h1,tk,rfl,hk⟩:=x.done
 have noA:∀ b:Addr,b∉(cxOf CX P w K mg base N qual scope f cd A outer s H E).ex:=fun b z=>absurd (show b∈([]:List Addr) from z) (by simp)
 refine ⟨⟨e0.mod,S.kind,rfl,rfl,Nat.le_refl _,fun y z c h1 h2=>?_,fun y hy=>?_,fun y c _ h=>?_,fun _=>hd,Around.frames_deeper e0.frames,e0.gd,.inr ⟨rfl,rfl⟩,fun b z=>absurd z (noA b),e0.bs,e0.bsz,fun b _ _=>noA b,fun b z=>absurd z (noA b),e0.funs,e0.frf⟩,
  rfl,e0.bare,Un.kept hk,⟨_,x.toInCall.ns,fun i y v h1 h2 h3=>?_⟩,fun y c h=>⟨_,x.cell y c h⟩,e0.hok.fresh (Nat.le_refl _),fun y c h=>?_,fun p hp=>absurd (show p∈([]:List (Addr×Obj)) from hp) (by simp),e0.hok.kept hk,?_⟩
 ·exact name_of_addr x.apart (PySem.mem_of_lookup h1) (PySem.mem_of_lookup h2)
 ·have hy:scope.names.lookup y=some .cell\/scope.names.lookup y=some .free:=hy
  rcases hy with hy | hy
  ·exact cell_has hy
  ·exact absurd rfl (S.nofree _ (PySem.mem_of_lookup hy))
 ·exact Nat.le_of_lt (x.above y c (PySem.mem_of_lookup h))
 ·have hi:i<vs.length:=by
   unfold start at h2
   by_cases hi:i<vs.length
   ·exact hi
   ·rw [List.getElem?_append_right (by simpa using hi)] at h2
    rw [List.getElem?_replicate] at h2
    split at h2<;>cases h2
  have ha:vs[i]? = some v:=by
   unfold start at h2
   rw [List.getElem?_append_left (by simpa using hi),List.getElem?_map] at h2
   cases e:vs[i]? with
   | none=>rw [e] at h2;cases h2
   | some a=>rw [e] at h2;cases h2;rfl
  obtain ⟨u,hu,rv⟩:=r.get ha
  have hp:ps[i]? = some y:=by
   rw [<-S.pre,List.getElem?_take_of_lt (by lia)];exact h1
  have ndP:ps.Nodup:=by rw [<-S.pre];exact S.nd.sublist (List.take_sublist _ _)
  refine ⟨u,rv,?_⟩
  rcases S.par y (List.mem_of_getElem? hp) with k | k
  ·exact .inl ⟨k,bindL_get ndP hp hu k⟩
  ·obtain ⟨c,e⟩:=cell_has (n:=s.heap.objs.size+1) k
   refine .inr ⟨.inl k,c,e,?_⟩
   have q:=x.cell y c e
   rw [bindC_get ndP hp hu (by show scope.names.lookup y≠_;rw [k];decide)] at q
   exact q
 ·exact e0.hok.fresh (Nat.le_of_lt (x.above y c (PySem.mem_of_lookup h)))
 ·unfold start
  show _=N.length
  rw [List.length_append,List.length_map,List.length_replicate]
  lia
theorem fn_of{CX:CXT}{P:Program}{w:World}{K:PySem.W.Frag}{mg:Str->Option Value}{base:Heap}{k:Nat}{f:Addr}{name qual:Str}{params:Arguments}{body:List Stmt}{scope:Scope}{dV kV doc pm cdv ct oc:Value}{an od:Option Addr}
  {osl:Array (Option Value)} {N ps:List Str} {sp:Sp} (lk:K.lookup f=some ⟨oc,od,.func (PySem.W.fnOf name qual params body scope dV kV doc pm an cdv ct),osl⟩) (hcd:PySem.W.codeIn K cdv qual=true) (S:FnScope N ps scope)
  (len:∀ vs H Q E,sp vs H Q E->vs.length=ps.length)
  (hbody:∀ (A:Around) (outer:List Env) (s:Shared) (H:Hp) (vs:List V) (Q:VK) (E:XK),Room k (A.deeper (envOfC qual scope s.heap.objs.size f cdv))->sp vs H Q E ->
   ∃ t,PSs (cxOf CX P w K mg base N qual scope f cdv A outer s H E) body t/\t { nx:=fun _ H'=>Q .non H',rt:=Q } (start N vs) H) :
  FnOk P w K mg base CX (k+1) f (PySem.W.fnOf name qual params body scope dV kV doc pm an cdv ct) ps sp:=by
 refine ⟨len,fun A outer s H args us vs Q E hr e0 hb r hsp=>?_⟩
 have hl:=len _ _ _ _ hsp
 have KX:K.In s.heap:=e0.mod.kin.keeps fun b o e=>(e0.bs b o e).1
 have lim:s.heap.NoLimit:=e0.mod.nolimit.keeps fun b o e=>(e0.bs b o e).1
 have hkind:∀ y∈ps.zip us,scope.names.lookup y.1=some .local\/(scope.names.lookup y.1=some .cell/\((cellsFrom (s.heap.objs.size+1) scope.names []).lookup y.1).isSome=true):=fun ⟨n,v⟩ hy=>by
  rcases S.par n (List.of_mem_zip hy).1 with q | q
  ·exact .inl q
  ·exact .inr ⟨q,PySem.W.cellsFrom_some _ _ _ (.inl q)⟩
 refine codeAny_call_function hr.depth (KX _ _ lk) rfl S.co S.gen rfl (PySem.W.codeRec_of KX hcd) (hb _ _ _ _ ?_)
 refine wpAny_newFunctionEnv_cells S.kind hkind fun env he s1 x=>?_
 subst he
 refine ⟨lim.keeps x.toInCall.keep,codeAny_func ?_⟩
 obtain ⟨t,ht,hq⟩:=hbody A outer s H vs Q E (hr.deeper _) hsp
 have I:Inv (cxOf CX P w K mg base N qual scope f cdv A outer s H E) [] (start N vs) H s1:=inv_start S hr.hd e0 hl r x
 refine wpAny_mono (ht [] s1 (start N vs) H _ I hq) (fun fl s' hs=>?_) fun e s' hs=>hs
 have fin:∀ {σ':St} {H':Hp} {v:V} {u:Value},Inv (cxOf CX P w K mg base N qual scope f cdv A outer s H E) [] σ' H' s'->RelV v u->Q v H'->CE outer P w H s Q u s' :=
  fun {σ' H' v u} J rv q=>⟨v,H',J.os,J.bare,J.base,J.hok,rv,q⟩
 cases fl with
 | ret u =>
  obtain ⟨v,σ',H',J,rv,q⟩:=hs
  exact fin J rv q
 | next =>
  obtain ⟨σ',H',J,q⟩:=hs
  exact fin (v:=V.non) (u:=Value.none) J rfl q
 | brk =>
  obtain ⟨_,_,_,q⟩:=hs
  exact False.elim q
 | cont =>
  obtain ⟨_,_,_,q⟩:=hs
  exact False.elim q
open PySem PySem.Spec PyProof.Rows
section
variable {X:Cx} {x:Str} {p pos:Pos} {e:Expr} {es:List Expr} {t:TA} {id T:String} {r:List V->Hp->VK->Prop}
def tCB(r:List V->Hp->VK->Prop)(t:TA):TE:=fun σ H Q=>t σ H fun vs H1=>r vs H1 Q
theorem z_r(hc:CallR X (.builtin id) r)(hg:Gl X x)(hm:X.mg x=none)(hv:bootBuiltins x=some (.builtin id))(ha:PA X (e::es) t)(hn:x ≠ "__name__" := by decide)(hdb:(x == ("__debug__" : Str))=false:=by decide)
  (he:starEach (e::es) X.env=(false,eval e X.env)::starEach es X.env:=by rfl) (hpl:(backTo pos (starEach es X.env)).any (·.1)=false:=by rfl):PE X (.Call (.Name x p) (e::es) [] pos) (tCB r t):=by
 intro pins s σ H Q I h
 refine wpAny_Call_Name_kw (ld_blt I hg hm hv ?_ hn hdb)
 exact PyProof.Rows.callWith_builtin1 (thn (ha pos pins s σ H _ I h) fun us s1 ⟨vs,H1,I1,r1,q1⟩=>hc pins s1 σ H1 vs us Q I1 r1 q1) he hpl
theorem pe_callTy(hc:CallR X (.type T) r)(hg:Gl X x)(hm:X.mg x=none)(hv:bootBuiltins x=some (.type T))(ha:PA X (e::es) t)(hn:x ≠ "__name__" := by decide)(hdb:(x == ("__debug__" : Str))=false:=by decide)
  (he:starEach (e::es) X.env=(false,eval e X.env)::starEach es X.env:=by rfl) (hpl:(backTo pos (starEach es X.env)).any (·.1)=false:=by rfl):PE X (.Call (.Name x p) (e::es) [] pos) (tCB r t):=by
 intro pins s σ H Q I h
 refine wpAny_Call_Name_kw (ld_blt I hg hm hv ?_ hn hdb)
 exact PyProof.Rows.callWith_type1 (thn (ha pos pins s σ H _ I h) fun us s1 ⟨vs,H1,I1,r1,q1⟩=>hc pins s1 σ H1 vs us Q I1 r1 q1) he hpl
end
end L2
namespace HT
open PySem PyProof.Rows
section
open PySem.SeqAt
open PySem.AutoSeq1 (wpAny_loadPart')
open PySem.MeetsSeq PySem.MeetsSeq2 PySem.MeetsSeq3
end
section
variable {prog:Program} {w:World} {A:Around} {E:Value->Shared->Prop} {s:Shared}
theorem cat_tup{t b:Addr}{vs ws:List Value}{Q:Value->Shared->Prop}(ht:IsTup s.heap t vs.toArray)(hb:IsTup s.heap b ws.toArray)(hv:vs≠[])
  (h1:ws=[]->Q (.ref t) s) (h2:ws≠[]->Q (.ref s.heap.objs.size) { s with heap:=s.heap.push { cls:=.type "tuple",data:=.seq (vs++ws).toArray } })
  (hsz:vs.length+ws.length<=sizeLine):wpAny (model prog w) A (binaryOp .Add (.ref t) (.ref b)) Q E s:=by
 obtain ⟨⟨cls,dd,data,sl⟩,ho,hc,n,hd⟩:=id ht
 obtain ⟨⟨cls2,dd2,data2,sl2⟩,ho2,hc2,n2,hd2⟩:=id hb
 simp only at hc hd hc2 hd2
 subst hc hd hc2 hd2
 have e:vs.toArray++ws.toArray=(vs++ws).toArray:=by simp
 by_cases hw:ws=[]
 ·exact concat_meets ⟨_,ho,rfl⟩ ⟨_,ho2,rfl⟩ noFill_tuple_add seq_tuple_add PySem.F.slot_tuple_add PySem.F.entry_tuple_add (PySem.F.args_tuple_add_2 _ _)
   (tuple_addW1 t b vs.toArray ws.toArray n n2 dd dd2 sl sl2 (by simpa using hv) (by simp [hw])) ⟨ho,ho2,h1 hw⟩
 ·refine concat_meets ⟨_,ho,rfl⟩ ⟨_,ho2,rfl⟩ noFill_tuple_add seq_tuple_add PySem.F.slot_tuple_add PySem.F.entry_tuple_add (PySem.F.args_tuple_add_2 _ _)
   (tuple_addW2 t b vs.toArray ws.toArray n n2 dd dd2 sl sl2 (by simpa using hv) (by simpa using hw) (by rw [List.size_toArray,List.size_toArray];exact hsz)) ⟨ho,ho2,?_⟩
  rw [e]
  exact h2 hw
def sIx(n d:Nat):Option Int->Nat
 | none=>d
 | some v=>if v<0 then (v+(n:Int)).toNat else min v.toNat n
theorem sIx_le(n d:Nat)(hd:d<=n)(o:Option Int):sIx n d o<=n:=by
 cases o with
 | none=>exact hd
 | some v =>
  show (if v<0 then (v+(n:Int)).toNat else min v.toNat n)<=n
  by_cases hv:v<0
  ·rw [if_pos hv];lia
  ·rw [if_neg hv];exact Nat.min_le_right _ _
theorem clip_eq(v:Int)(n d:Nat):(if v<0 then max (v+(n:Int)) 0 else min v (n:Int))=((sIx n d (some v):Nat):Int):=by
 show (if v<0 then max (v+(n:Int)) 0 else min v (n:Int))=(((if v<0 then (v+(n:Int)).toNat else min v.toNat n):Nat):Int)
 by_cases hv:v<0
 ·simp only [if_pos hv];lia
 ·simp only [if_neg hv];lia
theorem adjust_gen(lo hi:Option Int)(n:Nat):Builtin.Slice.sliceAdjust lo hi 1 (n:Int)=(((sIx n 0 lo:Nat):Int),((sIx n n hi:Nat):Int)):=by
 have h1:¬((1:Int)<0):=by lia
 unfold Builtin.Slice.sliceAdjust
 simp only [h1,if_false]
 refine Prod.ext ?_ ?_
 ·cases lo with
  | none=>rfl
  | some v=>exact clip_eq v n 0
 ·cases hi with
  | none=>rfl
  | some v=>exact clip_eq v n n
theorem places_gen(i j:Nat):Builtin.Slice.slicePlaces (i:Int) (j:Int) 1=j-i:=by
 unfold Builtin.Slice.slicePlaces
 have h1:(1:Int) > 0:=by lia
 simp only [h1,if_true,Int.ediv_one]
 split<;>lia
theorem slicePart_{v:Value}{o:Option Int}{Q:Option Int->Shared->Prop}(p:IsPart v o)(h:Q o s):wpAny (model prog w) A (Builtin.Slice.slicePartIndex v) Q E s:=by
 cases p with
 | none=>exact slicePart_none h
 | int i t=>exact slicePart_int h
theorem sliceApplied_gen{sl:Addr}{vl vu:Value}{lo hi:Option Int}{n:Nat}{Q:Int×Int×Nat->Shared->Prop}(hs:s.heap.IsSliceOf sl vl vu .none)(pl:IsPart vl lo)(pu:IsPart vu hi)
  (h:Q (((sIx n 0 lo:Nat):Int),1,sIx n n hi-sIx n 0 lo) s):wpAny (model prog w) A (Builtin.Slice.sliceApplied (.ref sl) (pure (n:Int))) Q E s:=by
 obtain ⟨os,hos,hcs,hds⟩:=id hs
 unfold Builtin.Slice.sliceApplied Builtin.Slice.sliceFields
 refine wpAny_bind (wpAny_bind (wpAny_field hos hds (x:=vl) rfl (wpAny_bind (wpAny_field hos hds (x:=vu) rfl (wpAny_bind (wpAny_field hos hds (x:=.none) rfl (wpAny_pure ?_)))))))
 refine wpAny_bind (slicePart_none ?_)
 show wpAny _ _ (if ((1:Int) == 0)=true then _ else _) _ _ s
 rw [if_neg (by decide)]
 refine wpAny_bind (slicePart_ pl (wpAny_bind (slicePart_ pu (wpAny_bind (wpAny_pure ?_)))))
 show wpAny _ _ (match Builtin.Slice.sliceAdjust lo hi 1 (n:Int) with | (lo,hi)=>pure (lo,(1:Int),Builtin.Slice.slicePlaces lo hi 1)) _ _ s
 rw [adjust_gen lo hi n]
 show wpAny _ _ (pure (((sIx n 0 lo:Nat):Int),(1:Int),Builtin.Slice.slicePlaces ((sIx n 0 lo:Nat):Int) ((sIx n n hi:Nat):Int) 1)) _ _ s
 rw [places_gen]
 exact wpAny_pure h
theorem pick_gen(xs:Array Value)(i k:Nat):((List.range k).filterMap fun (m:Nat)=>xs[((i:Int)+(m:Int)*1).toNat]?).toArray=((xs.toList.drop i).take k).toArray:=by
 have e:(fun (m:Nat)=>xs[((i:Int)+(m:Int)*1).toNat]?)=fun m=>xs[i+m]? := by
  funext m
  have:((i:Int)+(m:Int)*1).toNat=i+m:=by lia
  rw [this]
 rw [e]
 have:=pick_run xs i k
 rw [List.filterMap_map] at this
 have e2:((fun x=>xs[x]?) ∘ fun x=>i+x)=fun m=>xs[i+m]? := rfl
 rw [e2] at this
 rw [this]
theorem getItem_tuple_cut{t sl:Addr}{items:Array Value}{vl vu:Value}{lo hi:Option Int}{Q:Value->Shared->Prop}(ht:IsTup s.heap t items)(hs:s.heap.IsSliceOf sl vl vu .none)(pl:IsPart vl lo)(pu:IsPart vu hi)
  (hw:¬(sIx items.size 0 lo=0/\sIx items.size items.size hi=items.size))
  (h:Q (.ref s.heap.objs.size) { s with heap:=s.heap.push { cls:=.type "tuple",data:=.seq ((items.toList.drop (sIx items.size 0 lo)).take (sIx items.size items.size hi-sIx items.size 0 lo)).toArray } })
  (hsz:items.size<=sizeLine):wpAny (model prog w) A (getItem (.ref t) (.ref sl)) Q E s:=by
 have htake:sizeOk (.seq ((items.toList.drop (sIx items.size 0 lo)).take (sIx items.size items.size hi-sIx items.size 0 lo)).toArray):=by
  show ((items.toList.drop (sIx items.size 0 lo)).take (sIx items.size items.size hi-sIx items.size 0 lo)).toArray.size<=sizeLine
  rw [List.size_toArray,List.length_take,List.length_drop,Array.length_toList]
  lia
 have hj:sIx items.size items.size hi<=items.size:=sIx_le _ _ (Nat.le_refl _) hi
 obtain ⟨os,hos,hcs,hds⟩:=id hs
 have hTs:s.TypeIs (.ref sl) "slice" := ⟨os,hos,hcs⟩
 unfold getItem
 try with_reducible refine wpAny_holding ?_
 first | refine wpAny_bind (wpAny_pure ?_) | skip
 refine wpAny_bind (wpAny_sequenceKey ht.typeIs (by decide) ?_)
 refine wpAny_bind (wpAny_callSpecial?_slot (name:=Str.ofString "__getitem__") ht.typeIs PyProof.Rows.slot_tuple_getitem
  (wpAny_call_entry PyProof.Rows.slot_tuple_getitem ht.typeIs entry_tuple_getitem ?_ (args_tuple_getitem _ _)))
 show wpAny _ _ (Builtin.Tuple.tupleItemsOf (.ref t) >>= _) _ _ s
 refine wpAny_bind (tupleItemsOf_ ht ?_)
 refine wpAny_bind (wpAny_typeOf hTs ?_)
 rw [if_pos (by decide)]
 refine wpAny_bind (sliceApplied_gen hs pl pu ?_)
 have hno:¬((((sIx items.size 0 lo:Nat):Int) == 0&&(1:Int) == 1&&(sIx items.size items.size hi-sIx items.size 0 lo) == items.size)=true):=by
  intro q
  rw [Bool.and_eq_true,Bool.and_eq_true] at q
  have q1:((sIx items.size 0 lo:Nat):Int)=0:=eq_of_beq q.1.1
  have q2:sIx items.size items.size hi-sIx items.size 0 lo=items.size:=eq_of_beq q.2
  exact hw ⟨by lia,by lia⟩
 show wpAny _ _ (if (((sIx items.size 0 lo:Nat):Int) == 0&&(1:Int) == 1&&(sIx items.size items.size hi-sIx items.size 0 lo) == items.size)=true then _ else _) _ _ s
 rw [if_neg hno,pick_gen]
 first
  | exact wpAny_bind (m:=Builtin.Tuple.tupleExact _) (wpAny_newObj_type (wpAny_pure ⟨_,rfl,wpAny_pure h⟩) htake)
  | exact wpAny_bind (m:=Builtin.Tuple.tupleExact _) (wpAny_newObj_type (wpAny_bind (wpAny_pure (wpAny_pure ⟨_,rfl,wpAny_pure h⟩))) htake)
  | exact wpAny_bind (wpAny_bind (m:=Builtin.Tuple.tupleExact _) (wpAny_newObj_type (wpAny_pure (wpAny_pure ⟨_,rfl,wpAny_pure h⟩)) htake))
  | exact wpAny_bind (wpAny_bind (m:=Builtin.Tuple.tupleExact _) (wpAny_newObj_type (wpAny_pure ⟨_,rfl,wpAny_pure h⟩) htake))
end
end HT
namespace L2
open PySem PySem.Spec PyProof.Rows
abbrev TO:=St->Hp->(Option Int->Hp->Prop)->Prop
def PO(X:Cx)(e:Option Expr)(t:TO):Prop :=
 ∀ (pins:List (Addr×Obj)) (s:Shared) (σ:St) (H:Hp) (Q:Option Int->Hp->Prop),Inv X pins σ H s->t σ H Q ->
  wpAny (model X.prog X.w) X.A (evalPart e X.env) (fun u s'=>∃ o H',Inv X pins σ H' s'/\IsPart u o/\Q o H') X.xe s
def tNoPart:TO:=fun _ H Q=>Q none H
def tPart(t:TE):TO:=fun σ H Q=>t σ H fun x H1=>∃ i,x = .int i/\Q (some i) H1
theorem intsAre_of{ns:List Int}:∀ {us:List Value},Vals (ns.map V.int) us->IntsAre us ns:=by
 induction ns with
 | nil=>intro us r;rw [List.map_nil] at r;cases r;exact .nil
 | cons n ns ih =>
  intro us r
  rw [List.map_cons] at r
  cases r with
  | cons r1 r2 =>
   obtain ⟨t,e⟩:=r1
   subst e
   exact .cons n t (ih r2)
section
variable {X:Cx} {e:Expr} {te:TE} {lo hi:Option Expr} {tl th:TO} {pos p2:Pos}
theorem po_none:PO X none tNoPart:=by
 intro pins s σ H Q I h
 rw [evalPart_none]
 exact wpAny_pure ⟨none,H,I,.none,h⟩
theorem po_some(h:PE X e te):PO X (some e) (tPart te):=by
 intro pins s σ H Q I hw
 rw [evalPart_some]
 refine thn (h pins s σ H _ I hw) fun u s1 ⟨x,H1,I1,r1,q1⟩=>?_
 obtain ⟨i,rfl,q⟩:=q1
 obtain ⟨t,rfl⟩:=r1
 exact ⟨some i,H1,I1,.int i t,q⟩
def SlR(X:Cx)(r:V->Option Int->Option Int->Hp->VK->Prop):Prop :=
 ∀ (pins:List (Addr×Obj)) (s:Shared) (σ:St) (H:Hp) (x:V) (v vl vu:Value) (lo hi:Option Int) (sl:Addr) (Q:VK),Inv X pins σ H s->RelV x v->s.heap.IsSliceOf sl vl vu .none->IsPart vl lo->IsPart vu hi->r x lo hi H Q ->
  ∃ T id,typeLookup (.type T) "__getitem__" = pure (some (.builtin id))/\s.TypeIs v T/\wpAny (model X.prog X.w) X.A (getItem v (.ref sl)) (EP X pins σ Q) X.xe s
def tSl(r:V->Option Int->Option Int->Hp->VK->Prop)(te:TE)(tl th:TO):TE:=fun σ H Q=>te σ H fun x H1=>tl σ H1 fun l H2=>th σ H2 fun u H3=>r x l u H3 Q
theorem pe_slice{r:V->Option Int->Option Int->Hp->VK->Prop}(hr:SlR X r)(he:PE X e te)(hl:PO X lo tl)(hu:PO X hi th):PE X (.Subscript e (.Slice lo hi none p2) pos) (tSl r te tl th):=by
 intro pins s σ H Q I h
 refine Subscript_ (thn (he pins s σ H _ I h) fun v s1 ⟨x,H1,I1,r1,q1⟩=>?_)
 refine wpAny_Slice (thn (hl pins s1 σ H1 _ I1 q1) fun vl s2 ⟨l,H2,I2,pl,q2⟩=>thn (hu pins s2 σ H2 _ I2 q2) fun vu s3 ⟨u,H3,I3,pu,q3⟩=>?_)
 rw [evalPart_none]
 refine wpAny_pure ?_
 have I4:Inv X pins σ H3 { s3 with heap:=s3.heap.push { cls:=.type "slice",data:=.fields #[vl,vu,.none] } }:=I3.kept (t':=s3.toks) fun b ob q=>Heap.get?_push_of_some _ q
 obtain ⟨T,id,hT,ht,hg⟩:=hr pins { s3 with heap:=s3.heap.push { cls:=.type "slice",data:=.fields #[vl,vu,.none] } } σ H3 x v vl vu l u s3.heap.objs.size Q I4 r1 (Heap.IsSliceOf.new ..) pl pu q3
 show wpAny (model X.prog X.w) X.A (subscriptTail e (.Slice lo hi none p2) v (.ref s3.heap.objs.size)) (EP X pins σ Q) X.xe { s3 with heap:=s3.heap.push { cls:=.type "slice",data:=.fields #[vl,vu,.none] } }
 exact tail_any (ops:=[.ref s3.heap.objs.size,v]) ht hT hg (by with_unfolding_all rfl)
def cutV(xs:List V)(lo hi:Option Int):List V:=(xs.drop (HT.sIx xs.length 0 lo)).take (HT.sIx xs.length xs.length hi-HT.sIx xs.length 0 lo)
theorem cutV_length(xs:List V)(lo hi:Option Int):(cutV xs lo hi).length<=xs.length:=by
 unfold cutV
 rw [List.length_take,List.length_drop]
 lia
def rSlT(K:PySem.W.Frag):V->Option Int->Option Int->Hp->VK->Prop:=fun x lo hi H Q=>∃ a xs,x = .ref a/\SqT K H a xs /\
 ¬(HT.sIx xs.length 0 lo=0/\HT.sIx xs.length xs.length hi=xs.length)/\∀ p,H p=none->Q (.ref p) (upd H p (.tup (cutV xs lo hi)))
theorem sl_tup:SlR X (rSlT X.K):=by
 intro pins s σ H x v vl vu lo hi sl Q I rx hs pl pu h
 obtain ⟨a,xs,rfl,hx,hw,q⟩:=h
 cases rx
 obtain ⟨its,r,ht,hz⟩:=I.tuple hx
 have hlen:its.toArray.size=xs.length:=by rw [List.size_toArray];exact r.length.symm
 refine ⟨"tuple",_,PyProof.Rows.slot_tuple_getitem.lookup,ht.typeIs,?_⟩
 refine HT.getItem_tuple_cut ht hs pl pu (by rw [hlen];exact hw) ?_ (by rw [hlen];exact hz)
 rw [hlen]
 refine ⟨.ref s.heap.objs.size,_,I.laid (t':=s.toks) (o:=.tup (cutV xs lo hi)) (fun b ob q=>Heap.get?_push_of_some _ q) (Nat.le_refl _) ?_,rfl,q _ (I.hok.fresh (Nat.le_refl _))⟩
 exact ⟨Nat.le_trans (cutV_length xs lo hi) hz,_,(r.drop (HT.sIx xs.length 0 lo)).take (HT.sIx xs.length xs.length hi-HT.sIx xs.length 0 lo),IsTup.new _ _⟩
def rCatT(K:PySem.W.Frag):R2:=fun x y H Q=>∃ a b xs ys,x = .ref a/\y = .ref b/\SqT K H a xs/\SqT K H b ys/\xs≠[]/\xs.length+ys.length<=sizeLine /\
 (ys=[]->Q (.ref a) H)/\(ys≠[]->∀ p,H p=none->Q (.ref p) (upd H p (.tup (xs++ys))))
theorem Vals.nil_iff{xs:List V}{us:List Value}(r:Vals xs us):us=[]↔xs=[]:=by
 cases r with
 | nil=>simp
 | cons _ _=>simp
theorem op_catT:OpR X (binaryOp .Add) (rCatT X.K):=by
 intro pins s σ H x y v u Q I rx ry h
 obtain ⟨a,b,xs,ys,rfl,rfl,ha,hb,hx,hz,q1,q2⟩:=h
 cases rx
 cases ry
 obtain ⟨its,r1,p1,_⟩:=I.tuple ha
 obtain ⟨its2,r2,p2,_⟩:=I.tuple hb
 refine HT.cat_tup p1 p2 (fun z=>hx (r1.nil_iff.mp z)) (fun z=>⟨.ref a,H,I,rfl,q1 (r2.nil_iff.mp z)⟩) (fun z=>?_) (by rw [<-r1.length,<-r2.length];exact hz)
 refine ⟨.ref s.heap.objs.size,_,I.laid (t':=s.toks) (o:=.tup (xs++ys)) (fun b ob q=>Heap.get?_push_of_some _ q) (Nat.le_refl _) ?_,rfl,q2 (fun w=>z (r2.nil_iff.mpr w)) _ (I.hok.fresh (Nat.le_refl _))⟩
 exact ⟨by rw [List.length_append];exact hz,_,r1.append r2,IsTup.new _ _⟩
end
open PySem PySem.Spec PyProof.Rows
def ixN(n:Nat)(i:Int):Option Nat:=if 0<=i then (if i<n then some i.toNat else none) else if -(n:Int)<=i then some (i+n).toNat else none
def atI{α:Type}(xs:List α)(i:Int):Option α:=(ixN xs.length i).bind fun j=>xs[j]?
theorem ixN_seq{n:Nat}{i:Int}{j:Nat}(h:ixN n i=some j):seqIndex? i n=some j/\j<n /\ -(n:Int)<=i/\i<n:=by
 unfold ixN at h
 by_cases h0:0<=i
 ·rw [if_pos h0] at h
  by_cases h1:i<n
  ·rw [if_pos h1] at h
   have e:i.toNat=j:=Option.some.inj h
   exact ⟨by rw [seqIndex_of h0 h1,e],by lia,by lia,h1⟩
  ·rw [if_neg h1] at h;cases h
 ·rw [if_neg h0] at h
  by_cases h1 : -(n:Int)<=i
  ·rw [if_pos h1] at h
   have e:(i+n).toNat=j:=Option.some.inj h
   exact ⟨by rw [seqIndex_neg (by lia) h1,e],by lia,h1,by lia⟩
  ·rw [if_neg h1] at h;cases h
theorem atI_get{α:Type}{xs:List α}{i:Int}{v:α}(h:atI xs i=some v):∃ j,seqIndex? i xs.length=some j/\xs[j]? = some v/\j<xs.length /\ -(xs.length:Int)<=i/\i<xs.length:=by
 unfold atI at h
 cases e:ixN xs.length i with
 | none=>rw [e] at h;cases h
 | some j =>
  rw [e] at h
  obtain ⟨h1,h2,h3,h4⟩:=ixN_seq e
  exact ⟨j,h1,h,h2,h3,h4⟩
theorem atI_nat{α:Type}{xs:List α}{j:Nat}{v:α}(h:xs[j]? = some v):atI xs (j:Int)=some v:=by
 have hj:j<xs.length:=(List.getElem?_eq_some_iff.mp h).1
 have e:ixN xs.length (j:Int)=some j:=by
  unfold ixN
  rw [if_pos (by lia),if_pos (by lia)];simp
 unfold atI;rw [e];exact h
def PlainIx(b:Expr):Prop:=∀ o i,subscripted b false o i=operate [o,i] (getItem o i)
def IxR(X:Cx)(r:R2):Prop :=
 ∀ (value slice:Expr) (pins:List (Addr×Obj)) (s:Shared) (σ:St) (H:Hp) (x y:V) (v u:Value) (Q:VK),Inv X pins σ H s->RelV x v->RelV y u->r x y H Q ->
  subscripted slice false v u=operate [v,u] (getItem v u)->wpAny (model X.prog X.w) X.A (subscriptTail value slice v u) (EP X pins σ Q) X.xe s
def MtR(X:Cx)(id:String)(r:V->List V->Hp->VK->Prop):Prop :=
 ∀ (pins:List (Addr×Obj)) (s:Shared) (σ:St) (H:Hp) (x:V) (xs:List V) (v:Value) (us:List Value) (Q:VK),Inv X pins σ H s->RelV x v->Vals xs us->r x xs H Q ->
  wpAny (model X.prog X.w) X.A (call (.builtin id) (v::us)) (EP X pins σ Q) X.xe s
section
variable {X:Cx} {a b:Expr} {ta tb:TE} {pos:Pos}
theorem z_p{r:R2}(hr:IxR X r)(ha:PE X a ta)(hb:PE X b tb)(hs:PlainIx b):PE X (.Subscript a b pos) (tOp r ta tb):=by
 intro pins s σ H Q I h
 exact Subscript_ (binT ha hb I h fun v u s2 x y H2 I2 rx ry q=>hr a b pins s2 σ H2 x y v u Q I2 rx ry q (hs _ _))
def rIxL(K:PySem.W.Frag):R2:=fun x y H Q=>∃ p xs i v,x = .ref p/\y = .int i/\SqL K H p xs/\atI xs i=some v/\Q v H
def rIxT(K:PySem.W.Frag):R2:=fun x y H Q=>∃ p xs i v,x = .ref p/\y = .int i/\SqT K H p xs/\atI xs i=some v/\Q v H
theorem z_o:IxR X (rIxL X.K):=by
 intro value slice pins s σ H x y v u Q I rx ry h hs
 obtain ⟨p,xs,i,z,rfl,rfl,hq,he,q⟩:=h
 cases rx
 obtain ⟨t,rfl⟩:=ry
 obtain ⟨its,r,pl,hz⟩:=I.list hq
 obtain ⟨j,h1,h2,h3,h4,h5⟩:=atI_get he
 obtain ⟨w,ew,rw'⟩:=r.get h2
 have hl:=r.length
 have hn:=line63
 have fin:EP X pins σ Q w s:=⟨z,H,I,rw',q⟩
 by_cases h0:0<=i
 ·have hj:i.toNat=j:=by
   rw [seqIndex_of h0 h5] at h1
   exact Option.some.inj h1
  exact item_listR pl.isList h0 (by lia) (by rw [hj];simpa using ew) fin hs
 ·have hj:(i+(its.toArray.size:Int)).toNat=j:=by
   rw [seqIndex_neg (by lia) h4] at h1
   rw [List.size_toArray,<-hl]
   exact Option.some.inj h1
  exact subscriptTail_builtinR (x:=w) pl.isList.typeIs slot_list_getitem.lookup
   (wpAny_getItem_list_neg (Q:=fun r s'=>r=w/\EP X pins σ Q r s') pl.isList (by lia) (by rw [List.size_toArray]<;>lia) (by lia) (by rw [hj];simpa using ew) ⟨rfl,fin⟩) hs
theorem z_u:IxR X (rIxT X.K):=by
 intro value slice pins s σ H x y v u Q I rx ry h hs
 obtain ⟨p,xs,i,z,rfl,rfl,hq,he,q⟩:=h
 cases rx
 obtain ⟨t,rfl⟩:=ry
 obtain ⟨its,r,pl,hz⟩:=I.tuple hq
 obtain ⟨j,h1,h2,h3,h4,h5⟩:=atI_get he
 obtain ⟨w,ew,rw'⟩:=r.get h2
 have hl:=r.length
 have hn:=line63
 have fin:EP X pins σ Q w s:=⟨z,H,I,rw',q⟩
 exact subscriptTail_builtinR (x:=w) pl.typeIs slot_tuple_getitem.lookup
  (getItem_tuple (j:=j) (Q:=fun r s'=>r=w/\EP X pins σ Q r s') pl (by lia) (by lia) (by rw [List.size_toArray,<-hl];exact h1) (by simpa using ew) ⟨rfl,fin⟩) hs
theorem mapSeq_set(its:List Value)(n j:Nat)(u:Value):Obj.mapSeq (·.setIfInBounds j u) { cls:=.type "list",data:=.seq its.toArray n }={ cls:=.type "list",data:=.seq (its.set j u).toArray n }:=by
 simp [Obj.mapSeq]
theorem Inv.lst{pins:List (Addr×Obj)}{σ:St}{H:Hp}{s:Shared}{p:Addr}{xs:List V}(I:Inv X pins σ H s)(h:H p=some (.lst xs)) :
  ∃ (its:List Value) (n:Nat),Vals xs its/\s.heap.get? p=some { cls:=.type "list",data:=.seq its.toArray n }/\xs.length<=sizeLine:=by
 obtain ⟨z,its,n,r,e⟩:=I.hok p _ h
 exact ⟨its,n,r,e,z⟩
theorem Inv.lstUpd{pins:List (Addr×Obj)}{σ:St}{H:Hp}{s:Shared}{p:Addr}{xs ys:List V}{its its':List Value}{n n':Nat}{f:Obj->Obj}(I:Inv X pins σ H s)(h:H p=some (.lst xs))
  (ho:s.heap.get? p=some { cls:=.type "list",data:=.seq its.toArray n }) (hf:f { cls:=.type "list",data:=.seq its.toArray n }={ cls:=.type "list",data:=.seq its'.toArray n' }) (r:Vals ys its') (hz:ys.length<=sizeLine) (t:Nat) :
  Inv X pins σ (upd H p (.lst ys)) { s with heap:=s.heap.update p f,toks:=t }:=by
 have e:(s.heap.update p f).get? p=some { cls:=.type "list",data:=.seq its'.toArray n' }:=by
  rw [Heap.get?_update_self f ho (by rw [hf]<;>rfl),hf]
 refine I.write (x:=p) (e:=p) (by rw [h];trivial) (.inl rfl) (fun b u hb q=>(Heap.get?_update_other _ _ (Ne.symm hb)).trans q) ⟨_,e⟩ ?_
 exact ⟨hz,its',n',r,e⟩
def rSetL:V->V->V->Hp->(Hp->Prop)->Prop:=fun o i v H Q=>∃ p xs k j,o = .ref p/\i = .int k/\H p=some (.lst xs)/\ixN xs.length k=some j/\Q (upd H p (.lst (xs.set j v)))
theorem set_list:PSet X rSetL:=by
 intro pins s σ H o i v ov iv u Q I ro ri rv h
 obtain ⟨p,xs,k,j,rfl,rfl,hp,hj,q⟩:=h
 cases ro
 obtain ⟨t,rfl⟩:=ri
 obtain ⟨its,n,r,ho,hz⟩:=I.lst hp
 obtain ⟨h1,h2,h3,h4⟩:=ixN_seq hj
 have hl:=r.length
 have hn:=line63
 have I':Inv X pins σ (upd H p (.lst (xs.set j v))) { s with heap:=s.heap.update p (Obj.mapSeq (·.setIfInBounds j u)) } :=
  I.lstUpd hp ho (mapSeq_set its n j u) (r.set rv j) (by rw [List.length_set];exact hz) s.toks
 by_cases h0:0<=k
 ·have hk:k.toNat=j:=by
   rw [seqIndex_of h0 h4] at h1
   exact Option.some.inj h1
  exact PySem.W.ki_setAt ho h0 (by lia) (by rw [List.size_toArray,<-hl];exact h4) (by rw [hk];exact ⟨_,I',q⟩)
 ·have hk:(k+(its.toArray.size:Int)).toNat=j:=by
   rw [seqIndex_neg (by lia) h3] at h1
   rw [List.size_toArray,<-hl]
   exact Option.some.inj h1
  exact PySem.W.ki_setBack ho (by lia) (by rw [List.size_toArray,<-hl];exact h3) (by lia) (by rw [hk];exact ⟨_,I',q⟩)
theorem slice_bounds(lo hi:Option Int)(n:Nat):(sliceBounds lo hi none n).1=((HT.sIx n 0 lo:Nat):Int)/\(sliceBounds lo hi none n).2.1=((HT.sIx n n hi:Nat):Int)/\(sliceBounds lo hi none n).2.2=1:=by
 refine ⟨?_,?_,rfl⟩
 ·cases lo with
  | none=>simp [sliceBounds,HT.sIx]
  | some i =>
   simp only [sliceBounds,HT.sIx,Option.getD_none,show (1:Int) > 0 by decide,if_true]
   by_cases h:i<0
   ·simp only [h,if_true]<;>lia
   ·simp only [h,if_false]<;>lia
 ·cases hi with
  | none=>simp [sliceBounds,HT.sIx]
  | some i =>
   simp only [sliceBounds,HT.sIx,Option.getD_none,show (1:Int) > 0 by decide,if_true]
   by_cases h:i<0
   ·simp only [h,if_true]<;>lia
   ·simp only [h,if_false]<;>lia
theorem slicePick_cut(its:List Value)(lo hi:Option Int):slicePick its.toArray lo hi none=((its.drop (HT.sIx its.length 0 lo)).take (HT.sIx its.length its.length hi-HT.sIx its.length 0 lo)).toArray:=by
 obtain ⟨h1,h2,h3⟩:=slice_bounds lo hi its.toArray.size
 unfold slicePick
 rw [h1,h2,h3]
 simp only [sliceRange_one,pick_run,List.size_toArray]<;>rfl
def rSlL(K:PySem.W.Frag):V->Option Int->Option Int->Hp->VK->Prop:=fun x lo hi H Q=>∃ a xs,x = .ref a/\SqL K H a xs/\∀ p,H p=none->Q (.ref p) (upd H p (.lst (cutV xs lo hi)))
theorem sl_list:SlR X (rSlL X.K):=by
 intro pins s σ H x v vl vu lo hi sl Q I rx hs pl pu h
 obtain ⟨a,xs,rfl,hx,q⟩:=h
 cases rx
 obtain ⟨its,r,ht,hz⟩:=I.list hx
 have hlen:=r.length
 refine ⟨"list",_,slot_list_getitem.lookup,ht.isList.typeIs,?_⟩
 refine wpAny_getItem_list_slice ht.isList hs pl pu .none (by simp) ?_ (by rw [List.size_toArray]<;>lia)
 rw [slicePick_cut,<-hlen]
 refine ⟨.ref s.heap.objs.size,_,I.laid (t':=s.toks) (o:=.lst (cutV xs lo hi)) (fun b ob q=>Heap.get?_push_of_some _ q) (Nat.le_refl _) ?_,rfl,q _ (I.hok.fresh (Nat.le_refl _))⟩
 exact ⟨Nat.le_trans (cutV_length xs lo hi) hz,_,0,(r.drop (HT.sIx xs.length 0 lo)).take (HT.sIx xs.length xs.length hi-HT.sIx xs.length 0 lo),Heap.get?_push_size _ rfl⟩
def flatV:V->Bool
 | .non=>true
 | .bl _=>true
 | .int _=>true
 | .str _=>true
 | _=>false
def eqV:V->V->Bool
 | .non,.non=>true
 | .bl a,.bl b=>a == b
 | .bl a,.int b=>(if a then 1 else 0) == b
 | .int a,.bl b=>a == (if b then 1 else 0)
 | .int a,.int b=>a == b
 | .str a,.str b=>a == b
 | _,_=>false
theorem eqAt_V{A:Around}{s:Shared}{y x:V}{u v:Value}(ry:RelV y u)(rx:RelV x v)(fy:flatV y=true)(fx:flatV x=true):SeqAt.EqAt A s u v (eqV y x):=by
 cases y with
 | non =>
  cases ry
  cases x with
  | non=>cases rx;exact SeqAt.EqAt.same _
  | bl b=>cases rx;exact SeqAt.EqAt.none_bool b
  | int b=>obtain ⟨t,rfl⟩:=rx;exact SeqAt.EqAt.none_int b t
  | str b=>obtain ⟨t,rfl⟩:=rx;exact SeqAt.EqAt.none_str b t
  | _=>exact absurd (show false=true from fx) Bool.false_ne_true
 | bl a =>
  cases ry
  cases x with
  | non=>cases rx;exact SeqAt.EqAt.bool_none a
  | bl b=>cases rx;exact SeqAt.EqAt.bool_bool a b
  | int b=>obtain ⟨t,rfl⟩:=rx;exact SeqAt.EqAt.bool_int a b t
  | str b=>obtain ⟨t,rfl⟩:=rx;exact SeqAt.EqAt.bool_str a b t
  | _=>exact absurd (show false=true from fx) Bool.false_ne_true
 | int a =>
  obtain ⟨t',rfl⟩:=ry
  cases x with
  | non=>cases rx;exact SeqAt.EqAt.int_none a t'
  | bl b=>cases rx;exact SeqAt.EqAt.int_bool a t' b
  | int b=>obtain ⟨t,rfl⟩:=rx;exact SeqAt.EqAt.int_int a t' b t
  | str b=>obtain ⟨t,rfl⟩:=rx;exact SeqAt.EqAt.int_str a t' b t
  | _=>exact absurd (show false=true from fx) Bool.false_ne_true
 | str a =>
  obtain ⟨t',rfl⟩:=ry
  cases x with
  | non=>cases rx;exact SeqAt.EqAt.str_none a t'
  | bl b=>cases rx;exact SeqAt.EqAt.str_bool a t' b
  | int b=>obtain ⟨t,rfl⟩:=rx;exact SeqAt.EqAt.str_int a t' b t
  | str b=>obtain ⟨t,rfl⟩:=rx;exact SeqAt.EqAt.str_str a t' b t
  | _=>exact absurd (show false=true from fx) Bool.false_ne_true
 | _=>exact absurd (show false=true from fy) Bool.false_ne_true
def eqU(x:V)(u:Value):Bool:=match u with
 | .none=>eqV .non x
 | .bool b=>eqV (.bl b) x
 | .int i _=>eqV (.int i) x
 | .str z _=>eqV (.str z) x
 | _=>false
theorem eqU_of{x y:V}{u:Value}(r:RelV y u)(f:flatV y=true):eqU x u=eqV y x:=by
 cases y with
 | non=>cases r;rfl
 | bl b=>cases r;rfl
 | int i=>obtain ⟨t,rfl⟩:=r;rfl
 | str z=>obtain ⟨t,rfl⟩:=r;rfl
 | _=>exact absurd (show false=true from f) Bool.false_ne_true
theorem any_eqU{x:V}:∀ {xs:List V} {us:List Value},Vals xs us->xs.all flatV=true->us.any (eqU x)=xs.any fun y=>eqV y x
 | _,_,.nil,_=>rfl
 | y::xs,u::us,.cons r t,f=>by
  rw [List.all_cons,Bool.and_eq_true] at f
  rw [List.any_cons,List.any_cons,eqU_of r f.1,any_eqU t f.2]
theorem mem_eqAt{A:Around}{s:Shared}{x:V}{v:Value}(rx:RelV x v)(fx:flatV x=true):∀ {xs:List V} {us:List Value},Vals xs us->xs.all flatV=true->∀ u∈us,SeqAt.EqAt A s u v (eqU x u)
 | _,_,.nil,_=>fun u hu=>by cases hu
 | y::xs,u::us,.cons r t,f=>fun u' hu=>by
  rw [List.all_cons,Bool.and_eq_true] at f
  rcases List.mem_cons.mp hu with rfl | hu
  ·rw [eqU_of r f.1];exact eqAt_V r rx f.1 fx
  ·exact mem_eqAt rx fx t f.2 u' hu
def inV(x:V)(xs:List V):Bool:=xs.any fun y=>eqV y x
def rIn(K:PySem.W.Frag)(neg:Bool):R2:=fun x y H Q=>∃ p xs,y = .ref p/\(SqL K H p xs\/SqT K H p xs)/\flatV x=true/\xs.all flatV=true/\Q (.bl (if neg then !inV x xs else inV x xs)) H
theorem op_in_seq:OpR X (compareOp .In) (rIn X.K false):=by
 intro pins s σ H x y v u Q I rx ry h
 obtain ⟨p,xs,rfl,hq,fx,fs,q⟩:=h
 cases ry
 rcases hq with hq | hq
 ·obtain ⟨its,r,pl,hz⟩:=I.list hq
  refine SeqAt.in_listAt (eqU x) pl.isList (fun w hw=>mem_eqAt rx fx r fs w (by simpa using hw)) ⟨.bl _,H,I,rfl,?_⟩
  rw [show its.toArray.any (eqU x)=its.any (eqU x) by simp,any_eqU r fs]
  exact q
 ·obtain ⟨its,r,pl,hz⟩:=I.tuple hq
  refine SeqAt.in_tupleAt (eqU x) pl (fun w hw=>mem_eqAt rx fx r fs w (by simpa using hw)) ⟨.bl _,H,I,rfl,?_⟩
  rw [show its.toArray.any (eqU x)=its.any (eqU x) by simp,any_eqU r fs]
  exact q
theorem op_notIn_seq:OpR X (compareOp .NotIn) (rIn X.K true):=by
 intro pins s σ H x y v u Q I rx ry h
 obtain ⟨p,xs,rfl,hq,fx,fs,q⟩:=h
 cases ry
 rcases hq with hq | hq
 ·obtain ⟨its,r,pl,hz⟩:=I.list hq
  refine SeqAt.notIn_listAt (eqU x) pl.isList (fun w hw=>mem_eqAt rx fx r fs w (by simpa using hw)) ⟨.bl _,H,I,rfl,?_⟩
  rw [show its.toArray.any (eqU x)=its.any (eqU x) by simp,any_eqU r fs]
  exact q
 ·obtain ⟨its,r,pl,hz⟩:=I.tuple hq
  refine SeqAt.notIn_tupleAt (eqU x) pl (fun w hw=>mem_eqAt rx fx r fs w (by simpa using hw)) ⟨.bl _,H,I,rfl,?_⟩
  rw [show its.toArray.any (eqU x)=its.any (eqU x) by simp,any_eqU r fs]
  exact q
theorem call_list_of:CallR X (.type "list") (fun xs H Q=>∃ p ys,xs=[.ref p]/\(SqL X.K H p ys\/SqT X.K H p ys)/\∀ l,H l=none->Q (.ref l) (upd H l (.lst ys))):=by
 intro pins s σ H xs us Q I r h
 obtain ⟨p,ys,rfl,hq,q⟩:=h
 obtain ⟨u,rfl,rx⟩:=vals1 r
 cases rx
 have fin:∀ (its:List Value),Vals ys its->ys.length<=sizeLine->∀ (h':Heap) (c':Nat),(∀ b o',s.heap.get? b=some o'->h'.get? b=some o') ->
   h'.get? s.heap.objs.size=some { cls:=.type "list",dict:=none,data:=.seq its.toArray c',slots:=#[] }->EP X pins σ Q (.ref s.heap.objs.size) { s with heap:=h' }:=fun its r' hz h' c' kp e =>
  ⟨.ref s.heap.objs.size,_,I.laid (t':=s.toks) kp (Nat.le_refl _) (show ObjOk X.prog X.w _ h' _ (.lst ys) from ⟨hz,its,c',r',e⟩),rfl,q _ (I.hok.fresh (Nat.le_refl _))⟩
 rcases hq with hq | hq
 ·obtain ⟨its,r',pl,hz⟩:=I.list hq
  have hlen:=r'.length
  obtain ⟨o,ho,hc,n,hd⟩:=pl.isList
  exact call_list_seq p (.inl rfl) ho hc hd (fun h' c' kp e=>fin its r' hz h' c' kp e) (by simp only [List.size_toArray]<;>lia)
 ·obtain ⟨its,r',pl,hz⟩:=I.tuple hq
  have hlen:=r'.length
  obtain ⟨o,ho,hc,n,hd⟩:=pl
  exact call_list_seq p (.inr rfl) ho hc hd (fun h' c' kp e=>fin its r' hz h' c' kp e) (by simp only [List.size_toArray]<;>lia)
theorem call_tuple_of:CallR X (.type "tuple") (fun xs H Q=>∃ p ys,xs=[.ref p]/\((SqL X.K H p ys/\∀ l,H l=none->Q (.ref l) (upd H l (.tup ys)))\/(SqT X.K H p ys/\Q (.ref p) H))):=by
 intro pins s σ H xs us Q I r h
 obtain ⟨p,ys,rfl,h⟩:=h
 obtain ⟨u,rfl,rx⟩:=vals1 r
 cases rx
 rcases h with ⟨hq,q⟩ | ⟨hq,q⟩
 ·obtain ⟨its,r',pl,hz⟩:=I.list hq
  have hlen:=r'.length
  refine call_tuple_list pl.isList (fun h' kp=>?_) (by simp only [List.size_toArray]<;>lia)
  have I1:Inv X pins σ H { s with heap:=h' }:=I.kept (t':=s.toks) kp
  have I2:Inv X pins σ (upd H h'.objs.size (.tup ys)) { s with heap:=h'.push { cls:=.type "tuple",data:=.seq its.toArray } } :=
   I1.laid (t':=s.toks) (fun b o e=>Heap.get?_push_of_some _ e) (Nat.le_refl _) (show ObjOk X.prog X.w _ _ _ (.tup ys) from ⟨hz,its,r',IsTup.new _ _⟩)
  exact ⟨.ref h'.objs.size,_,I2,rfl,q _ (I1.hok.fresh (Nat.le_refl _))⟩
 ·obtain ⟨its,r',pl,hz⟩:=I.tuple hq
  exact call_tuple_same pl ⟨.ref p,H,I,rfl,q⟩
def tyV(K:PySem.W.Frag)(T:String)(x:V)(H:Hp):Prop:=match x with
 | .str _=>T = "str"
 | .int _=>T = "int"
 | .ref p=>(T = "list" /\ ∃ xs,SqL K H p xs)\/(T = "tuple" /\ ∃ o,K.lookup p=some o/\o.cls = .type "tuple" /\ o.dict=none) \/
   (T = "dict" /\ ((∃ kvs,H p=some (.dK kvs))\/∃ kvs,H p=some (.dT kvs)))\/(T = "set" /\ ∃ S n,H p=some (.set S n))
 | _=>False
theorem tyV_is{pins:List (Addr×Obj)}{σ:St}{H:Hp}{s:Shared}{T:String}{x:V}{v:Value}(I:Inv X pins σ H s)(r:RelV x v)(ty:tyV X.K T x H) :
  s.TypeIs v T/\∀ a,v = .ref a->∃ ob,s.heap.get? a=some ob/\ob.dict=none:=by
 cases x with
 | str z =>
  obtain ⟨t,rfl⟩:=r
  cases (show T = "str" from ty)
  exact ⟨typeIs_str s z t,fun _ e=>nomatch e⟩
 | int i =>
  obtain ⟨t,rfl⟩:=r
  cases (show T = "int" from ty)
  exact ⟨typeIs_int s i t,fun _ e=>nomatch e⟩
 | ref p =>
  cases r
  rcases ty with ⟨rfl,xs,hq⟩ | ⟨rfl,o,hk,hc,hd⟩ | ⟨rfl,hk⟩ | ⟨rfl,S,n,hk⟩
  ·obtain ⟨its,_,pl,_⟩:=I.list hq
   refine ⟨pl.isList.typeIs,fun a e=>?_⟩
   cases e
   obtain ⟨o,n,e,c,hd,_⟩:=pl
   exact ⟨o,e,hd⟩
  ·refine ⟨⟨o,I.kIn p o hk,hc⟩,fun a e=>?_⟩
   cases e
   exact ⟨o,I.kIn _ o hk,hd⟩
  ·have z:∃ o,s.heap.get? p=some o/\o.ExactDict:=by
    rcases hk with ⟨kvs,hk⟩ | ⟨kvs,hk⟩
    ·obtain ⟨_,_,_,_,o,_,_,e,ex,_⟩:=I.hok p _ hk
     exact ⟨o,e,ex⟩
    ·obtain ⟨_,_,_,_,o,_,_,e,ex,_⟩:=I.hok p _ hk
     exact ⟨o,e,ex⟩
   obtain ⟨o,e,ex⟩:=z
   refine ⟨⟨o,e,ex.1⟩,fun a e2=>?_⟩
   cases e2
   exact ⟨o,e,ex.2.1⟩
  ·obtain ⟨o,_,_,_,e,ex,_⟩:=I.hok p _ hk
   refine ⟨⟨o,e,ex.1⟩,fun a e2=>?_⟩
   cases e2
   exact ⟨o,e,ex.2.1⟩
 | _=>exact False.elim ty
def tBM0(K:PySem.W.Frag)(T:String)(r:V->List V->Hp->VK->Prop)(to:TE):TE:=fun σ H Q=>to σ H fun x H1=>tyV K T x H1/\r x [] H1 Q
def tBM(K:PySem.W.Frag)(T:String)(r:V->List V->Hp->VK->Prop)(to:TE)(t:TA):TE:=fun σ H Q=>to σ H fun x H1=>tyV K T x H1/\t σ H1 fun xs H2=>r x xs H2 Q
variable {o e:Expr} {es:List Expr} {to:TE} {t:TA} {name:Str} {apos cpos:Pos} {T id:String} {r:V->List V->Hp->VK->Prop}
theorem pe_bm0(pa:PlainAttrs T)(slot:Slot T name id)(hty:typeOf (.builtin id)=pure (.type "method_descriptor"))(hm:MtR X id r)(ho:PE X o to)
  (hbase:attributeBase o name X.env (eval o X.env)=eval o X.env:=by rfl) (hline:(apos.endLine == cpos.line)=true:=by rfl):PE X (.Call (.Attribute o name apos) [] [] cpos) (tBM0 X.K T r to):=by
 intro pins s σ H Q I h
 refine wpAny_Call_method0_late hbase hline (thn (ho pins s σ H _ I h) fun v s1 ⟨x,H1,I1,r1,ty,q1⟩=>?_)
 obtain ⟨h1,h2⟩:=tyV_is I1 r1 ty
 exact ⟨T,id,pa,slot,hty,h1,h2,Calls.callWith_builtin rfl (PySem.evalArgs_none (hm pins s1 σ H1 x [] v [] Q I1 r1 .nil q1))⟩
theorem pe_bm(pa:PlainAttrs T)(slot:Slot T name id)(hty:typeOf (.builtin id)=pure (.type "method_descriptor"))(hm:MtR X id r)(ho:PE X o to)(ha:PA X (e::es) t)
  (hbase:attributeBase o name X.env (eval o X.env)=eval o X.env:=by rfl)
  (hfew:((backTo cpos (starEach (e::es) X.env)).all (fun x=>!x.1)&&(backToKw cpos (keywordEach [] X.env)).all (fun x=>x.1.isSome)
   && decide ((e::es).length+([]:List Keyword).length+(if ([]:List Keyword).isEmpty then 0 else 1)<30))=true:=by rfl)
  (hline:(apos.endLine == cpos.line)=true:=by rfl) (hs:starEach (e::es) X.env=(false,eval e X.env)::starEach es X.env:=by rfl) (hplain:(backTo cpos (starEach es X.env)).any (·.1)=false:=by rfl) :
  PE X (.Call (.Attribute o name apos) (e::es) [] cpos) (tBM X.K T r to t):=by
 intro pins s σ H Q I h
 refine wpAny_Call_method_late hbase hfew hline rfl (thn (ho pins s σ H _ I h) fun v s1 ⟨x,H1,I1,r1,ty,q1⟩=>?_)
 obtain ⟨h1,h2⟩:=tyV_is I1 r1 ty
 refine ⟨T,id,pa,slot,hty,h1,h2,?_⟩
 have hA:=ha cpos pins s1 σ H1 _ I1 q1
 rw [hs] at hA ⊢
 refine Calls.callWith_builtin (by show (false || (backTo cpos (starEach es X.env)).any (·.1))=false;rw [hplain]<;>rfl) (Calls.evalArgs_plain ?_)
 exact thn hA fun us s2 ⟨vs,H2,I2,r2,q2⟩=>hm pins s2 σ H2 x vs v us Q I2 r1 r2 q2
/- xs.append(e),list.index on a module's tuple .. are MtR facts of 06m -/
end
end L2
namespace L2
open PySem PySem.Spec PyProof.Rows
def MtM(X:Cx)(id:String)(r:V->List V->Hp->VK->Prop):Prop :=
 ∀ (pins:List (Addr×Obj)) (s:Shared) (σ:St) (H:Hp) (x:V) (xs:List V) (v:Value) (us:List Value) (Q:VK),Inv X pins σ H s->RelV x v->Vals xs us->r x xs H Q ->
  wpAny (model X.prog X.w) X.A (call (.builtin id) (v::us)) (EP X pins σ Q) X.xe s
theorem Vals.one:∀ {x:V} {us:List Value},Vals [x] us->∃ u,us=[u]/\RelV x u
 | _,_,.cons r .nil=>⟨_,rfl,r⟩
theorem Vals.zero:∀ {us:List Value},Vals [] us->us=[]
 | _,.nil=>rfl
theorem Vals.dropLast{xs:List V}{us:List Value}(h:Vals xs us):Vals xs.dropLast us.dropLast:=by
 induction h with
 | nil=>exact .nil
 | cons r t ih =>
  cases t with
  | nil=>exact .nil
  | cons q t'=>exact .cons r ih
theorem erase_last{α:Type}(l:List α):l.eraseIdx (l.length-1)=l.dropLast:=by
 induction l with
 | nil=>rfl
 | cons a r ih =>
  cases r with
  | nil=>rfl
  | cons b r =>
   have e:(a::b::r).length-1=((b::r).length-1)+1:=by
    have h1:(a::b::r).length=r.length+2:=rfl
    have h2:(b::r).length=r.length+1:=rfl
    lia
   rw [e,List.eraseIdx_cons_succ,ih]
   all_goals rfl
section
variable {X:Cx} {pins:List (Addr×Obj)} {σ:St} {H:Hp} {s:Shared} {l b:Addr} {xs ys zs:List V}
theorem Inv.lset{its its':List Value}{n:Nat}{f:Array Value->Array Value}{t':Nat}(I:Inv X pins σ H s)(hH:H l=some (.lst xs))
  (e:s.heap.get? l=some { cls:=.type "list",data:=.seq its.toArray n }) (hf:f its.toArray=its'.toArray) (hv:Vals ys its') (hz:ys.length<=sizeLine) :
  Inv X pins σ (upd H l (.lst ys)) { s with heap:=s.heap.update l (Obj.mapSeq f),toks:=t' }:=by
 have q:=PySem.IsL.update e f
 rw [hf] at q
 refine I.write (x:=l) (e:=l) (by rw [hH];exact trivial) (.inl rfl) (fun b' u hb hu=>(Heap.get?_update_other s.heap (Obj.mapSeq f) (Ne.symm hb)).trans hu) ⟨_,q⟩ ?_
 exact ⟨hz,its',_,hv,q⟩
theorem Inv.lnew{its:List Value}{t':Nat}(I:Inv X pins σ H s)(hv:Vals ys its)(hz:ys.length<=sizeLine) :
  Inv X pins σ (upd H s.heap.objs.size (.lst ys)) { s with heap:=s.heap.push { cls:=.type "list",data:=.seq its.toArray },toks:=t' } :=
 I.laid (fun _ _ q=>Heap.get?_push_of_some _ q) (Nat.le_refl _) ⟨hz,its,0,hv,Heap.get?_push_size _ rfl⟩
theorem Inv.fresh(I:Inv X pins σ H s):H s.heap.objs.size=none:=I.hok.fresh (Nat.le_refl _)
theorem Inv.lstM(I:Inv X pins σ H s)(hH:H l=some (.lst xs)):xs.length<=sizeLine/\∃ (its:List Value) (n:Nat),Vals xs its/\xs.length=its.length/\s.heap.get? l=some { cls:=.type "list",data:=.seq its.toArray n }:=by
 obtain ⟨z,its,n,r,e⟩:=I.hok l _ hH
 exact ⟨z,its,n,r,r.length,e⟩
theorem notLongL{n:Nat}(h:n<=sizeLine):Builtin.List.listTooLong n=false:=by
 unfold Builtin.List.listTooLong
 exact decide_eq_false (by lia)
end
section
variable {X:Cx}
def rAppend:V->List V->Hp->VK->Prop:=fun x vs H Q=>∃ l xs y,x = .ref l/\vs=[y]/\H l=some (.lst xs)/\xs.length<sizeLine/\Q .non (upd H l (.lst (xs++[y])))
theorem x_h:MtM X "list.append" rAppend:=by
 intro pins s σ H x vs v us Q I rx rv h
 obtain ⟨l,xs,y,rfl,rfl,hH,hz,q⟩:=h
 cases rx
 obtain ⟨u,rfl,ru⟩:=rv.one
 obtain ⟨z,its,n,r,hl,e⟩:=I.lstM hH
 refine call_meets F.slot_list_append ⟨_,e,rfl⟩ F.entry_list_append (F.args_list_append_2 _ _) (PySem.list_append l its.toArray n u (by rw [List.size_toArray];lia)) ⟨e,?_⟩
 refine ⟨.non,_,I.lset (its':=its++[u]) hH e (by simp) (r.append (.cons ru .nil)) ?_,rfl,q⟩
 rw [List.length_append,List.length_singleton]
 lia
def rPop:V->List V->Hp->VK->Prop:=fun x vs H Q=>∃ l xs y,x = .ref l/\vs=[]/\H l=some (.lst xs)/\xs[xs.length-1]? = some y/\Q y (upd H l (.lst xs.dropLast))
theorem mt_pop:MtM X "list.pop" rPop:=by
 intro pins s σ H x vs v us Q I rx rv h
 obtain ⟨l,xs,y,rfl,rfl,hH,hy,q⟩:=h
 cases rx
 have hus:=rv.zero
 subst hus
 obtain ⟨z,its,n,r,hl,e⟩:=I.lstM hH
 obtain ⟨u,hu,ru⟩:=r.get hy
 have hy':its.toArray[its.toArray.size-1]? = some u:=by
  show its.toArray[its.length-1]? = some u
  rw [<-Array.getElem?_toList,<-hl]
  exact hu
 refine call_meets F.slot_list_pop ⟨_,e,rfl⟩ F.entry_list_pop (F.args_list_pop_1 _) (MeetsSeq.list_pop_last l its.toArray n u hy' (by rw [List.size_toArray];lia)) ⟨e,?_⟩
 refine ⟨y,_,I.lset (its':=its.dropLast) hH e ?_ r.dropLast ?_,ru,q⟩
 ·show its.toArray.eraseIdxIfInBounds (its.toArray.size-1)=its.dropLast.toArray
  rw [List.size_toArray,List.eraseIdxIfInBounds_toArray,erase_last]
 ·rw [List.length_dropLast]
  lia
def rCat:R2:=fun x y H Q=>∃ l b xs zs,x = .ref l/\y = .ref b/\H l=some (.lst xs)/\H b=some (.lst zs)/\xs.length+zs.length<=sizeLine/\∀ p,H p=none->Q (.ref p) (upd H p (.lst (xs++zs)))
theorem op_cat:OpR X (binaryOp .Add) rCat:=by
 intro pins s σ H x y v u Q I rx ry h
 obtain ⟨l,b,xs,zs,rfl,rfl,hH,hB,hz,q⟩:=h
 cases rx
 cases ry
 obtain ⟨z,its,n,r,hl,e⟩:=I.lstM hH
 obtain ⟨z2,its2,n2,r2,hl2,e2⟩:=I.lstM hB
 refine PySem.P.add_list e e2 ?_ (by rw [List.size_toArray,List.size_toArray];lia)
 have ea:its.toArray++its2.toArray=(its++its2).toArray:=by simp
 rw [ea]
 exact ⟨.ref _,_,I.lnew (t':=s.toks) (r.append r2) (by rw [List.length_append];lia),rfl,q _ I.fresh⟩
end
open PySem PySem.Spec PyProof.Rows
section
variable {κ:Type} [DecidableEq κ]
def valV(kvs:List (κ×V))(k:κ):Option V:=(kvs.find? fun kv=>decide (kv.1=k)).map (·.2)
def putK(kvs:List (κ×V))(k:κ)(v:V):List (κ×V) :=
 if (kvs.any fun kv=>decide (kv.1=k))=true then kvs.map (fun kv=>if kv.1=k then (kv.1,v) else kv) else kvs++[(k,v)]
theorem x_k{p:κ×V}{r:List (κ×V)}{k:κ}(e:p.1=k):valV (p::r) k=some p.2:=by simp [valV,List.find?_cons,e]
theorem x_j{p:κ×V}{r:List (κ×V)}{k:κ}(e:¬p.1=k):valV (p::r) k=valV r k:=by simp [valV,List.find?_cons,e]
theorem valV_any(k:κ):∀ kvs:List (κ×V),(kvs.any fun kv=>decide (kv.1=k))=(valV kvs k).isSome
 | []=>rfl
 | p::r=>by
  rw [List.any_cons]
  by_cases e:p.1=k
  ·simp only [x_k e,decide_eq_true e,Bool.true_or,Option.isSome_some]
  ·rw [x_j e,decide_eq_false e,Bool.false_or];exact valV_any k r
theorem valV_map(k j:κ)(y:V):∀ kvs:List (κ×V),valV (kvs.map fun kv=>if kv.1=k then (kv.1,y) else kv) j=(valV kvs j).map fun x=>if j=k then y else x
 | []=>rfl
 | p::r=>by
  have ih:=valV_map k j y r
  rw [List.map_cons]
  by_cases h:p.1=k
  ·rw [if_pos h]
   by_cases e:p.1=j
   ·rw [x_k (p:=(p.1,y)) e,x_k e,Option.map_some,if_pos (e.symm.trans h)]
   ·rw [x_j (p:=(p.1,y)) e,x_j e,ih]
  ·rw [if_neg h]
   by_cases e:p.1=j
   ·rw [x_k (p:=p) e,x_k e,Option.map_some,if_neg (fun z=>h (e.trans z))]
   ·rw [x_j (p:=p) e,x_j e,ih]
theorem valV_snoc(k j:κ)(y:V):∀ kvs:List (κ×V),valV kvs k=none->valV (kvs++[(k,y)]) j=if j=k then some y else valV kvs j
 | [],_=>by
  by_cases e:k=j
  ·rw [if_pos e.symm];exact x_k (p:=(k,y)) e
  ·rw [if_neg (fun z=>e z.symm)];exact x_j (p:=(k,y)) e
 | p::r,hn=>by
  rw [List.cons_append]
  have hk:¬p.1=k:=fun z=>by rw [x_k z] at hn;cases hn
  rw [x_j hk] at hn
  have ih:=valV_snoc k j y r hn
  by_cases e:p.1=j
  ·rw [x_k e,x_k e,if_neg (fun z=>hk (e.trans z))]
  ·rw [x_j e,x_j e,ih]
theorem valV_put(kvs:List (κ×V))(k j:κ)(y:V):valV (putK kvs k y) j=if j=k then some y else valV kvs j:=by
 unfold putK
 by_cases a:(kvs.any fun kv=>decide (kv.1=k))=true
 ·rw [if_pos a,valV_map]
  rw [valV_any] at a
  by_cases e:j=k
  ·obtain ⟨x,hx⟩:=Option.isSome_iff_exists.mp a
   rw [if_pos e,e,hx,Option.map_some,if_pos rfl]
  ·rw [if_neg e]
   cases valV kvs j with
   | none=>rfl
   | some x=>rw [Option.map_some,if_neg e]
 ·rw [if_neg a]
  refine valV_snoc k j y kvs ?_
  rw [valV_any] at a
  cases q:valV kvs k with
  | none=>rfl
  | some x=>rw [q] at a;exact (a rfl).elim
theorem x_a(kvs:List (κ×V))(k:κ)(v:V):(putK kvs k v).length<=kvs.length+1:=by
 unfold putK
 split
 ·rw [List.length_map];lia
 ·rw [List.length_append,List.length_cons,List.length_nil];lia
theorem RelO.isSome_eq{o:Option V}{u:Option Value}(r:RelO o u):o.isSome=u.isSome:=by
 cases o with
 | none=>cases u with
  | none=>rfl
  | some _=>exact (show False from r).elim
 | some _=>cases u with
  | none=>exact (show False from r).elim
  | some _=>rfl
theorem RelO.getD{o:Option V}{u:Option Value}{d:V}{d':Value}(r:RelO o u)(rd:RelV d d'):RelV (o.getD d) (u.getD d'):=by
 cases o with
 | none=>cases u with
  | none=>exact rd
  | some _=>exact (show False from r).elim
 | some _=>cases u with
  | none=>exact (show False from r).elim
  | some _=>exact r
theorem KV.val{kvs:List (κ×V)}{vs:List (κ×Value)}(r:KV kvs vs)(k:κ):RelO (valV kvs k) (valueAt vs k):=by
 unfold KV at r
 induction r with
 | nil=>exact True.intro
 | @cons p q ps qs h t ih =>
  obtain ⟨h1,h2⟩:=h
  by_cases e:p.1=k
  ·have e':q.1=k:=h1.symm.trans e
   have b:valueAt (q::qs) k=some q.2:=by simp [valueAt,List.find?_cons,e']
   rw [x_k e,b];exact h2
  ·have e':¬q.1=k:=fun z=>e (h1.trans z)
   have b:valueAt (q::qs) k=valueAt qs k:=by simp [valueAt,List.find?_cons,e']
   rw [x_j e,b];exact ih
theorem KV.any{kvs:List (κ×V)}{vs:List (κ×Value)}(r:KV kvs vs)(k:κ):(kvs.any fun kv=>decide (kv.1=k))=vs.any fun kv=>decide (kv.1=k):=by
 unfold KV at r
 induction r with
 | nil=>rfl
 | cons h t ih=>rw [List.any_cons,List.any_cons,ih,h.1]
theorem KV.repl{kvs:List (κ×V)}{vs:List (κ×Value)}(r:KV kvs vs)(k:κ){y:V}{u:Value}(ry:RelV y u) :
  KV (kvs.map fun kv=>if kv.1=k then (kv.1,y) else kv) (vs.map fun kv=>if kv.1=k then (kv.1,u) else kv):=by
 unfold KV at r ⊢
 induction r with
 | nil=>exact .nil
 | @cons p q ps qs h t ih =>
  rw [List.map_cons,List.map_cons]
  refine .cons ?_ ih
  obtain ⟨h1,h2⟩:=h
  by_cases e:p.1=k
  ·rw [if_pos e,if_pos (h1.symm.trans e)];exact ⟨h1,ry⟩
  ·rw [if_neg e,if_neg (fun z=>e (h1.trans z))];exact ⟨h1,h2⟩
theorem KV.put{kvs:List (κ×V)}{vs:List (κ×Value)}(r:KV kvs vs)(k:κ){y:V}{u:Value}(ry:RelV y u):KV (putK kvs k y) (stored vs k u):=by
 unfold putK stored
 rw [r.any k]
 by_cases e:(vs.any fun kv=>decide (kv.1=k))=true
 ·rw [if_pos e,if_pos e];exact r.repl k ry
 ·rw [if_neg e,if_neg e];exact Paired.snoc r ⟨rfl,ry⟩
theorem KV.length{kvs:List (κ×V)}{vs:List (κ×Value)}(r:KV kvs vs):kvs.length=vs.length:=Paired.length r
end
theorem kV_is{P:Program}{w:World}{k:Key}{u:Value}(r:RelV (kV k) u):(mixKind P w).is k u=true:=by
 cases k with
 | inl i=>obtain ⟨t,e⟩:=(show ∃ t,u=Value.int i t from r);subst e;exact mixKind_int P w i t
 | inr x=>obtain ⟨t,e⟩:=(show ∃ t,u=Value.str x t from r);subst e;exact mixKind_str P w x t
theorem items_are{P:Program}{w:World}:∀ {ks:List Key} {us:List Value},Vals (ks.map kV) us->ItemsAre (mixKind P w) ks us
 | [],_,r=>by rw [List.map_nil] at r;cases r;exact .nil
 | k::ks,_,r=>by
  rw [List.map_cons] at r
  cases r with
  | cons h t=>exact .cons (kV_is h) (items_are t)
abbrev KT(H:Hp):List (List Key×V)->List (List Key×Addr×Value)->Prop:=Paired fun p q=>p.1=q.1/\H q.2.1=some (.tup (p.1.map kV))/\RelV p.2 q.2.2
theorem KT.val{H:Hp}{kvs:List (List Key×V)}{xs:List (List Key×Addr×Value)}(r:KT H kvs xs)(k:List Key):RelO (valV kvs k) ((atKey xs k).map (·.2)):=by
 induction r with
 | nil=>exact True.intro
 | @cons p q ps qs h t ih =>
  obtain ⟨h1,_,h2⟩:=h
  by_cases e:p.1=k
  ·have e':q.1=k:=h1.symm.trans e
   have b:atKey (q::qs) k=some q.2:=by simp [atKey,List.find?_cons,e']
   rw [x_k e,b];exact h2
  ·have e':¬q.1=k:=fun z=>e (h1.trans z)
   have b:atKey (q::qs) k=atKey qs k:=by simp [atKey,List.find?_cons,e']
   rw [x_j e,b];exact ih
theorem KT.repl{H:Hp}{kvs:List (List Key×V)}{xs:List (List Key×Addr×Value)}(r:KT H kvs xs)(k:List Key){y:V}{u:Value}(ry:RelV y u) :
  KT H (kvs.map fun kv=>if kv.1=k then (kv.1,y) else kv) (xs.map (putAt k u)):=by
 induction r with
 | nil=>exact .nil
 | @cons p q ps qs h t ih =>
  rw [List.map_cons,List.map_cons]
  refine .cons ?_ ih
  obtain ⟨h1,h2,h3⟩:=h
  unfold putAt
  by_cases e:p.1=k
  ·rw [if_pos e,if_pos (h1.symm.trans e)];exact ⟨h1,h2,ry⟩
  ·rw [if_neg e,if_neg (fun z=>e (h1.trans z))];exact ⟨h1,h2,h3⟩
theorem KT.put{H:Hp}{kvs:List (List Key×V)}{xs:List (List Key×Addr×Value)}(r:KT H kvs xs)(k:List Key){b:Addr}{y:V}{u:Value}(hb:H b=some (.tup (k.map kV)))(ry:RelV y u) :
  KT H (putK kvs k y) (storedH xs k b u):=by
 have e:(kvs.any fun kv=>decide (kv.1=k))=(atKey xs k).isSome:=by
  rw [valV_any,(r.val k).isSome_eq,Option.isSome_map]
 unfold putK storedH
 rw [e]
 by_cases q:(atKey xs k).isSome=true
 ·rw [if_pos q,if_pos q];exact r.repl k ry
 ·rw [if_neg q,if_neg q];exact Paired.snoc r ⟨rfl,hb,ry⟩
theorem KT.keeps{H H':Hp}{kvs:List (List Key×V)}{xs:List (List Key×Addr×Value)}(r:KT H kvs xs)(ht:∀ b ys,H b=some (.tup ys)->H' b=some (.tup ys)):KT H' kvs xs :=
 Paired.mapP r fun _ _ z=>⟨z.1,ht _ _ z.2.1,z.2.2⟩
section
variable {P:Program} {w:World} {H:Hp} {h:Heap} {a:Addr}
theorem rd_of{u:HO}(ok:HOk P w H h)(e:Rd H a u):ObjOk P w H h a u:=e.ok ok
theorem dk_rd{kvs:List (Key×V)}(ok:HOk P w H h)(e:Rd H a (.dK kvs)):kvs.length<=sizeLine/\(a == sysModules)=false/\∃ vs,KV kvs vs/\h.DictOf (mixKind P w) a vs :=
 show ObjOk P w H h a (.dK kvs) from rd_of ok e
theorem dk_of{kvs:List (Key×V)}(ok:HOk P w H h)(e:H a=some (.dK kvs)):kvs.length<=sizeLine/\(a == sysModules)=false/\∃ vs,KV kvs vs/\h.DictOf (mixKind P w) a vs:=dk_rd ok (.inl e)
theorem key_of{ks:List Key}(ok:HOk P w H h)(e:H a=some (.tup (ks.map kV))):(tupleKind (mixKind P w)).is h ks a:=by
 obtain ⟨_,its,r,o,h1,h2,n,h3⟩:=(show ObjOk P w H h a (.tup (ks.map kV)) from ok a _ e)
 exact ⟨o,its.toArray,n,h1,h2,h3,by simpa using items_are r⟩
theorem dt_rd{kvs:List (List Key×V)}(ok:HOk P w H h)(e:Rd H a (.dT kvs)):kvs.length<=sizeLine/\(a == sysModules)=false /\
  ∃ xs,KT H kvs xs/\h.DictOfH (tupleKind (mixKind P w)) a xs:=by
 obtain ⟨z,y,xs,r,o,es,ep,h1,h2,h3,h4,h5⟩:=(show ObjOk P w H h a (.dT kvs) from rd_of ok e)
 refine ⟨z,y,xs,r,o,es,ep,h1,h2,h3,h4,fun x hx=>?_,h5⟩
 have all:∀ {l:List (List Key×V)} {m:List (List Key×Addr×Value)},KT H l m->∀ x∈m,(tupleKind (mixKind P w)).is h x.1 x.2.1:=by
  intro l m q
  induction q with
  | nil=>intro x hx;exact nomatch hx
  | @cons p q ps qs hq t ih =>
   intro x hx
   rcases List.mem_cons.mp hx with e | hx
   ·subst e
    exact key_of ok (by rw [<-hq.1];exact hq.2.1)
   ·exact ih x hx
 exact all r x hx
theorem dt_of{kvs:List (List Key×V)}(ok:HOk P w H h)(e:H a=some (.dT kvs)):kvs.length<=sizeLine/\(a == sysModules)=false /\
  ∃ xs,KT H kvs xs/\h.DictOfH (tupleKind (mixKind P w)) a xs:=dt_rd ok (.inl e)
end
def DGet(H:Hp)(a:Addr)(y:V)(r:Option V):Prop :=
 (∃ kvs k,Rd H a (.dK kvs)/\y=kV k/\r=valV kvs k)\/∃ kvs k b,Rd H a (.dT kvs)/\y = .ref b/\H b=some (.tup (k.map kV))/\r=valV kvs k
def DPut(H:Hp)(a:Addr)(y v:V)(H':Hp):Prop :=
 (∃ kvs k,H a=some (.dK kvs)/\y=kV k/\kvs.length<sizeLine/\H'=upd H a (.dK (putK kvs k v))) \/
 ∃ kvs k b,H a=some (.dT kvs)/\y = .ref b/\H b=some (.tup (k.map kV))/\kvs.length<sizeLine/\H'=upd H a (.dT (putK kvs k v))
theorem DGet.k{H:Hp}{a:Addr}{kvs:List (Key×V)}{k:Key}(e:H a=some (.dK kvs)):DGet H a (kV k) (valV kvs k):=.inl ⟨kvs,k,.inl e,rfl,rfl⟩
theorem DPut.k{H:Hp}{a:Addr}{kvs:List (Key×V)}{k:Key}{v:V}(e:H a=some (.dK kvs))(hl:kvs.length<sizeLine):DPut H a (kV k) v (upd H a (.dK (putK kvs k v))):=.inl ⟨kvs,k,e,rfl,hl,rfl⟩
section
variable {X:Cx} {pins:List (Addr×Obj)} {σ:St} {H:Hp} {s:Shared} {a:Addr} {y v:V} {u r:Value} {o:Option V} {A:Around} {E:Value->Shared->Prop}
theorem Inv.big(I:Inv X pins σ H s):sysModules<s.heap.objs.size:=by
 have h:mainGlobals<s.heap.objs.size:=(I.mod.glob.keeps I.bk).lt
 exact Nat.lt_trans (by decide) h
theorem d_getItem{Q:Value->Shared->Prop}(hu:A.units+1<cLine)(I:Inv X pins σ H s)(g:DGet H a y (some v))(ry:RelV y u)(h:∀ w' s',Inv X pins σ H s'->RelV v w'->Q w' s') :
  wpAny (model X.prog X.w) A (getItem (.ref a) u) Q E s:=by
 rcases g with ⟨kvs,k,e,ey,l⟩ | ⟨kvs,k,b,e,ey,eb,l⟩
 ·subst ey
  obtain ⟨z,hd,vs,rel,dd⟩:=dk_rd I.hok e
  obtain ⟨w',hw,rw'⟩:=RelO.some_of (v:=v) (o:=valueAt vs k) (by rw [l];exact rel.val k)
  exact wpAny_getItem_of (kV_is ry) dd.mapOf hw (h w' _ (I.tok _) rw')
 ·subst ey
  cases (show u=Value.ref b from ry)
  obtain ⟨z,hd,xs,rel,dd⟩:=dt_rd I.hok e
  obtain ⟨w',hw,rw'⟩:=RelO.some_of (v:=v) (o:=(atKey xs k).map (·.2)) (by rw [l];exact rel.val k)
  obtain ⟨p,hp,hp2⟩:=Option.map_eq_some_iff.mp hw
  refine wpAny_getItem_heap (tupleKind_room_in1 hu) (key_of I.hok eb) dd hp ?_
  rw [hp2]
  exact h w' _ (I.tok _) rw'
theorem d_in{Q:Value->Shared->Prop}(hu:A.units+1<cLine)(I:Inv X pins σ H s)(g:DGet H a y o)(ry:RelV y u)(h:∀ s',Inv X pins σ H s'->Q (.bool o.isSome) s') :
  wpAny (model X.prog X.w) A (compareOp .In u (.ref a)) Q E s:=by
 rcases g with ⟨kvs,k,e,ey,l⟩ | ⟨kvs,k,b,e,ey,eb,l⟩
 ·subst ey
  obtain ⟨z,hd,vs,rel,dd⟩:=dk_rd I.hok e
  refine wpAny_in_of (kV_is ry) hd dd.mapOf ?_
  rw [<-(rel.val k).isSome_eq,<-l]
  exact h _ (I.tok _)
 ·subst ey
  cases (show u=Value.ref b from ry)
  obtain ⟨z,hd,xs,rel,dd⟩:=dt_rd I.hok e
  refine wpAny_in_heap (tupleKind_room_in1 hu) (key_of I.hok eb) hd dd ?_
  have q:=(rel.val k).isSome_eq
  rw [Option.isSome_map] at q
  rw [<-q,<-l]
  exact h _ (I.tok _)
theorem d_write{h':Heap}{t':Nat}{ob:HO}(I:Inv X pins σ H s)(mu:Mut (H a))(hs:Heap.SameBut a s.heap h')(he:∃ q,h'.get? a=some q)(new:ObjOk X.prog X.w (upd H a ob) h' a ob) :
  Inv X pins σ (upd H a ob) { s with heap:=h',toks:=t' } :=
 I.write (x:=a) (e:=a) mu (.inl rfl) (fun b q hb z=>(hs.2 b hb).trans z) he new
theorem dk_new{P:Program}{w:World}{H':Hp}{h':Heap}{kvs:List (Key×V)}{vs:List (Key×Value)}(z:kvs.length<=sizeLine)(hd:(a == sysModules)=false)(rel:KV kvs vs)(dd:h'.DictOf (mixKind P w) a vs) :
  ObjOk P w H' h' a (.dK kvs):=⟨z,hd,vs,rel,dd⟩
theorem d_setItem{H':Hp}{Q:Unit->Shared->Prop}(hu:A.units+1<cLine)(I:Inv X pins σ H s)(g:DPut H a y v H')(ry:RelV y u)(rv:RelV v r)(h:∀ s',Inv X pins σ H' s'->Q () s') :
  wpAny (model X.prog X.w) A (setItem (.ref a) u r) Q E s:=by
 rcases g with ⟨kvs,k,e,ey,l,eH⟩ | ⟨kvs,k,b,e,ey,eb,l,eH⟩
 ·subst ey eH
  obtain ⟨z,hd,vs,rel,dd⟩:=dk_of I.hok e
  have hz:vs.length<=sizeLine:=by rw [<-rel.length];exact z
  have hl:(putK kvs k v).length<=sizeLine:=by have:=x_a kvs k v;lia
  refine wpAny_setItem_pairs (hsz:=hz) (kV_is ry) dd fun h' dd' hs=>h _ ?_
  have he:∃ q,h'.get? a=some q:=let ⟨q,_,_,hq,_⟩:=dd';⟨q,hq⟩
  exact d_write I (by rw [e];exact True.intro) hs he (dk_new hl hd (rel.put k rv) dd')
 ·subst ey eH
  cases (show u=Value.ref b from ry)
  obtain ⟨z,hd,xs,rel,dd⟩:=dt_of I.hok e
  have hz:xs.length<=sizeLine:=by rw [<-Paired.length rel];exact z
  have hl:(putK kvs k v).length<=sizeLine:=by have:=x_a kvs k v;lia
  refine wpAny_setItem_heap (hsz:=hz) (tupleKind_room_in1 hu) (key_of I.hok eb) dd fun h' dd' hs=>h _ ?_
  obtain ⟨q,es,ep,hq,h2,h3,h4,_,h5⟩:=dd'
  refine d_write I (by rw [e];exact True.intro) hs ⟨q,hq⟩ ⟨hl,hd,_,(rel.put k eb rv).keeps fun c ys ec=>?_,q,es,ep,hq,h2,h3,h4,h5⟩
  rw [z_n (ne_of ec e (fun z=>nomatch z))]
  exact ec
end
def NoSl(i:Expr):Prop:=∀ ov iv,subscripted i false ov iv=operate [ov,iv] (getItem ov iv)
theorem subD_of{prog:Program}{w:World}{A:Around}{E:Value->Shared->Prop}{s:Shared}{env:Env}{value slice:Expr}{pos:Pos}{T id:String}{Q:Value->Shared->Prop}
  (hl:typeLookup (.type T) "__getitem__" = pure (some (.builtin id))) (hs:NoSl slice)
  (h:wpAny (model prog w) A (eval value env) (fun o s₁=>wpAny (model prog w) A (eval slice env) (fun i s₂=>s₂.TypeIs o T/\wpAny (model prog w) A (getItem o i) Q E s₂) E s₁) E s) :
  wpAny (model prog w) A (eval (.Subscript value slice pos) env) Q E s:=by
 refine Subscript_ (wpAny_mono h (fun o s₁ h₁=>wpAny_mono h₁ (fun i s₂ h₂=>?_) fun _ _ x=>x) fun _ _ x=>x)
 obtain ⟨hT,h₂⟩:=h₂
 unfold subscriptTail
 refine wpAny_bind ?_
 rw [getitemInPython_of_ne hT.not_modules]
 refine wpAny_bind (wpAny_specialOf hT hl ?_)
 have fin:wpAny (model prog w) A (subscripted slice false o i) (fun r s₃=>wpAny (model prog w) A (letTemporaryGo value o r >>= fun _=>pure r) Q E s₃) E s₂:=by
  rw [hs o i]
  exact wpAny_operating (wpAny_mono h₂ (fun r s₃ h₃=>wpAny_bind (wpAny_letTemporaryGo (wpAny_pure h₃))) fun _ _ x=>x)
 first
  | exact wpAny_pure (wpAny_bind fin)
  | exact wpAny_bind (wpAny_pure (wpAny_bind fin))
  | exact wpAny_bind fin
theorem dict_typeIs{X:Cx}{pins:List (Addr×Obj)}{σ:St}{H:Hp}{s:Shared}{a:Addr}{y:V}{o:Option V}(I:Inv X pins σ H s)(g:DGet H a y o):s.TypeIs (.ref a) "dict" := by
 rcases g with ⟨kvs,k,e,_,_⟩ | ⟨kvs,k,b,e,_,_,_⟩
 ·obtain ⟨_,_,vs,_,dd⟩:=dk_rd I.hok e
  exact dd.typeIs
 ·obtain ⟨_,_,xs,_,dd⟩:=dt_rd I.hok e
  exact dd.typeIs
def tDGet(td ty:TE):TE:=fun σ H Q=>td σ H fun x H1=>ty σ H1 fun y H2=>∃ a v,x = .ref a/\DGet H2 a y (some v)/\Q v H2
def tDIn(ty td:TE):TE:=fun σ H Q=>ty σ H fun y H1=>td σ H1 fun x H2=>∃ a o,x = .ref a/\DGet H2 a y o/\Q (.bl o.isSome) H2
def sDPut(td ty tv:TE):TS:=fun D σ H=>tv σ H fun v H1=>td σ H1 fun x H2=>ty σ H2 fun y H3=>∃ a H4,x = .ref a/\DPut H3 a y v H4/\D.nx σ H4
section
variable {X:Cx} {o i e value:Expr} {pos pos' tpos:Pos} {td ty tv:TE}
theorem pe_dget(hu:X.A.units+1<cLine)(ho:PE X o td)(hi:PE X i ty)(hs:NoSl i):PE X (.Subscript o i pos) (tDGet td ty):=by
 intro pins s σ H Q I h
 refine subD_of PySem.F.slot_dict_getitem.lookup hs (thn (ho pins s σ H _ I h) fun u s1 ⟨x,H1,I1,rx,q1⟩=>thn (hi pins s1 σ H1 _ I1 q1) fun iv s2 ⟨y,H2,I2,ry,a,v,ex,g,q2⟩=>?_)
 subst ex
 obtain rfl:u=Value.ref a:=rx
 exact ⟨dict_typeIs I2 g,d_getItem hu I2 g ry fun w' s3 I3 rw'=>⟨v,H2,I3,rw',q2⟩⟩
theorem pc_din(hu:X.A.units+1<cLine)(hi:PE X i ty)(ho:PE X o td):PC X .In i o (tDIn ty td):=by
 intro pins s σ H Q I h
 refine thn (hi pins s σ H _ I h) fun iv s1 ⟨y,H1,I1,ry,q1⟩=>thn (ho pins s1 σ H1 _ I1 q1) fun u s2 ⟨x,H2,I2,rx,a,ov,ex,g,q2⟩=>?_
 subst ex
 obtain rfl:u=Value.ref a:=rx
 exact d_in hu I2 g ry fun s3 I3=>⟨.bl ov.isSome,H2,I3,rfl,q2⟩
theorem ps_dput(hu:X.A.units+1<cLine)(ho:PE X o td)(hi:PE X i ty)(hv:PE X value tv)(hs:swapsWith value (some (.Subscript o i pos')) pos.line X.env=pure false) :
  PS X (.Assign [.Subscript o i pos'] value pos) (sDPut td ty tv):=by
 intro pins s σ H D I h
 refine wpAny_Assign_Subscript (thn (hv pins s σ H _ I h) fun r s1 ⟨v,H1,I1,rv,q1⟩=>thn (ho pins s1 σ H1 _ I1 q1) fun u s2 ⟨x,H2,I2,rx,q2⟩=>thn (hi pins s2 σ H2 _ I2 q2) fun iv s3 ⟨y,H3,I3,ry,a,H4,ex,g,q3⟩=>?_) hs
 subst ex
 obtain rfl:u=Value.ref a:=rx
 exact d_setItem hu I3 g ry rv fun s4 I4=>⟨σ,H4,I4,q3⟩
end
theorem dk_empty{P:Program}{w:World}{H:Hp}(h:Heap)(hb:sysModules<h.objs.size):ObjOk P w H (h.push { cls:=.type "dict",data:=.dict #[] }) h.objs.size (.dK []) :=
 ⟨Nat.zero_le _,beq_eq_false_iff_ne.mpr (Ne.symm (Nat.ne_of_lt hb)),[],.nil,Heap.DictOf.new h⟩
def tDNewK:TE:=fun _ H Q=>∀ p,H p=none->Q (.ref p) (upd H p (.dK []))
section
variable {X:Cx} {pos:Pos}
theorem pe_dnewK:PE X (.Dict [] [] pos) tDNewK:=fun pins s σ H Q I h =>
 wpAny_Dict_empty ⟨.ref s.heap.objs.size,_,I.laid (a:=s.heap.objs.size) (o:=.dK []) (t':=s.toks) (fun _ _ q=>Heap.get?_push_of_some _ q) (Nat.le_refl _) (dk_empty s.heap I.big),rfl,h _ (I.hok.fresh (Nat.le_refl _))⟩
end
def tPairs:List (TE×TE)->St->Hp->(List (V×V)->Hp->Prop)->Prop
 | [],_,H,Q=>Q [] H
 | (tk,tv)::r,σ,H,Q=>tk σ H fun x H1=>tv σ H1 fun y H2=>tPairs r σ H2 fun ps H3=>Q ((x,y)::ps) H3
abbrev VV:List (V×V)->List (Value×Value)->Prop:=Paired fun p q=>RelV p.1 q.1/\RelV p.2 q.2
def PPs(X:Cx)(pos:Pos)(keys:List (Option Expr))(values:List Expr)(trs:List (TE×TE)):Prop :=
 ∀ (pins:List (Addr×Obj)) (s:Shared) (σ:St) (H:Hp) (Q:List (V×V)->Hp->Prop),Inv X pins σ H s->tPairs trs σ H Q ->
  wpAny (model X.prog X.w) X.A (evalPairs (pairTrees keys values X.env pos)) (fun vs s'=>∃ ps H',Inv X pins σ H' s'/\VV ps vs/\Q ps H') X.xe s
theorem pps_nil{X:Cx}{pos:Pos}:PPs X pos [] [] []:=fun pins s σ H Q I h=>pairTrees_nil_walk ⟨[],H,I,.nil,h⟩
theorem pps_cons{X:Cx}{pos:Pos}{k v:Expr}{ks:List (Option Expr)}{vs:List Expr}{tk tv:TE}{trs:List (TE×TE)}(hk:PE X k tk)(hv:PE X v tv)(hr:PPs X pos ks vs trs) :
  PPs X pos (some k::ks) (v::vs) ((tk,tv)::trs):=fun pins s σ H Q I h =>
 pairTrees_cons_walk (thn (hk pins s σ H _ I h) fun u s1 ⟨x,H1,I1,rx,q1⟩=>thn (hv pins s1 σ H1 _ I1 q1) fun w2 s2 ⟨y,H2,I2,ry,q2⟩ =>
  thn (hr pins s2 σ H2 _ I2 q2) fun ws s3 ⟨ps,H3,I3,rel,q3⟩=>⟨(x,y)::ps,H3,I3,.cons ⟨rx,ry⟩ rel,q3⟩)
def mergeK(kvs more:List (Key×V)):List (Key×V):=more.foldl (fun acc kv=>putK acc kv.1 kv.2) kvs
theorem KV.merge:∀ {more:List (Key×V)} {rs:List (Key×Value)} {kvs:List (Key×V)} {vs:List (Key×Value)},KV more rs->KV kvs vs->KV (mergeK kvs more) (merged vs rs):=by
 intro more rs kvs vs r
 unfold KV at r
 induction r generalizing kvs vs with
 | nil=>intro q;exact q
 | @cons p q ps qs h t ih =>
  intro r0
  have e:KV (putK kvs p.1 p.2) (stored vs q.1 q.2):=by
   have:=r0.put p.1 h.2
   rw [<-h.1];exact this
  exact ih e
theorem length_mergeK:∀ (more kvs:List (Key×V)),(mergeK kvs more).length<=kvs.length+more.length
 | [],kvs=>by show kvs.length<=kvs.length+0;lia
 | p::r,kvs=>by
  have h1:=length_mergeK r (putK kvs p.1 p.2)
  have h2:=x_a kvs p.1 p.2
  show (mergeK (putK kvs p.1 p.2) r).length<=_
  rw [List.length_cons];lia
theorem carries_of{P:Program}{w:World}:∀ {kvs:List (Key×V)} {ws:List (Value×Value)},VV (kvs.map fun kv=>(kV kv.1,kv.2)) ws->∃ rs,Carries (mixKind P w) ws rs/\KV kvs rs
 | [],_,r=>by rw [List.map_nil] at r;cases r;exact ⟨[],True.intro,.nil⟩
 | p::kvs,_,r=>by
  rw [List.map_cons] at r
  cases r with
  | @cons a b as bs h t =>
   obtain ⟨rs,c,q⟩:=carries_of (P:=P) (w:=w) t
   obtain ⟨b1,b2⟩:=b
   exact ⟨(p.1,b2)::rs,⟨kV_is h.1,rfl,c⟩,.cons ⟨rfl,h.2⟩ q⟩
def tDisp(trs:List (TE×TE)):TE:=fun σ H Q=>∀ p,H p=none->tPairs trs σ (upd H p (.dK [])) fun ps H2=>H2 p=some (.dK [])/\∃ kvs:List (Key×V),ps=kvs.map (fun kv=>(kV kv.1,kv.2))/\kvs.length<=15/\Q (.ref p) (upd H2 p (.dK (mergeK [] kvs)))
theorem pe_disp{X:Cx}{pos:Pos}{keys:List (Option Expr)}{values:List Expr}{trs:List (TE×TE)}(h:PPs X pos keys values trs)(hall:keys.all (·.isSome)=true)(hl:keys.length=values.length)(h0:keys≠[])
  (h15:keys.length<=15):PE X (.Dict keys values pos) (tDisp trs):=by
 intro pins s σ H Q I q
 have hn:=I.hok.fresh (Nat.le_refl s.heap.objs.size)
 have I1:=I.laid (a:=s.heap.objs.size) (o:=.dK []) (h':=s.heap.push { cls:=.type "dict",data:=.dict #[] }) (t':=s.toks) (fun _ _ q=>Heap.get?_push_of_some _ q) (Nat.le_refl _) (dk_empty s.heap I.big)
 refine wpAny_Dict_walk (knd:=mixKind X.prog X.w) hall hl h0 h15 (thn (h pins _ σ _ _ I1 (q _ hn)) fun ws s2 ⟨ps,H2,I2,rel,e,kvs,ep,lk,q2⟩=>?_)
 subst ep
 obtain ⟨rs,c,rk⟩:=carries_of (P:=X.prog) (w:=X.w) rel
 obtain ⟨z,hd,vs0,r0,dd⟩:=dk_of I2.hok e
 cases r0
 refine ⟨rs,c,dd,fun h' dd' hs=>⟨.ref s.heap.objs.size,_,?_,rfl,q2⟩⟩
 have hz:(mergeK [] kvs).length<=sizeLine:=by
  have h1:=length_mergeK kvs []
  rw [List.length_nil] at h1
  rw [sizeLine_eq];lia
 have he:∃ q,h'.get? s.heap.objs.size=some q:=let ⟨q,_,_,hq,_⟩:=dd';⟨q,hq⟩
 exact d_write I2 (by rw [e];exact True.intro) hs he (dk_new hz hd (rk.merge .nil) dd')
structure M1(X:Cx)(o:Expr)(m:Str)(apos:Pos)(e:Expr)(cpos:Pos):Prop where
 base:attributeBase o m X.env (eval o X.env)=eval o X.env
 few:((backTo cpos (starEach [e] X.env)).all (fun x=>!x.1)&&(backToKw cpos (keywordEach [] X.env)).all (fun x=>x.1.isSome)
  && decide (([e]:List Expr).length+([]:List Keyword).length+(if ([]:List Keyword).isEmpty then 0 else 1)<30))=true
 line:(apos.endLine == cpos.line)=true
 trees:backTo cpos (starEach [e] X.env)=[(false,eval e X.env)]
structure M2(X:Cx)(o:Expr)(m:Str)(apos:Pos)(e f:Expr)(cpos:Pos):Prop where
 base:attributeBase o m X.env (eval o X.env)=eval o X.env
 few:((backTo cpos (starEach [e,f] X.env)).all (fun x=>!x.1)&&(backToKw cpos (keywordEach [] X.env)).all (fun x=>x.1.isSome)
  && decide (([e,f]:List Expr).length+([]:List Keyword).length+(if ([]:List Keyword).isEmpty then 0 else 1)<30))=true
 line:(apos.endLine == cpos.line)=true
 trees:backTo cpos (starEach [e,f] X.env)=[(false,eval e X.env),(false,eval f X.env)]
def IsD(H:Hp)(a:Addr):Prop:=(∃ kvs,Rd H a (.dK kvs))\/∃ kvs,Rd H a (.dT kvs)
theorem isD_at{X:Cx}{pins:List (Addr×Obj)}{σ:St}{H:Hp}{s:Shared}{a:Addr}(I:Inv X pins σ H s)(d:IsD H a) :
  s.TypeIs (.ref a) "dict" /\ (∀ b,Value.ref a = .ref b->∃ ob,s.heap.get? b=some ob/\ob.dict=none)/\(a == sysModules)=false:=by
 rcases d with ⟨kvs,e⟩ | ⟨kvs,e⟩
 ·obtain ⟨_,hd,vs,_,dd⟩:=dk_rd I.hok e
  refine ⟨dd.typeIs,fun b q=>?_,hd⟩
  cases q
  obtain ⟨ob,_,_,h1,h2,_⟩:=dd
  exact ⟨ob,h1,h2.2.1⟩
 ·obtain ⟨_,hd,xs,_,dd⟩:=dt_rd I.hok e
  refine ⟨dd.typeIs,fun b q=>?_,hd⟩
  cases q
  obtain ⟨ob,_,_,h1,h2,_⟩:=dd
  exact ⟨ob,h1,h2.2.1⟩
section
variable {X:Cx} {pins:List (Addr×Obj)} {σ:St} {H:Hp} {s:Shared} {a:Addr} {y d:V} {u r:Value} {o:Option V} {A:Around} {E:Value->Shared->Prop}
theorem d_get1{Q:Value->Shared->Prop}(hu:A.units+1<cLine)(I:Inv X pins σ H s)(g:DGet H a y o)(ry:RelV y u)(h:∀ w' s',Inv X pins σ H s'->RelV (o.getD .non) w'->Q w' s') :
  wpAny (model X.prog X.w) A (call (.builtin "dict.get") [.ref a,u]) Q E s:=by
 rcases g with ⟨kvs,k,e,ey,l⟩ | ⟨kvs,k,b,e,ey,eb,l⟩
 ·subst ey
  obtain ⟨z,hd,vs,rel,dd⟩:=dk_rd I.hok e
  refine call_meetsIn PySem.F.slot_dict_get dd.typeIs PySem.F.entry_dict_get (PySem.F.args_dict_get_2 _ _) (meets_dict_get (mixKind X.prog X.w) a (kV_is ry) hd) ⟨_,dd.mapOf,h _ _ (I.tok _) ?_⟩
  rw [l]
  exact (rel.val k).getD rfl
 ·subst ey
  cases (show u=Value.ref b from ry)
  obtain ⟨z,hd,xs,rel,dd⟩:=dt_rd I.hok e
  refine call_meetsIn PySem.F.slot_dict_get dd.typeIs PySem.F.entry_dict_get (PySem.F.args_dict_get_2 _ _) (meetsH_dict_get (tupleKind (mixKind X.prog X.w)) a b hd) ⟨tupleKind_room_in1 hu,k,xs,key_of I.hok eb,dd,h _ _ (I.tok _) ?_⟩
  rw [l]
  exact (rel.val k).getD rfl
theorem d_get2{Q:Value->Shared->Prop}(hu:A.units+1<cLine)(I:Inv X pins σ H s)(g:DGet H a y o)(ry:RelV y u)(rd:RelV d r)(h:∀ w' s',Inv X pins σ H s'->RelV (o.getD d) w'->Q w' s') :
  wpAny (model X.prog X.w) A (call (.builtin "dict.get") [.ref a,u,r]) Q E s:=by
 rcases g with ⟨kvs,k,e,ey,l⟩ | ⟨kvs,k,b,e,ey,eb,l⟩
 ·subst ey
  obtain ⟨z,hd,vs,rel,dd⟩:=dk_rd I.hok e
  refine call_meetsIn PySem.F.slot_dict_get dd.typeIs PySem.F.entry_dict_get (PySem.F.args_dict_get_3 _ _ _) (meets_dict_get_default (mixKind X.prog X.w) a (kV_is ry) hd r) ⟨_,dd.mapOf,h _ _ (I.tok _) ?_⟩
  rw [l]
  exact (rel.val k).getD rd
 ·subst ey
  cases (show u=Value.ref b from ry)
  obtain ⟨z,hd,xs,rel,dd⟩:=dt_rd I.hok e
  refine call_meetsIn PySem.F.slot_dict_get dd.typeIs PySem.F.entry_dict_get (PySem.F.args_dict_get_3 _ _ _) (meetsH_dict_get_default (tupleKind (mixKind X.prog X.w)) a b hd r) ⟨tupleKind_room_in1 hu,k,xs,key_of I.hok eb,dd,h _ _ (I.tok _) ?_⟩
  rw [l]
  exact (rel.val k).getD rd
end
def tDGet1(td ty:TE):TE:=fun σ H Q=>td σ H fun x H1=>∃ a,x = .ref a/\IsD H1 a/\ty σ H1 fun y H2=>∃ o,DGet H2 a y o/\Q (o.getD .non) H2
def tDGet2(td ty tx:TE):TE:=fun σ H Q=>td σ H fun x H1=>∃ a,x = .ref a/\IsD H1 a/\ty σ H1 fun y H2=>tx σ H2 fun z H3=>∃ o,DGet H3 a y o/\Q (o.getD z) H3
section
variable {X:Cx} {o e f:Expr} {apos cpos:Pos} {td ty tx:TE}
theorem pe_dget1(hu:X.A.units+1<cLine)(ho:PE X o td)(he:PE X e ty)(m:M1 X o "get" apos e cpos):PE X (.Call (.Attribute o "get" apos) [e] [] cpos) (tDGet1 td ty):=by
 intro pins s σ H Q I h
 refine wpAny_Call_method m.base m.few m.line PySem.F.plainAttrs_dict PySem.F.slot_dict_get PySem.F.type_dict_get (thn (ho pins s σ H _ I h) fun u s1 ⟨x,H1,I1,rx,a,ex,d,q1⟩=>?_)
 subst ex
 obtain rfl:u=Value.ref a:=rx
 obtain ⟨t1,t2,_⟩:=isD_at I1 d
 refine ⟨t1,t2,?_⟩
 rw [m.trees]
 refine Calls.callWith_builtin rfl (Calls.evalArgs_plain (Calls.spliced_cons (thn (he pins s1 σ H1 _ I1 q1) fun iv s2 ⟨y,H2,I2,ry,ov,g,q2⟩=>Calls.spliced_nil ?_)))
 exact d_get1 hu I2 g ry fun w' s3 I3 rw'=>⟨_,H2,I3,rw',q2⟩
theorem pe_dget2(hu:X.A.units+1<cLine)(ho:PE X o td)(he:PE X e ty)(hf:PE X f tx)(m:M2 X o "get" apos e f cpos):PE X (.Call (.Attribute o "get" apos) [e,f] [] cpos) (tDGet2 td ty tx):=by
 intro pins s σ H Q I h
 refine wpAny_Call_method m.base m.few m.line PySem.F.plainAttrs_dict PySem.F.slot_dict_get PySem.F.type_dict_get (thn (ho pins s σ H _ I h) fun u s1 ⟨x,H1,I1,rx,a,ex,d,q1⟩=>?_)
 subst ex
 obtain rfl:u=Value.ref a:=rx
 obtain ⟨t1,t2,_⟩:=isD_at I1 d
 refine ⟨t1,t2,?_⟩
 rw [m.trees]
 refine Calls.callWith_builtin rfl (Calls.evalArgs_plain (Calls.spliced_cons (thn (he pins s1 σ H1 _ I1 q1) fun iv s2 ⟨y,H2,I2,ry,q2⟩ =>
  Calls.spliced_cons (thn (hf pins s2 σ H2 _ I2 q2) fun fv s3 ⟨z,H3,I3,rz,ov,g,q3⟩=>Calls.spliced_nil ?_))))
 exact d_get2 hu I3 g ry rz fun w' s4 I4 rw'=>⟨_,H3,I4,rw',q3⟩
end
end L2
namespace Att
open PySem PySem.W PySem.Calls PyProof.Rows
theorem ints_of_wellAll{P:Params}{h:Heap}:∀ (ns:List Int) (vs:List Value),WellAll P h vs (ns.map WData.int)->IntsAre vs ns:=by
 intro ns
 induction ns with
 | nil =>
  intro vs w
  rw [List.map_nil] at w
  cases w
  exact .nil
 | cons n ns ih =>
  intro vs w
  rw [List.map_cons] at w
  cases w with
  | cons a b =>
   cases a
   exact .cons _ _ (ih _ b)
theorem script_of{l:OpenLaw}{n:Nat}(hn:l.most=some n){P:Params}{h:Heap}{args:List WData}{vals:List Value}
  (hpre:l.row.toRowW.claim.pre args=true) (hwl:WellAll P h vals args) :
  ∃ a vs ns,vals=[Value.ref a]/\args=[WData.list (ns.map WData.int)]/\h.get? a=some { cls:=.type "list",data:=.seq vs.toArray }/\IntsAre vs ns/\ns.length<=n:=by
 have hsh:WShape.hasAll [] args [.list .int]=true:=(pre_splitW hpre).1
 have hc:l.pre.holds [] { args:=args }=true:=(pre_splitW hpre).2
 obtain ⟨d,r,rfl,h1,h2⟩:=hasAllW_cons hsh
 obtain rfl:=hasAllW_nil h2
 obtain ⟨xs,rfl,h3⟩:=hasW_list h1
 obtain ⟨ns,rfl⟩:=items_int h3
 have hlen:ns.length<=n:=by
  unfold OpenLaw.pre at hc
  have h4:(WTm.not (.lt (.lit (.int (n:Int))) (.len (.arg 0)))).holds [] { args:=[.list (ns.map .int)] }=true:=by
   have h4:=(holds_andW hc).1
   rw [hn] at h4
   exact h4
  have h5:=condW_of h4 (w_not (w_lt w_lit (w_len_list (w_arg rfl))))
  rw [List.length_map] at h5
  refine Nat.le_of_not_lt fun q=>?_
  have q':(n:Int)<((ns.length:Nat):Int):=by lia
  first
   | (rw [decide_eq_true q'] at h5;exact absurd h5 (by decide))
   | (simp at h5;lia)
 cases hwl with
 | cons w1 w2 =>
  cases w2
  cases w1 with
  | list ho hall=>exact ⟨_,_,ns,rfl,rfl,ho,ints_of_wellAll ns _ hall,hlen⟩
theorem post_true(l:OpenLaw)(args:List WData):l.row.toRowW.claim.post args (.bool true) args=true :=
 postW_of (r:=l.row.toRowW) (X:=(true == true))
  (show WShape.has [] (.bool true) .bool=true by first | rfl | decide | simp [WShape.has,WShape.arms,WShape.armsAll])
  (show (WTm.eq .res (.lit (.bool true))).value [] { args:=args,res:=some (.bool true),after:=args }=some (.bool (true == true)) from w_eq_bool (w_res rfl) w_lit) rfl
theorem attach_call{l:OpenLaw}{n:Nat}{q:Program}{loose:List Str}{XP:(Str->Option Value)->Heap->Prop}{YP:World->Heap->Prop}{d:DefRec}
  (hn:l.most=some n) (hdf:d.params.defaults=[])
  (call:∀ (w:World) (s₀ s₁:Shared) (mg mb:Str->Option Value) (fa:Addr) (o:Obj) (pm cd doc:Value) (a:Addr) (vs:List Value) (ns:List Int),
   Ground q loose [] XP w s₀ mg mb s₁.heap->YP w s₁.heap ->
   s₁.heap.get? fa=some o->o.data = .func (docDef d.name d.params d.body d.scope pm cd doc)->s₁.heap.CodeRec cd d.name->mg d.name=some (.ref fa) ->
   s₁.heap.get? a=some { cls:=.type "list",data:=.seq vs.toArray }->IntsAre vs ns->ns.length<=n->s₁.gens = #[] ->
   codeAny (model l.prog w) callerA (.call (.ref fa) ⟨[.ref a],[]⟩) (fun r s'=>r = .ok (.ret (.bool true))/\OldK s₁.heap s'.heap/\s'.os=s₁.os/\AllBare s'.gens) s₁) :
  WalkO q loose XP YP l.row.toRowW d [] (fun f vs=>PySem.call f vs):=by
 intro w s₀ s₁ mg mb G Y fa o pm cd doc dV kV ho hd hcd hD hmg hg args vals as hpre hlay hrd hwl hlo
 obtain rfl:dV = .none:=Dflts.none hD hdf
 obtain rfl:kV = .none:=Dflts.noKw hD
 obtain ⟨a,vs,ns,rfl,rfl,hobj,hints,hlen⟩:=script_of hn hpre hwl
 refine enter_call (codeAny_mono (call w s₀ s₁ mg mb fa o pm cd doc a vs ns G Y ho (fd_plain hd) hcd hmg hobj hints hlen hg) fun r s' hq=>?_)
 obtain ⟨rfl,h2,h3,h4⟩:=hq
 exact ⟨.inl ⟨.bool true,.bool true,[],rfl,fun _=>rfl,.bool true,post_true l _,fun _=>⟨List.Pairwise.nil,fun _ hm=>(nomatch hm)⟩⟩,h2,h3,h4⟩
end Att
namespace L2
open PySem PySem.Spec PyProof.Rows
theorem vals_ints:∀ {vs:List Value} {ns:List Int},IntsAre vs ns->Vals (ns.map V.int) vs
 | _,_,.nil=>.nil
 | _,_,.cons n t h=>.cons ⟨t,rfl⟩ (vals_ints h)
def inClass(s:Stmt)(j:Nat):Stmt:=match s with
 | .ClassDef _ _ _ body _ _ _ _ _ _ _=>body.getD j (.Pass ⟨0,0,0,0⟩)
 | _=>.Pass ⟨0,0,0,0⟩
def z_m(s:Stmt):Arguments:=match s with
 | .FunctionDef _ a _ _ _ _ _ _ _ _=>a
 | _=>{ posonlyargs:=[],args:=[],vararg:=none,kwonlyargs:=[],kw_defaults:=[],kwarg:=none,defaults:=[] }
def z_k(s:Stmt):List Stmt:=match s with
 | .FunctionDef _ _ b _ _ _ _ _ _ _=>b
 | _=>[]
def z_e(s:Stmt):Scope:=match s with
 | .FunctionDef _ _ _ _ _ _ sc _ _ _=>sc
 | _=>{ kind:=.function,names:=[],isGenerator:=false,isCoroutine:=false }
abbrev CX0:CXT:=fun _ _ _ _ _ _=>False
abbrev E0:XK:=fun _ _ _=>False
theorem pass0{X:Cx}:Passes CX0 X E0:=fun _ _ _ _ _ _ _ h=>h.elim
structure Fun(K:PySem.W.Frag)(x qual:Str)(st:Stmt)(f:Addr)(fd:FuncData):Prop where
 ex:∃ (oc:Value) (od:Option Addr) (kV doc pm:Value) (an:Option Addr) (cdv ct:Value) (osl:Array (Option Value)),
  fd=PySem.W.fnOf x qual (z_m st) (z_k st) (z_e st) .none kV doc pm an cdv ct/\K.lookup f=some ⟨oc,od,.func fd,osl⟩/\PySem.W.codeIn K cdv qual=true
 kp:PySem.W.keepIn K (.ref f)=true
section
variable {P:Program} {w:World} {K:PySem.W.Frag} {mg:Str->Option Value} {base:Heap}
theorem Fun.ok{x qual:Str}{st:Stmt}{f:Addr}{fd:FuncData}{N ps:List Str}{k:Nat}{sp:Sp}(F:Fun K x qual st f fd)(S:FnScope N ps (z_e st))(len:∀ vs H Q E,sp vs H Q E->vs.length=ps.length)
  (hbody:∀ (cdv:Value) (A:Around) (outer:List Env) (s:Shared) (H:Hp) (vs:List V) (Q:VK) (E:XK),Room k (A.deeper (envOfC qual (z_e st) s.heap.objs.size f cdv))->sp vs H Q E ->
   ∃ t,PSs (cxOf CX0 P w K mg base N qual (z_e st) f cdv A outer s H E).nox (z_k st) t/\t { nx:=fun _ H'=>Q .non H',rt:=Q } (start N vs) H):FnOk P w K mg base CX0 (k+1) f fd ps sp:=by
 obtain ⟨oc,od,kV,doc,pm,an,cdv,ct,osl,rfl,lk,hcd⟩:=F.ex
 refine fn_of lk hcd S len fun A outer s H vs Q E hr hsp=>?_
 obtain ⟨t,h,q⟩:=hbody cdv A outer s H vs Q E hr hsp
 exact ⟨t,h.nox,q⟩
theorem Fun.binds{x qual:Str}{st:Stmt}{f:Addr}{fd:FuncData}{ps:List Str}(F:Fun K x qual st f fd)
  (h:∀ (kV doc pm:Value) (an:Option Addr) (cdv ct:Value) (us:List Value),us.length=ps.length->bindArgs (PySem.W.fnOf x qual (z_m st) (z_k st) (z_e st) .none kV doc pm an cdv ct) ⟨us,[]⟩=pure (ps.zip us)):Binds K fd ps []:=by
 obtain ⟨oc,od,kV,doc,pm,an,cdv,ct,osl,rfl,lk,hcd⟩:=F.ex
 exact .all (h kV doc pm an cdv ct)
theorem y_v{x qual:Str}{st:Stmt}{f:Addr}{oc:Value}{od an:Option Addr}{osl:Array (Option Value)}{kV doc pm cdv ct:Value}(l:K.lookup f=some ⟨oc,od,.func (PySem.W.fnOf x qual (z_m st) (z_k st) (z_e st) .none kV doc pm an cdv ct),osl⟩)
  (c:PySem.W.codeIn K cdv qual=true) (k:PySem.W.keepIn K (.ref f)=true):Fun K x qual st f (PySem.W.fnOf x qual (z_m st) (z_k st) (z_e st) .none kV doc pm an cdv ct):=⟨⟨oc,od,kV,doc,pm,an,cdv,ct,osl,rfl,l,c⟩,k⟩
end
theorem hu_of{A:Around}{k:Nat}(hr:Room k A):A.units+1<cLine:=Nat.lt_of_le_of_lt (Nat.add_le_add_left (by decide:1<=64) _) hr.units
section
variable {X:Cx}
theorem pv(i:Nat){x:Str}{pos:Pos}(hN:X.N[i]? = some x:=by rfl)(hv:Vis X.env.scope x:=by first | exact Or.inl rfl | exact Or.inr (Or.inl rfl) | exact Or.inr (Or.inr rfl))(hd:(x == ("__debug__" : Str))=false:=by decide)
  (hcd:(x == ("__classdict__" : Str))=false:=by decide):PE X (.Name x pos) (tVar i):=pe_var hN hv hd hcd
end
theorem iteF{A B:Prop}(h:B):if false=true then A else B:=by
 rw [if_neg Bool.false_ne_true]
 exact h
theorem iteT{A B:Prop}(h:A):if true=true then A else B:=by
 rw [if_pos rfl]
 exact h
theorem ite2{c A B:Prop}[Decidable c](h1:c->A)(h2:¬c->B):if c then A else B:=by
 by_cases h:c
 ·rw [if_pos h]
  exact h1 h
 ·rw [if_neg h]
  exact h2 h
def Same(H H':Hp):Prop:=∀ b o,H b=some o->H' b=some o
theorem Same.refl(H:Hp):Same H H:=fun _ _ h=>h
theorem Same.trans{H H1 H2:Hp}(a:Same H H1)(b:Same H1 H2):Same H H2:=fun c o h=>b c o (a c o h)
theorem Same.free{H H':Hp}(e:Same H H'){l:Addr}(h:H' l=Option.none):H l=Option.none:=by
 cases q:H l with
 | none=>rfl
 | some o =>
  rw [e l o q] at h
  cases h
theorem Same.seq{K:PySem.W.Frag}{H H':Hp}{a:Addr}{xs:List V}(e:Same H H')(h:SqL K H a xs):SqL K H' a xs:=by
 rcases h with (h | ⟨o,h⟩) | h
 ·exact .inl (.inl (e _ _ h))
 ·exact .inl (.inr ⟨o,e _ _ h⟩)
 ·exact .inr h
end L2
namespace L2
open PySem PySem.Spec PyProof.Rows
end L2
namespace L2
open PySem PySem.Spec PyProof.Rows
def clOf(env:Env):List (Str×NameKind)->List (Str×Addr)->List (Str×Addr)
 | [],acc=>acc
 | (n,k)::r,acc=>if (k == NameKind.free)=true then clOf env r ((n,(env.cells.lookup n).getD 0)::acc) else clOf env r acc
theorem x_g{env:Env}{x:Str}:∀ (l:List (Str×NameKind)) (acc:List (Str×Addr)),
  (clOf env l acc).lookup x=if (l.any fun p=>(p.1 == x)&&(p.2 == NameKind.free))=true then some ((env.cells.lookup x).getD 0) else acc.lookup x
 | [],acc=>by simp [clOf]
 | (n,k)::r,acc=>by
  unfold clOf
  by_cases hk:(k == NameKind.free)=true
  ·rw [if_pos hk,x_g r]
   by_cases hr:(r.any fun p=>(p.1 == x)&&(p.2 == NameKind.free))=true
   ·rw [if_pos hr,if_pos]
    rw [List.any_cons,hr,Bool.or_true]
   ·rw [if_neg hr]
    have hr':(r.any fun p=>(p.1 == x)&&(p.2 == NameKind.free))=false:=(Bool.not_eq_true _).mp hr
    rw [List.any_cons,hr',Bool.or_false,hk,Bool.and_true,List.lookup_cons]
    by_cases hn:n=x
    ·subst hn
     simp
    ·have h1:(n == x)=false:=by simpa using hn
     have h2:(x == n)=false:=by simpa using fun z=>hn (Eq.symm z)
     simp [h1,h2]
  ·rw [if_neg hk,x_g r]
   have hk':(k == NameKind.free)=false:=by simpa using hk
   rw [List.any_cons,hk',Bool.and_false,Bool.false_or]
theorem closure_clOf{env:Env}{scope:Scope}(h:∀ n k,(n,k)∈scope.names->(k == NameKind.free)=true->(env.cells.lookup n).isSome=true):closureFor scope env=pure (clOf env scope.names []):=by
 have go:∀ (l:List (Str×NameKind)) (acc:List (Str×Addr)),(∀ n k,(n,k)∈l->(k == NameKind.free)=true->(env.cells.lookup n).isSome=true) ->
   (forIn l acc (fun (x:Str×NameKind) (r:List (Str×Addr))=>match x with
    | (name,kind)=>if (kind == NameKind.free)=true then (do let a <-cellOf env name;pure (ForInStep.yield ((name,a)::r))) else pure (ForInStep.yield r)):Sem (List (Str×Addr)))=pure (clOf env l acc):=by
  intro l
  induction l with
  | nil=>intro acc _;rfl
  | cons p r ih =>
   intro acc hp
   obtain ⟨n,k⟩:=p
   rw [List.forIn_cons]
   unfold clOf
   by_cases hk:(k == NameKind.free)=true
   ·obtain ⟨c,hc⟩:=Option.isSome_iff_exists.mp (hp n k List.mem_cons_self hk)
    have hc1:cellOf env n=pure c:=by simp only [cellOf,hc]
    simp only [hk,if_true,hc1,hc,Option.getD_some]
    have:=ih ((n,c)::acc) (fun n' k' h'=>hp n' k' (List.mem_cons_of_mem _ h'))
    simpa using this
   ·simp only [hk,if_false]
    have:=ih acc (fun n' k' h'=>hp n' k' (List.mem_cons_of_mem _ h'))
    simpa using this
 have:=go scope.names [] h
 simp only [closureFor]
 simpa using this
def compOk(sc out:Scope)(xs:List Str)(cs:List Str):Bool :=
 (sc.kind == .function)&&(out.kind == .function)&&sc.names.all (fun p=>p.2 != NameKind.cell)&&sc.names.all (fun p=>p.2 != NameKind.local || sc.names.lookup p.1 == some .local)&&xs.all (fun x=>sc.names.lookup x == some .local)
  && sc.names.all (fun p=>p.2 != NameKind.free || out.names.lookup p.1 == some .cell)&&cs.all (fun c=>sc.names.lookup c == some .free)
structure CompOk(sc out:Scope)(xs:List Str)(cs:List Str):Prop where
 kind:sc.kind = .function
 okind:out.kind = .function
 cell:∀ y∈sc.names,y.2 ≠ .cell
 names:∀ y∈sc.names,y.2 = .local->sc.names.lookup y.1=some .local
 x:∀ x∈xs,sc.names.lookup x=some .local
 free:∀ n k,(n,k)∈sc.names->k = .free->out.names.lookup n=some .cell
 cs:∀ c∈cs,sc.names.lookup c=some .free
theorem compOk.mk{sc out:Scope}{xs:List Str}{cs:List Str}(h:compOk sc out xs cs=true):CompOk sc out xs cs:=by
 unfold compOk at h
 simp only [Bool.and_eq_true,List.all_eq_true,beq_iff_eq,bne_iff_ne,ne_eq,Bool.or_eq_true] at h
 obtain ⟨⟨⟨⟨⟨⟨h1,h2⟩,h3⟩,h4⟩,h5⟩,h6⟩,h7⟩:=h
 exact ⟨h1,h2,h3,fun y hy hl=>(h4 y hy).resolve_left fun z=>z hl,h5,fun n k hm hk=>(h6 (n,k) hm).resolve_left fun z=>z hk,h7⟩
theorem relabel_free{sc:Scope}{env:Env}{n:Str}(hk:env.scope.kind = .function)(hout:env.scope.names.lookup n=some .cell)(h:sc.names.lookup n=some .free):(relabel sc env).names.lookup n=some .cell:=by
 unfold relabel
 have go:∀ l:List (Str×NameKind),l.lookup n=some .free ->
   (l.map fun (p:Str×NameKind)=>if (p.2 == NameKind.free&&env.scope.kind == .function&&env.kindOf p.1 == some .cell)=true then (p.1,NameKind.cell) else (p.1,p.2)).lookup n=some .cell:=by
  intro l
  induction l with
  | nil=>intro h;simp at h
  | cons p r ih =>
   intro h
   obtain ⟨m,k⟩:=p
   rw [List.lookup_cons] at h
   cases hm:n == m with
   | true =>
    rw [hm] at h
    cases h
    have e:n=m:=by simpa using hm
    subst e
    have hko:env.kindOf n=some .cell:=hout
    rw [List.map_cons]
    simp [hk,hko]
   | false =>
    rw [hm] at h
    rw [List.map_cons]
    by_cases hc:(k == NameKind.free&&env.scope.kind == .function&&env.kindOf m == some .cell)=true
    ·rw [if_pos hc,List.lookup_cons,hm]
     exact ih h
    ·rw [if_neg hc,List.lookup_cons,hm]
     exact ih h
 exact go sc.names h
def cxComp(X:Cx)(xs:List Str)(capt:List Nat)(scope:Scope)(C:Addr)(s:Shared)(H:Hp)(ex:List Addr):Cx :=
 { X with N:=xs++capt.map (fun j=>X.N.getD j ""),s₀:=s,H₀:=H,env:=compEnvC scope (clOf X.env scope.names []) C X.env,outer:=X.stack,ex:=ex,fn:=fun _=>false,pn:=[] }
def PTs(X:Cx)(ifs:List Expr)(t:TT):Prop :=
 ∀ (pins:List (Addr×Obj)) (s:Shared) (σ:St) (H:Hp) (Q:Bool->Hp->Prop),Inv X pins σ H s->t σ H Q ->
  wpAny (model X.prog X.w) X.A (forIn ifs true fun c r=>if r=true then do let ok <-isTrue c X.env (eval c X.env);pure (ForInStep.yield ok) else pure (ForInStep.yield r)) (TP X pins σ Q) X.xe s
def tYes:TT:=fun _ H Q=>Q true H
theorem x_i{X:Cx}:PTs X [] tYes:=fun pins s σ H Q I h=>by
 show wpAny _ _ (pure true) _ _ _
 exact wpAny_pure ⟨H,I,h⟩
theorem compLoop_own{prog:Program}{w:World}{A:Around}{R:Result->Shared->Prop}{s:Shared}{elt target iter:Expr}{ifs:List Expr}{scope:Scope}{pos:Pos}{it acc:Value}{env:Env}(I:Nat->Shared->Prop)
  (turn:∀ n s,I n s->wpAny (model prog w) A (pyNext it) (fun r s₁=>match r with
   | none=>R (.ok .next) s₁
   | some v=>wpAny (model prog w) A (letOwnedTupleGo target it v) (fun _ s₁'=>wpAny (model prog w) A (assign target env v) (fun _ s₂ =>
     wpAny (model prog w) A (forIn ifs true fun c r=>if r=true then do let ok <-isTrue c env (eval c env);pure (ForInStep.yield ok) else pure (ForInStep.yield r)) (fun ok s₃ =>
      if ok=true then wpAny (model prog w) A (eval elt env) (fun x s₄ =>
       wpAny (model prog w) A (call (.builtin "list.append") [acc,x]) (fun _ s₅=>∃ m,m<n/\I m s₅) (notedBy (model prog w) A env fun e s'=>R (.error e) s') s₄) (notedBy (model prog w) A env fun e s'=>R (.error e) s') s₃
      else ∃ m,m<n/\I m s₃) (notedBy (model prog w) A env fun e s'=>R (.error e) s') s₂) (notedBy (model prog w) A env fun e s'=>R (.error e) s') s₁') (notedBy (model prog w) A env fun e s'=>R (.error e) s') s₁) (notedBy (model prog w) A env fun e s'=>R (.error e) s') s)
  (n:Nat) (h:I n s):codeAny (model prog w) A (.compLoop (.ListComp elt [⟨target,iter,ifs,0⟩] scope pos) 0 it acc env) R s:=by
 refine codeAny_loop rfl I (fun n s hI=>?_) n h
 show wpAny _ A ((compTurn (.ListComp elt [⟨target,iter,ifs,0⟩] scope pos) 0 it acc env).onRaise (fun x=>do noteFrame x env;theTreesLotGoes x)) _ _ s
 refine wpAny_noted ?_
 rw [compTurn_list]
 refine wpAny_bind (wpAny_standAt (wpAny_bind (wpAny_mono (turn n s hI) (fun r s₁ h₁=>?_) fun _ _ h'=>h')))
 cases r with
 | none=>exact wpAny_pure h₁
 | some v =>
  refine wpAny_bind (wpAny_mono h₁ (fun _ s₁' h₁'=>?_) fun _ _ h'=>h')
  refine wpAny_bind (wpAny_mono h₁' (fun _ s₂ h₂=>wpAny_bind (wpAny_mono h₂ (fun ok s₃ h₃=>?_) fun _ _ h'=>h')) fun _ _ h'=>h')
  cases ok with
  | false=>exact wpAny_pure ⟨rfl,h₃⟩
  | true =>
   exact wpAny_bind (wpAny_bind (wpAny_mono h₃ (fun x s₄ h₄=>wpAny_bind (wpAny_mono h₄ (fun _ s₅ h₅=>wpAny_pure (wpAny_pure ⟨rfl,h₅⟩)) fun _ _ h'=>h')) fun _ _ h'=>h'))
section
variable {X:Cx} {pins:List (Addr×Obj)} {σ:St} {H H2:Hp} {s s2:Shared} {xs:List Str} {capt:List Nat} {scope:Scope} {fp:List Addr}
abbrev emptyL:Obj:={ cls:=.type "list",dict:=none,data:=.seq ([]:List Value).toArray }
theorem Inv.stk_lt(I:Inv X pins σ H s){b:Addr}(hb:s.heap.objs.size<=b):b∉frs X.stack:=fun z=>by
 rcases List.mem_cons.mp (I.stkSub b z) with e | e
 ·exact absurd (Nat.lt_of_lt_of_le I.lt hb) (by rw [e];exact Nat.lt_irrefl _)
 ·exact I.nofs hb e
theorem comp_cxok(I:Inv X pins σ H2 s2)(ok:CompOk scope X.env.scope xs (capt.map fun j=>X.N.getD j ""))(hf:∀ b∈fp,FpOk X pins H2 b)(hfo:∀ b∈fp,∃ o,s2.heap.get? b=some o){HH:Heap}(eH:HH=s2.heap.push emptyL) :
  (cxComp X xs capt scope HH.objs.size { s2 with heap:=HH } H2 (s2.heap.objs.size::fp)).Ok:=by
 have hsz:HH.objs.size=s2.heap.objs.size+1:=by rw [eH,Heap.size_push]
 have look:∀ y c,(clOf X.env scope.names []).lookup y=some c->X.env.cells.lookup y=some c:=fun y c e=>by
  rw [x_g] at e
  split at e
  ·rename_i ha
   obtain ⟨p,hp,hq⟩:=List.any_eq_true.mp ha
   simp only [Bool.and_eq_true,beq_iff_eq] at hq
   obtain ⟨q1,q2⟩:=hq
   subst q1
   obtain ⟨c',hc'⟩:=I.ok.has p.1 (.inl (ok.free p.1 p.2 hp q2))
   rw [hc'] at e ⊢
   exact e
  ·cases e
 have keep:∀ b o,s2.heap.get? b=some o->HH.get? b=some o:=fun b o e=>by rw [eH];exact Heap.get?_push_of_some _ e
 refine ⟨I.ok.mod,ok.kind,I.ok.glob,I.ok.blt,Nat.le_refl _,fun y z c h1 h2=>I.ok.inj y z c (look y c h1) (look z c h2),fun y hy=>?_,(fun y c h _=>nomatch h),I.ok.hd,I.ok.frames,I.ok.gd,.inl rfl,fun b hb=>?_,fun b o e=>?_,?_,fun b o e hb=>?_,fun b hb=>?_,?_,fun b hb=>I.stkFree b hb⟩
 ·-- each cell's name has its cell
  have hy':(relabel scope X.env).names.lookup y=some .cell\/(relabel scope X.env).names.lookup y=some .free:=hy
  have inn:∀ (l:List (Str×NameKind)) (k:NameKind),(∀ p∈l,p.2 ≠ .cell)->(k = .cell\/k = .free) ->
    (l.map fun (p:Str×NameKind)=>if (p.2 == NameKind.free&&X.env.scope.kind == .function&&X.env.kindOf p.1 == some .cell)=true then (p.1,NameKind.cell) else (p.1,p.2)).lookup y=some k->∃ p∈l,p.1=y/\p.2 = .free:=by
   intro l k hnc hkk
   induction l with
   | nil=>intro h;simp at h
   | cons p r ih =>
    intro h
    obtain ⟨m,k'⟩:=p
    rw [List.map_cons] at h
    by_cases hc:(k' == NameKind.free&&X.env.scope.kind == .function&&X.env.kindOf m == some .cell)=true
    ·rw [if_pos hc,List.lookup_cons] at h
     have hfree:k' = .free:=by
      simp only [Bool.and_eq_true,beq_iff_eq] at hc
      exact hc.1.1
     cases hm:y == m with
     | true=>exact ⟨(m,k'),List.mem_cons_self,by simpa using Eq.symm (by simpa using hm),hfree⟩
     | false =>
      rw [hm] at h
      obtain ⟨p,hp,q⟩:=ih (fun p hp=>hnc p (List.mem_cons_of_mem _ hp)) h
      exact ⟨p,List.mem_cons_of_mem _ hp,q⟩
    ·rw [if_neg hc,List.lookup_cons] at h
     cases hm:y == m with
     | true =>
      rw [hm] at h
      cases h
      rcases hkk with z | z
      ·exact absurd z (hnc (m,k') List.mem_cons_self)
      ·exact ⟨(m,k'),List.mem_cons_self,by simpa using Eq.symm (by simpa using hm),z⟩
     | false =>
      rw [hm] at h
      obtain ⟨p,hp,q⟩:=ih (fun p hp=>hnc p (List.mem_cons_of_mem _ hp)) h
      exact ⟨p,List.mem_cons_of_mem _ hp,q⟩
  have hex:∃ p∈scope.names,p.1=y/\p.2 = .free:=by
   rcases hy' with h | h
   ·exact inn scope.names .cell ok.cell (.inl rfl) h
   ·exact inn scope.names .free ok.cell (.inr rfl) h
  obtain ⟨p,hp,q1,q2⟩:=hex
  refine ⟨_,(x_g (env:=X.env) scope.names []).trans (if_pos (List.any_eq_true.mpr ⟨p,hp,?_⟩))⟩
  simp [q1,q2]
 ·-- the records that turn are not the frame's
  rcases List.mem_cons.mp hb with z | z
  ·subst z
   refine ⟨Nat.ne_of_lt (show s2.heap.objs.size<HH.objs.size by lia),fun y c e q=>?_⟩
   obtain ⟨v,hv⟩:=I.cell y c (look y c e)
   have:=hv.lt
   rw [q] at this
   exact absurd this (Nat.lt_irrefl _)
  ·obtain ⟨o,ho⟩:=hfo b z
   exact ⟨Nat.ne_of_lt (Nat.lt_of_lt_of_le (Heap.lt_size ho) (show s2.heap.objs.size<=HH.objs.size by lia)),fun y c e=>(hf b z).2.2.2.2.1 y c (look y c e)⟩
 ·obtain ⟨h1,h2⟩:=I.bs b o e
  exact ⟨keep b o h1,h2⟩
 ·show X.base.objs.size<=HH.objs.size
  have h1:=I.ok.bsz
  have h2:=I.sz
  lia
 ·-- the base's objects do not turn
  have h0:=(I.bs b o e).1
  rcases List.mem_cons.mp hb with z | z
  ·subst z
   exact absurd (Heap.lt_size h0) (Nat.lt_irrefl _)
  ·rcases (hf b z).2.2.2.1 with q | q
   ·exact I.ok.noex b o e q
   ·have h1:=(I.ok.bs b o e).1
    exact absurd (Nat.lt_of_lt_of_le (Heap.lt_size h1) q) (Nat.lt_irrefl _)
 ·show b∉frs X.stack
  rcases List.mem_cons.mp hb with z | z
  ·subst z
   exact I.stk_lt (Nat.le_refl _)
  ·intro q
   rcases List.mem_cons.mp (I.stkSub b q) with e | e
   ·exact (hf b z).2.1 e
   ·exact (hf b z).2.2.1 e
 ·show HH.FunFrames X.base X.stack
  exact Heap.FunFrames.of_keeps (fun b o e _=>⟨o,keep b o e,rfl⟩) I.stack
theorem comp_inv(I:Inv X pins σ H2 s2)(ok:CompOk scope X.env.scope xs (capt.map fun j=>X.N.getD j ""))(hcap:∀ j∈capt,j<X.N.length)(hf:∀ b∈fp,FpOk X pins H2 b)(hfo:∀ b∈fp,∃ o,s2.heap.get? b=some o)
  {HH h1:Heap} {t:Nat} {m:Str->Option Value} {oc:Obj} (eH:HH=s2.heap.push emptyL) (hns:h1.Ns HH.objs.size m) (hsb:Heap.SameBut HH.objs.size (HH.push oc) h1) :
  Inv (cxComp X xs capt scope HH.objs.size { s2 with heap:=HH } H2 (s2.heap.objs.size::fp)) [(s2.heap.objs.size,emptyL)] (List.replicate xs.length none++capt.map fun j=>(σ[j]?).join) H2 { s2 with heap:=h1,toks:=t }:=by
 have hsz:HH.objs.size=s2.heap.objs.size+1:=by rw [eH,Heap.size_push]
 have look:∀ y c,(clOf X.env scope.names []).lookup y=some c->X.env.cells.lookup y=some c:=fun y c e=>by
  rw [x_g] at e
  split at e
  ·rename_i ha
   obtain ⟨p,hp,hq⟩:=List.any_eq_true.mp ha
   simp only [Bool.and_eq_true,beq_iff_eq] at hq
   obtain ⟨q1,q2⟩:=hq
   subst q1
   obtain ⟨c',hc'⟩:=I.ok.has p.1 (.inl (ok.free p.1 p.2 hp q2))
   rw [hc'] at e ⊢
   exact e
  ·cases e
 have keep0:∀ b o,HH.get? b=some o->h1.get? b=some o:=fun b o e=>hsb.extBut b o (Nat.ne_of_lt (Heap.lt_size e)) (Heap.get?_push_of_some _ e)
 have keep:∀ b o,s2.heap.get? b=some o->h1.get? b=some o:=fun b o e=>keep0 b o (by rw [eH];exact Heap.get?_push_of_some _ e)
 have hD:h1.get? s2.heap.objs.size=some emptyL:=keep0 _ _ (by rw [eH];exact Heap.get?_push_size _ rfl)
 refine ⟨comp_cxok I ok hf hfo eH,rfl,I.bare,Un.kept keep0,⟨m,hns,fun i y v h1' h2 h3=>?_⟩,fun y c e=>?_,I.hok.fresh (show s2.heap.objs.size<=HH.objs.size by lia),fun y c e=>I.freeC y c (look y c e),fun p hp=>?_,I.hok.kept keep,?_⟩
 ·by_cases hi:i<xs.length
  ·have h2':(List.replicate xs.length (none:Option V))[i]? = some (some v):=by
    rw [<-List.getElem?_append_left (l₂:=capt.map fun j=>(σ[j]?).join) (by simpa using hi)]
    exact h2
   rw [List.getElem?_replicate_of_lt hi] at h2'
   cases h2'
  ·have h1'':(capt.map fun j=>X.N.getD j "")[i-xs.length]? = some y:=by
    rw [<-List.getElem?_append_right (l₁:=xs) (by lia)]
    exact h1'
   have h2':(capt.map fun j=>(σ[j]?).join)[i-xs.length]? = some (some v):=by
    have q:=List.getElem?_append_right (l₁:=List.replicate xs.length (none:Option V)) (l₂:=capt.map fun j=>(σ[j]?).join) (i:=i) (by simpa using hi)
    rw [List.length_replicate] at q
    rw [<-q]
    exact h2
   rw [List.getElem?_map] at h1'' h2'
   cases hj:capt[i-xs.length]? with
   | none=>rw [hj] at h1'';cases h1''
   | some j =>
    rw [hj] at h1'' h2'
    have ey:X.N.getD j "" = y:=by simpa using h1''
    have ev:(σ[j]?).join=some v:=by simpa using h2'
    have hjm:j∈capt:=List.mem_of_getElem? hj
    have hjl:=hcap j hjm
    have hN:X.N[j]? = some y:=by
     rw [List.getD_eq_getElem?_getD,List.getElem?_eq_getElem hjl] at ey
     rw [List.getElem?_eq_getElem hjl]
     simpa using ey
    have hσ:σ[j]? = some (some v):=by
     cases e:σ[j]? with
     | none=>rw [e] at ev;cases ev
     | some o=>rw [e] at ev;have ev':o=some v:=ev;rw [ev']
    have hfr:scope.names.lookup y=some .free:=ok.cs y (List.mem_map.mpr ⟨j,hjm,ey⟩)
    have hout:X.env.scope.names.lookup y=some .cell:=ok.free y .free (PySem.mem_of_lookup hfr) rfl
    obtain ⟨mX,_,hl⟩:=I.loc
    obtain ⟨u,ru,lk⟩:=hl j y v hN hσ (.inr (.inl hout))
    refine ⟨u,ru,?_⟩
    have hko:X.env.kindOf y=some .cell:=hout
    rcases lk with ⟨z,_⟩ | ⟨_,c,hc,hcell⟩
    ·rw [hko] at z;cases z
    ·refine .inr ⟨.inl (relabel_free ok.okind hout hfr),c,?_,hcell.keeps keep⟩
     show (clOf X.env scope.names []).lookup y=some c
     rw [x_g,if_pos (List.any_eq_true.mpr ⟨(y,.free),PySem.mem_of_lookup hfr,by simp⟩),hc]
     rfl
 ·obtain ⟨v,hv⟩:=I.cell y c (look y c e)
  exact ⟨v,hv.keeps keep⟩
 ·have hp':p=(s2.heap.objs.size,emptyL):=by simpa [cxComp] using hp
  subst hp'
  refine ⟨hD,I.hok.fresh (Nat.le_refl _),Nat.ne_of_lt (show s2.heap.objs.size<HH.objs.size by lia),I.stk_lt (Nat.le_refl _),fun v z=>by cases z⟩
 ·show _=(xs++capt.map fun j=>X.N.getD j "").length
  simp
def CompG(J:It)(n:Nat)(c:St)(g:TG)(tt:TT)(te:TE)(H1:Hp)(Fin:List V->Hp->Prop):Prop :=
 ∃ W:Nat->Nat->List V->Hp->Prop,(∃ m,W 0 m [] H1)/\∀ i m ys H,W i m ys H->(J.stop i H/\Fin ys H) \/
  (J.go i H/\ys.length<sizeLine/\∃ N:List V->Hp->Prop,(∀ ys' H',N ys' H'->∃ m',m'<m/\W (i+1) m' ys' H') /\
   ∀ x H',J.yld i H x H'->∀ os:St,os.length=n->g x (os++c) H' fun σ1 H1=>tt σ1 H1 fun b H2=>if b=true then te σ1 H2 fun y H3=>N (ys++[y]) H3 else N ys H2)
def Shp(n:Nat)(g:TG):Prop:=∀ v (os c:St) H Q,os.length=n->g v (os++c) H Q->g v (os++c) H fun σ' H'=>(∃ os':St,os'.length=n/\σ'=os'++c)/\Q σ' H'
def CompW(J:It)(S:V->St)(tt:TT)(te:TE)(H1:Hp)(Fin:List V->Hp->Prop):Prop :=
 ∃ W:Nat->Nat->List V->Hp->Prop,(∃ m,W 0 m [] H1)/\∀ i m ys H,W i m ys H->(J.stop i H/\Fin ys H) \/
  (J.go i H/\ys.length<sizeLine/\∃ N:List V->Hp->Prop,(∀ ys' H',N ys' H'->∃ m',m'<m/\W (i+1) m' ys' H') /\
   ∀ x H',J.yld i H x H'->tt (S x) H' fun b H2=>if b=true then te (S x) H2 fun y H3=>N (ys++[y]) H3 else N ys H2)
def tComp(capt:List Nat)(wi:TI)(tt:TT)(te:TE):TE:=fun σ H Q=>wi σ H fun J H1 =>
 CompW J (fun x=>some x::capt.map fun j=>(σ[j]?).join) tt te H1 fun ys H=>∀ l,H l=none->Q (.ref l) (upd H l (.lst ys))
theorem CompW.g{J:It}{c:St}{tt:TT}{te:TE}{H:Hp}{Fin:List V->Hp->Prop}(h:CompW J (fun x=>some x::c) tt te H Fin):CompG J 1 c (gName 0) tt te H Fin:=by
 obtain ⟨W,w0,st⟩:=h
 refine ⟨W,w0,fun i m ys H w=>?_⟩
 rcases st i m ys H w with q | ⟨go,hl,N,hN,step⟩
 ·exact .inl q
 ·refine .inr ⟨go,hl,N,hN,fun x H' y os hos=>?_⟩
  obtain ⟨o,rfl⟩:=List.length_eq_one_iff.mp hos
  exact step x H' y
theorem shp_name:Shp 1 (gName 0):=fun v os c H Q hos h=>by
 obtain ⟨o,rfl⟩:=List.length_eq_one_iff.mp hos
 exact ⟨⟨[some v],rfl,rfl⟩,h⟩
theorem HOk.track{P:Program}{w:World}{H:Hp}{h:Heap}{a:Addr}{o:HO}(k:HOk P w H h)(n:H a=none)(new:ObjOk P w (upd H a o) h a o):HOk P w (upd H a o) h:=fun b u e=>by
 by_cases hb:b=a
 ·subst hb;rw [z_d] at e;cases e;exact new
 ·rw [z_n hb] at e
  exact (k b u e).stay (fun _ _ _ q=>q) (fun c q=>by rw [z_n (z_g q n)];exact q) (fun c xs q=>by rw [z_n (z_g q n)];exact q) fun c ob xs q=>by rw [z_n (z_g q n)];exact q
theorem comp_block{elt iter tg:Expr}{g:TG}{ifs:List Expr}{pos:Pos}{tt:TT}{te:TE}{it:Addr}{tn:Nat->Heap->Prop}{J:It}{RR:Value->Addr->Result->Shared->Prop}
  (hx0:∀ e s,¬X.xe e s) (hc:X.calm=true) (ok:CompOk scope X.env.scope xs (capt.map fun j=>X.N.getD j "")) (hcap:∀ j∈capt,j<X.N.length) (hG:∀ C s H ex,PG (cxComp X xs capt scope C s H ex) tg g) (hgs:Shp xs.length g)
  (hT:∀ C s H ex,PTs (cxComp X xs capt scope C s H ex) ifs tt) (hE:∀ C s H ex,PE (cxComp X xs capt scope C s H ex) elt te)
  (I2:Inv X pins σ H2 s2) (T:Turn X.prog X.w X.K tg J fp it tn) (st2:tn 0 s2.heap) (f2:∀ b∈fp,FpOk X pins H2 b)
  (Fin:List V->Hp->Prop) (hW:CompG J xs.length (capt.map fun j=>(σ[j]?).join) g tt te H2 Fin)
  (hRR:∀ D C s' ys H' oc,H' D=none->Fin ys H'->Inv X pins σ (upd H' D (.lst ys)) s'->s'.heap.get? C=some oc->(∃ m,s'.heap.Ns C m)->C≠D->H' C=none->C≠X.env.locals->C∉frs X.stack->X.s₀.heap.objs.size<=C->(∀ y c,X.env.cells.lookup y=some c->c≠C)->(∀ p∈X.pn++pins,p.1≠C) ->
   (∀ v,oc.data ≠ .cell v)->RR (.ref D) C (.ok .next) s') :
  wpAny (model X.prog X.w) X.A (newList []) (fun acc s₃=>wpAny (model X.prog X.w) X.A (newFunctionEnv scope X.env.globals (clOf X.env scope.names []) [] X.env.qual none .none (some X.env)) (fun cenv s₄ =>
   codeAny (model X.prog X.w) X.A (.compStart (.ListComp elt [⟨tg,iter,ifs,0⟩] scope pos) 0 (.ref it) acc { cenv with scope:=relabel scope X.env }) (RR acc cenv.locals) s₄) X.xe s₃) X.xe s2:=by
 refine wpAny_newObj_type (wpAny_newFunctionEnv ok.cell (by intro y hy;simp at hy) (fun h1 hns hsb=>?_) ok.kind)
 dsimp only at hns hsb ⊢
 generalize eH:s2.heap.push { cls:=.type "list",dict:=none,data:=.seq ([]:List Value).toArray }=HH at hns hsb ⊢
 have eH':HH=s2.heap.push emptyL:=eH.symm
 have hsz:HH.objs.size=s2.heap.objs.size+1:=by rw [eH',Heap.size_push]
 have hfo:∀ b∈fp,∃ o,s2.heap.get? b=some o:=fun b hb=>let ⟨o,ho,_⟩:=T.obj 0 _ st2 b hb;⟨o,ho⟩
 have flt:∀ b∈fp,b<s2.heap.objs.size:=fun b hb=>let ⟨o,ho⟩:=hfo b hb;Heap.lt_size ho
 have keep1:∀ b o,s2.heap.get? b=some o->h1.get? b=some o:=fun b o e =>
  hsb.extBut b o (Nat.ne_of_lt (Nat.lt_of_lt_of_le (Heap.lt_size e) (show s2.heap.objs.size<=HH.objs.size by lia))) (Heap.get?_push_of_some _ (by rw [eH'];exact Heap.get?_push_of_some _ e))
 have I4:=comp_inv (t:=s2.toks+([]:List (Str×Value)).length) I2 ok hcap f2 hfo eH' hns hsb
 have st4:tn 0 h1:=T.keep 0 _ _ st2 fun b _ o e=>keep1 b o e
 obtain ⟨W,⟨m0,w0⟩,turn⟩:=hW
 generalize hX:cxComp X xs capt scope HH.objs.size { s2 with heap:=HH } H2 (s2.heap.objs.size::fp)=Y at I4
 have eProg:Y.prog=X.prog:=by rw [<-hX];rfl
 have eW:Y.w=X.w:=by rw [<-hX];rfl
 have eK:Y.K=X.K:=by rw [<-hX];rfl
 have eA:Y.A=X.A:=by rw [<-hX];rfl
 have eEnv:Y.env=compEnvC scope (clOf X.env scope.names []) HH.objs.size X.env:=by rw [<-hX];rfl
 have eXe:Y.xe=X.xe:=by rw [<-hX];rfl
 have eCalm:Y.calm=true:=by rw [<-hX];exact hc
 have ePn:Y.pn=[]:=by rw [<-hX];rfl
 have eEx:Y.ex=s2.heap.objs.size::fp:=by rw [<-hX];rfl
 have eFs:Y.fs=frs X.stack:=by rw [<-hX];rfl
 have hT':PTs Y ifs tt:=by rw [<-hX];exact hT _ _ _ _
 have hE':PE Y elt te:=by rw [<-hX];exact hE _ _ _ _
 have hG':PG Y tg g:=by rw [<-hX];exact hG _ _ _ _
 have eH0:Y.H₀=H2:=by rw [<-hX];rfl
 have eS0:Y.s₀={ s2 with heap:=HH }:=by rw [<-hX];rfl
 have eL:Y.env.locals=HH.objs.size:=by rw [eEnv];rfl
 have ecl:Y.env.cells=clOf X.env scope.names []:=by rw [eEnv];rfl
 have look:∀ y c,(clOf X.env scope.names []).lookup y=some c->X.env.cells.lookup y=some c:=fun y c e=>by
  rw [x_g] at e
  split at e
  ·rename_i ha
   obtain ⟨p,hp,hq⟩:=List.any_eq_true.mp ha
   simp only [Bool.and_eq_true,beq_iff_eq] at hq
   obtain ⟨q1,q2⟩:=hq
   subst q1
   obtain ⟨c',hc'⟩:=I2.ok.has p.1 (.inl (ok.free p.1 p.2 hp q2))
   rw [hc'] at e ⊢
   exact e
  ·cases e
 have fpOk:∀ {pins':List (Addr×Obj)} {H':Hp},(∀ b∈fp,H' b=none)->(∀ p∈pins',p.1∉fp)->∀ b∈fp,FpOk Y pins' H' b:=fun {pins' H'} hn hp b hb=>by
  have hlt:=flt b hb
  refine ⟨hn b hb,by rw [eL];exact Nat.ne_of_lt (Nat.lt_of_lt_of_le hlt (show s2.heap.objs.size<=HH.objs.size by lia)),?_,.inl (by rw [eEx];exact List.mem_cons_of_mem _ hb),fun y c e=>(f2 b hb).2.2.2.2.1 y c (look y c (by rw [<-ecl];exact e)),fun p hpp z=>?_⟩
  ·rw [eFs]
   intro q
   rcases List.mem_cons.mp (I2.stkSub b q) with e | e
   ·exact (f2 b hb).2.1 e
   ·exact (f2 b hb).2.2.1 e
  ·rw [ePn,List.nil_append] at hpp
   exact hp p hpp (by rw [z];exact hb)
 have Dnf:s2.heap.objs.size∉fp:=fun z=>absurd (flt _ z) (Nat.lt_irrefl _)
 have loop:codeAny (model X.prog X.w) X.A (.compLoop (.ListComp elt [⟨tg,iter,ifs,0⟩] scope pos) 0 (.ref it) (.ref s2.heap.objs.size) Y.env) (RR (.ref s2.heap.objs.size) HH.objs.size) { s2 with heap:=h1,toks:=s2.toks+([]:List (Str×Value)).length }:=by
  refine compLoop_own (fun n s'=>∃ i ys its k os H',Inv Y [(s2.heap.objs.size,{ cls:=.type "list",data:=.seq its.toArray k })] (os++capt.map fun j=>(σ[j]?).join) H' s'/\os.length=xs.length/\Vals ys its/\ys.length<=sizeLine/\tn i s'.heap/\(∀ b∈fp,H' b=none)/\W i n ys H') ?_ m0
   ⟨0,[],[],0,_,H2,I4,List.length_replicate,.nil,Nat.zero_le _,st4,fun b hb=>(f2 b hb).1,w0⟩
  rintro n s3 ⟨i,ys,its,k,os,H3,I3,hos,rv,hys,st3,fr3,w3⟩
  have noErr:∀ {e:Value} {s:Shared},X.xe e s->notedBy (model X.prog X.w) X.A Y.env (fun e s'=>RR (.ref s2.heap.objs.size) HH.objs.size (.error e) s') e s:=fun {e s} z=>(hx0 e s z).elim
  have pinD:=I3.pin (s2.heap.objs.size,{ cls:=.type "list",data:=.seq its.toArray k }) (by simp)
  have fp3:=fpOk (pins':=[(s2.heap.objs.size,{ cls:=.type "list",data:=.seq its.toArray k })]) fr3 (by simpa using Dnf)
  rcases turn i n ys H3 w3 with ⟨stop,fin⟩ | ⟨go,hlt,N,hN,step⟩
  ·-- it stops
   have d:=T.done Y eProg eW eK eCalm i _ s3 _ H3 X.xe I3 fp3 st3 stop
   rw [eA] at d
   refine wpAny_mono d (fun r s4 ⟨hr,I4'⟩=>?_) fun e s z=>noErr z
   subst hr
   show RR (.ref s2.heap.objs.size) HH.objs.size (.ok .next) s4
   have pinD4:=I4'.pin (s2.heap.objs.size,{ cls:=.type "list",data:=.seq its.toArray k }) (by simp)
   obtain ⟨mC,nsC,_⟩:=I4'.loc
   rw [eL] at nsC
   obtain ⟨oC,esC,epC,hoC,hdC,_⟩:=id nsC
   have base4:=I4'.base
   rw [eFs,eEx,eH0,eS0] at base4
   have hCn:H3 HH.objs.size=none:=by rw [<-eL];exact I4'.free
   refine hRR s2.heap.objs.size HH.objs.size s4 ys H3 oC pinD4.2.1 fin ?_ hoC ⟨mC,nsC⟩ (Nat.ne_of_gt (show s2.heap.objs.size<HH.objs.size by lia)) hCn (Nat.ne_of_gt (Nat.lt_of_lt_of_le I2.lt (show s2.heap.objs.size<=HH.objs.size by lia))) (I2.stk_lt (by lia)) (by have:=I2.sz;lia) (fun y c e z=>?_) (fun p hp z=>?_) (fun v z=>by rw [hdC] at z;cases z)
   ·have hok4:=I4'.hok
    rw [eProg,eW] at hok4
    have hbl:∀ b ob,s2.heap.get? b=some ob->b∉fp->HH.get? b=some ob/\b∉s2.heap.objs.size::fp:=fun b ob e hm =>
     ⟨by rw [eH'];exact Heap.get?_push_of_some _ e,fun z=>(List.mem_cons.mp z).elim (fun q=>absurd (Heap.lt_size e) (by rw [q];exact Nat.lt_irrefl _)) hm⟩
    refine I2.call' (ch:=fp) (by rw [I4'.os,eS0]) ⟨fun b ob e nn hb hx=>?_,fun b ob e nn hb hx=>?_,fun b ob e nn hx=>?_,fun b ob e hx=>?_,fun b xs e=>?_,fun b ob u e=>?_,fun b pp qq e=>?_⟩ (HOk.track hok4 pinD4.2.1 ⟨hys,its,k,rv,pinD4.1⟩) I4'.bare fun b hb=>⟨(f2 b hb).2.2.2.1,(f2 b hb).2.1,(f2 b hb).2.2.2.2.1,(f2 b hb).2.2.2.2.2⟩
    ·obtain ⟨h1',h2'⟩:=hbl b ob e hx
     exact base4.keep b ob h1' nn hb h2'
    ·obtain ⟨h1',h2'⟩:=hbl b ob e hx
     exact base4.slot b ob h1' nn hb h2'
    ·obtain ⟨h1',h2'⟩:=hbl b ob e hx
     rw [z_n (Nat.ne_of_lt (Heap.lt_size e))]
     exact base4.free b ob h1' nn h2'
    ·obtain ⟨h1',h2'⟩:=hbl b ob e hx
     exact base4.there b ob h1' h2'
    ·have q:=base4.tups b xs e
     rw [z_n (z_g q pinD4.2.1)]
     exact q
    ·have q:=base4.frzs b ob u e
     rw [z_n (z_g q pinD4.2.1)]
     exact q
    ·have q:=base4.tbls b pp qq e
     rw [z_n (z_g q pinD4.2.1)]
     exact q
   ·obtain ⟨v,hv⟩:=I2.cell y c e
    have:=hv.lt
    rw [z] at this
    exact absurd this (Nat.not_lt.mpr (show s2.heap.objs.size<=HH.objs.size by lia))
   ·have:=Heap.lt_size (I2.pin p hp).1
    rw [z] at this
    exact absurd this (Nat.not_lt.mpr (show s2.heap.objs.size<=HH.objs.size by lia))
  ·-- one turn
   have d:=T.item Y eProg eW eK eCalm i _ s3 _ H3 X.xe I3 fp3 st3 go
   rw [eA] at d
   refine wpAny_mono d (fun r s4 ⟨u,hr,h4⟩=>?_) fun e s z=>noErr z
   subst hr
   refine wpAny_mono h4 (fun _ s5 ⟨v,H5,I5,r5,y5,st5,fr5⟩=>?_) fun e s z=>noErr z
   have fp5:=fpOk (pins':=[(s2.heap.objs.size,{ cls:=.type "list",data:=.seq its.toArray k })]) fr5 (by simpa using Dnf)
   have I5':=I5.pinned fp5 (T.obj _ _ st5)
   have pg':=hG' _ s5 _ H5 v u _ I5' r5 (hgs v os _ H5 _ hos (step v H5 y5 os hos))
   rw [eProg,eW,eA,eXe] at pg'
   refine wpAny_mono pg' (fun _ s6 ⟨σ6,H6,I6,⟨os6,hos6,e6⟩,q6⟩=>?_) fun e s z=>noErr z
   subst e6
   have t6:=hT' _ s6 _ H6 _ I6 q6
   rw [eProg,eW,eA,eXe] at t6
   refine wpAny_mono t6 (fun b s7 ⟨H7,I7,q7⟩=>?_) fun e s z=>noErr z
   have ntn:∀ {σ':St} {H':Hp} {s':Shared},Inv Y ([(s2.heap.objs.size,{ cls:=.type "list",data:=.seq its.toArray k })]++pinsAt fp s5.heap) σ' H' s'->tn (i+1) s'.heap/\∀ b∈fp,H' b=none:=fun {σ' H' s'} J'=>by
    refine ⟨T.keep _ _ _ st5 fun b hb o e=>(J'.pin (b,o) (List.mem_append_right _ (List.mem_append_right _ (mem_pinsAt hb e)))).1,fun b hb=>?_⟩
    obtain ⟨o,e,_⟩:=T.obj _ _ st5 b hb
    exact (J'.pin (b,o) (List.mem_append_right _ (List.mem_append_right _ (mem_pinsAt hb e)))).2.1
   cases b with
   | false =>
    rw [if_neg Bool.false_ne_true] at q7
    obtain ⟨m',hm,w7⟩:=hN _ _ q7
    rw [if_neg Bool.false_ne_true]
    exact ⟨m',hm,i+1,ys,its,k,os6,H7,I7.unpinned,hos6,rv,hys,(ntn I7).1,(ntn I7).2,w7⟩
   | true =>
    rw [if_pos rfl] at q7
    rw [if_pos rfl]
    have e7:=hE' _ s7 _ H7 _ I7 q7
    rw [eProg,eW,eA,eXe] at e7
    refine wpAny_mono e7 (fun uy s8 ⟨y,H8,I8,r8,n8⟩=>?_) fun e s z=>noErr z
    obtain ⟨m',hm,w8⟩:=hN _ _ n8
    have pin8:=I8.pin (s2.heap.objs.size,{ cls:=.type "list",data:=.seq its.toArray k }) (by simp)
    have hlen:ys.length=its.length:=rv.length
    refine wpAny_list_append_plain (hsz:=by rw [List.size_toArray];lia) ⟨k,pin8.1⟩ fun h9 ⟨k9,hl9⟩ hs9=>?_
    have hk9:∀ b o,b≠s2.heap.objs.size->s8.heap.get? b=some o->h9.get? b=some o:=fun b o hb e=>(hs9.2 b hb).trans e
    have I8u:Inv Y (pinsAt fp s5.heap) (os6++capt.map fun j=>(σ[j]?).join) H8 s8:=I8.pins_of fun p hp=>I8.pin p (List.mem_append_right _ (List.mem_append_right _ hp))
    have I9:Inv Y (pinsAt fp s5.heap) (os6++capt.map fun j=>(σ[j]?).join) H8 { s8 with heap:=h9,toks:=s8.toks }:=I8u.turned (it:=s2.heap.objs.size) hk9 pin8.2.1 (by rw [eL];exact Nat.ne_of_lt (show s2.heap.objs.size<HH.objs.size by lia)) (.inl (by rw [eEx];exact List.mem_cons_self))
     (fun y c e z=>by
      rw [ecl] at e
      obtain ⟨v',hv⟩:=I2.cell y c (look y c e)
      have:=hv.lt
      rw [z] at this
      exact absurd this (Nat.lt_irrefl _))
     (fun p hp z=>by
      rw [ePn,List.nil_append] at hp
      exact Dnf (by rw [<-z];exact (of_pinsAt hp).1))
    have hl9':h9.get? s2.heap.objs.size=some { cls:=.type "list",data:=.seq (its++[uy]).toArray k9 }:=by
     rw [hl9];simp
    refine ⟨m',hm,i+1,ys++[y],its++[uy],k9,os6,H8,I9.pins_of fun p hp=>?_,hos6,rv.append (.cons r8 .nil),?_,?_,(ntn I8).2,w8⟩
    ·have hp':p=(s2.heap.objs.size,{ cls:=.type "list",data:=.seq (its++[uy]).toArray k9 }):=by simpa using hp
     subst hp'
     exact ⟨hl9',pin8.2.1,pin8.2.2.1,pin8.2.2.2.1,fun v z=>by cases z⟩
    ·rw [List.length_append,List.length_singleton];lia
    ·refine T.keep _ _ _ (ntn I8).1 fun b hb o e=>hk9 b o (fun z=>Dnf (by rw [<-z];exact hb)) e
 rw [eEnv] at loop
 refine codeAny_compStart_list ?_ ?_
 ·exact loop
 ·exact T.self _ 0 _ _ _ st4 loop
theorem pe_comp{elt iter:Expr}{x:Str}{px:Pos}{ifs:List Expr}{pos:Pos}{wi:TI}{tt:TT}{te:TE}(capt:List Nat)
  (hx0:∀ e s,¬X.xe e s) (hc:X.calm=true) (hi:PI X (.Name x px) iter wi)
  (hT:∀ C s H ex,PTs (cxComp X [x] capt scope C s H ex) ifs tt) (hE:∀ C s H ex,PE (cxComp X [x] capt scope C s H ex) elt te)
  (hk:compOk scope X.env.scope [x] (capt.map fun j=>X.N.getD j "")=true) (hcap:∀ j∈capt,j<X.N.length) (hnd:(x::capt.map fun j=>X.N.getD j "").Nodup)
  (hs:∀ y,foldedSetIterable iter X.env y=pure y:=by intro _;rfl):PE X (.ListComp elt [⟨.Name x px,iter,ifs,0⟩] scope pos) (tComp capt wi tt te):=by
 intro pins s σ H Q I h
 have ok:=compOk.mk hk
 rw [eval_ListComp]
 refine wpAny_comprehension_free (use:=none) (cl:=clOf X.env scope.names []) rfl hs (closure_clOf fun n k hm hf=>?_) ok.kind ok.names (thn (hi pins s σ H _ I h) fun xv s1 h1=>thn h1 fun itv s2 h2=>?_)
 ·obtain ⟨c,e⟩:=I.ok.has n (.inl (ok.free n k hm (by simpa using hf)))
  rw [e];rfl
 ·obtain ⟨it,fp,tn,J,H2,e,I2,T,st2,f2,hW⟩:=h2
  subst e
  refine comp_block (RR:=fun acc C=>compPost (model X.prog X.w) X.A X.xe none (EP X pins σ Q) acc C) hx0 hc ok hcap (xs:=[x]) (g:=gName 0) (fun C s H ex=>y_j hnd rfl (.inl (lookup_relabel_local (ok.x x (by simp)))) (.inr (lookup_relabel_local (ok.x x (by simp))))) shp_name hT hE I2 T st2 f2 (fun ys H=>∀ l,H l=none->Q (.ref l) (upd H l (.lst ys))) hW.g ?_
  intro D C s' ys H' oc hD fin I' hC ⟨m,hns⟩ hCD hCn hL _ hsz hcl hpn _
  refine ⟨m,hns,fun h' hsb=>⟨.ref D,_,I'.turned (t':=s'.toks) (it:=C) (fun b o hb e=>(hsb.2 b hb).trans e) (by rw [z_n hCD];exact hCn) hL (.inr hsz) hcl hpn,rfl,fin D hD⟩⟩
theorem ps_comp{elt iter:Expr}{x:Str}{px:Pos}{py:Pos}{ifs:List Expr}{pos spos:Pos}{wi:TI}{tt:TT}{te:TE}{i:Nat}{y:Str}(capt:List Nat)
  (hN:X.N.Nodup) (hiy:X.N[i]? = some y) (hy:Loc X.env.scope y)
  (hx0:∀ e s,¬X.xe e s) (hc:X.calm=true) (hi:PI X (.Name x px) iter wi)
  (hT:∀ C s H ex,PTs (cxComp X [x] capt scope C s H ex) ifs tt) (hE:∀ C s H ex,PE (cxComp X [x] capt scope C s H ex) elt te)
  (hk:compOk scope X.env.scope [x] (capt.map fun j=>X.N.getD j "")=true) (hcap:∀ j∈capt,j<X.N.length) (hnd:(x::capt.map fun j=>X.N.getD j "").Nodup)
  (hsw:swapsWith (.ListComp elt [⟨.Name x px,iter,ifs,0⟩] scope pos) (some (.Name y py)) spos.line X.env=pure true)
  (hs:∀ y,foldedSetIterable iter X.env y=pure y:=by intro _;rfl) (hf:X.fn y=true\/X.env.scope.names.lookup y=some .local:=by first | exact .inl rfl | exact .inr rfl | assumption) :
  PS X (.Assign [.Name y py] (.ListComp elt [⟨.Name x px,iter,ifs,0⟩] scope pos) spos) (tAsg (tComp capt wi tt te) (gName i)):=by
 intro pins s σ H D0 I h
 have ok:=compOk.mk hk
 rw [exec_Assign_Name_used _ _ _ _ hsw]
 refine wpAny_bind (wpAny_standAt (wpAny_bind ?_))
 show wpAny _ X.A (do let _ <-comprehension (.ListComp elt [⟨.Name x px,iter,ifs,0⟩] scope pos) scope X.env _ (newList []) false (eval iter X.env) (some (assign (.Name y py) X.env))) _ _ s
 refine wpAny_bind (wpAny_mono (wpAny_comprehension_free (use:=some (assign (.Name y py) X.env)) (cl:=clOf X.env scope.names []) (Q:=fun _ s'=>SP X pins D0 .next s') rfl hs (closure_clOf fun n k hm hf=>?_) ok.kind ok.names (thn (hi pins s σ H _ I h) fun xv s1 h1=>thn h1 fun itv s2 h2=>?_))
  (fun _ s' hq=>wpAny_pure (wpAny_pure hq)) fun _ _ e=>e)
 ·obtain ⟨c,e⟩:=I.ok.has n (.inl (ok.free n k hm (by simpa using hf)))
  rw [e];rfl
 ·obtain ⟨it,fp,tn,J,H2,e,I2,T,st2,f2,hW⟩:=h2
  subst e
  refine comp_block (RR:=fun acc C=>compPost (model X.prog X.w) X.A X.xe (some (assign (.Name y py) X.env)) (fun _ s'=>SP X pins D0 .next s') acc C) hx0 hc ok hcap (xs:=[x]) (g:=gName 0) (fun C s H ex=>y_j hnd rfl (.inl (lookup_relabel_local (ok.x x (by simp)))) (.inr (lookup_relabel_local (ok.x x (by simp))))) shp_name hT hE I2 T st2 f2 (fun ys H=>∀ l,H l=none->gName i (.ref l) σ (upd H l (.lst ys)) D0.nx) hW.g ?_
  intro D C s' ys H' oc hD fin I' hC ⟨m,hns⟩ hCD hCn hL hst hsz hcl hpn hnc
  show wpAny _ _ (assign (.Name y py) X.env (.ref D)) _ _ s'
  have hCf:C∉X.fs:=fun z=>by
   rcases I'.ok.stk with e | ⟨e,_⟩
   ·exact hst (by rw [e];exact z)
   ·refine hst ?_
    rw [e]
    unfold frs
    rw [List.filterMap_cons]
    split
    ·exact z
    ·exact List.mem_cons_of_mem _ z
  have Ip:Inv X (pins++[(C,oc)]) σ (upd H' D (.lst ys)) s':=I'.pins_of fun p hp=>(List.mem_append.mp hp).elim (fun z=>I'.pin p (List.mem_append_right _ z)) fun z=>by
   have z':p=(C,oc):=by simpa using z
   subst z'
   exact ⟨hC,by rw [z_n hCD];exact hCn,hL,hCf,hnc⟩
  have pg:=y_j (X:=X) (i:=i) (x:=y) (pos:=py) hN hiy hy hf
  refine thn (pg _ s' σ _ (.ref D) (.ref D) (fun σ' H''=>D0.nx σ' H''/\H''=upd H' D (.lst ys)) Ip rfl ⟨fin D hD,rfl⟩) fun _ s'' ⟨σ',H'',I'',q,eH⟩=>?_
  subst eH
  have pC:=I''.pin (C,oc) (by simp)
  obtain ⟨o,es,ep,ho,r⟩:=hns
  rw [hC] at ho
  cases ho
  refine ⟨m,⟨oc,es,ep,pC.1,r⟩,fun h' hsb=>?_⟩
  have Iu:Inv X pins σ' (upd H' D (.lst ys)) s'':=I''.pins_of fun p hp=>I''.pin p (List.mem_append_right _ (List.mem_append_left _ hp))
  exact ⟨σ',_,Iu.turned (t':=s''.toks) (it:=C) (fun b o hb e=>(hsb.2 b hb).trans e) pC.2.1 hL (.inr hsz) hcl hpn,q⟩
end
open PySem PySem.Spec PyProof.Rows
section
variable {X:Cx}
def bigB:Int:=1645504557321206042154969182557350504982735865633579863348609024
def CDivL(i j:Int):Prop:=0<j/\j<bigB
theorem log2_lt_of{n k:Nat}(h:n<2^k)(hk:0<k):n.log2<k:=by
 by_cases h0:n=0
 ·subst h0;simpa using hk
 ·exact (Nat.log2_lt h0).mpr h
theorem y_p:OpR X (binaryOp .FloorDiv) (rI CDivL fun i j=>.int (i/j)):=opI fun i j _ _ _ _ _ hc q=>by
 have h1:(0:Int)<j:=hc.1
 have h2:j<bigB:=hc.2
 refine floordiv_int (by lia) (by rw [Int.fdiv_eq_ediv_of_nonneg i (by lia)];exact q) (.inl (PyProof.noPylong_of_log2 ?_))
 have h3:j.natAbs<2^210:=by
  have e:(2^210:Nat)=1645504557321206042154969182557350504982735865633579863348609024:=by decide
  unfold bigB at h2
  rw [e]
  lia
 exact Nat.lt_of_lt_of_le (log2_lt_of h3 (by decide)) (by decide)
theorem call_isinst{T:String}:CallR X (.builtin "isinstance") (fun xs H Q=>∃ x t b,xs=[x,.ty T]/\TyOf X.K H x t/\PySem.W.kitOne X.K t (.type T)=some b/\Q (.bl b) H):=by
 intro pins s σ H xs us Q I r h
 obtain ⟨x,t,b,rfl,ty,e,q⟩:=h
 obtain ⟨u,w',rfl,rx,rt⟩:=vals2 r
 cases rt
 exact isinst_ok I rx ty e fun tk=>⟨.bl b,H,I.tok _,rfl,q⟩
theorem bools_of{bs:List Bool}:∀ {us:List Value},Vals (bs.map V.bl) us->us=bs.map Value.bool:=by
 induction bs with
 | nil=>intro us r;cases r;rfl
 | cons b bs ih =>
  intro us r
  rw [List.map_cons] at r
  cases r with
  | cons r1 r2 =>
   cases r1
   rw [ih r2,List.map_cons]
theorem call_all:CallR X (.builtin "all") (fun xs H Q=>X.calm=true/\∃ (p:Addr) (bs:List Bool),xs=[.ref p]/\SqL X.K H p (bs.map V.bl)/\Q (.bl (bs.all id)) H):=by
 intro pins s σ H xs us Q I r h
 obtain ⟨hc,p,bs,rfl,hp,q⟩:=h
 obtain ⟨u,rfl,ru⟩:=vals1 r
 cases ru
 obtain ⟨its,rv,pl,hz⟩:=I.list hp
 have e:=bools_of rv
 subst e
 have hl:=pl.isList
 have hlt:p<s.heap.objs.size:=by obtain ⟨_,e,_⟩:=hl;exact Heap.lt_size e
 refine call_all_walk (wpAny_pyIter_list hl ?_)
 refine ⟨s.heap.objs.size,[s.heap.objs.size,p],[s.heap.objs.size],(bs.map Value.bool).toArray.size,_,_,fun i=>(bs[i]?).getD true,rfl,Walks.list (A:=X.A.in1) (I.ok.hd hc) _ p (Nat.ne_of_lt hlt) (bs.map Value.bool).toArray,
  ⟨⟨_,Heap.get?_push_size _ rfl,rfl,rfl⟩,hl.push _⟩,fun i v s' Q' E' hP hQ=>?_,fun h' tk hk=>?_⟩
 ·have hP':(bs.map Value.bool)[i]? = some v:=by simpa using hP
  rw [List.getElem?_map] at hP'
  cases e:bs[i]? with
  | none=>rw [e] at hP';cases hP'
  | some b =>
   rw [e] at hP'
   have ev:Value.bool b=v:=Option.some.inj hP'
   subst ev
   simp only [e,Option.getD_some] at hQ
   exact wpAny_truthy_bool hQ
 ·have e:((List.range (bs.map Value.bool).toArray.size).all fun i=>(bs[i]?).getD true)=bs.all id:=by
   rw [List.size_toArray,List.length_map]
   rw [Bool.eq_iff_iff,List.all_eq_true,List.all_eq_true]
   constructor
   ·intro h b hb
    obtain ⟨i,hi,rfl⟩:=List.mem_iff_getElem.mp hb
    have:=h i (List.mem_range.mpr hi)
    rw [List.getElem?_eq_getElem hi] at this
    exact this
   ·intro h i hi
    have hi':=List.mem_range.mp hi
    rw [List.getElem?_eq_getElem hi']
    exact h _ (List.getElem_mem hi')
  rw [e]
  exact ⟨.bl _,H,I.kept (t':=tk) fun b o eb=>hk b o (fun z=>by rw [List.mem_singleton.mp z] at eb;exact Nat.lt_irrefl _ (Heap.lt_size eb)) (Heap.get?_push_of_some _ eb),rfl,q⟩
end
section
variable {S:V->St} {tt:TT} {te:TE} {H:Hp} {Fin:List V->Hp->Prop}
theorem comp_range{lo:Int}{n:Nat}(Pv:Nat->List V->Hp->Prop)(h0:Pv 0 [] H)(hz:∀ i ys H,i<n->Pv i ys H->ys.length<sizeLine)
  (hs:∀ i ys H,i<n->Pv i ys H->tt (S (.int (lo+i))) H fun b H2=>if b=true then te (S (.int (lo+i))) H2 fun y H3=>Pv (i+1) (ys++[y]) H3 else Pv (i+1) ys H2)
  (hd:∀ ys H,Pv n ys H->Fin ys H):CompW (Itr lo n) S tt te H Fin:=by
 refine ⟨fun i m ys H=>m=n-i/\i<=n/\Pv i ys H,⟨n,by simp,Nat.zero_le _,h0⟩,?_⟩
 rintro i m ys H ⟨rfl,hi,p⟩
 by_cases hlt:i<n
 ·refine .inr ⟨hlt,hz i ys H hlt p,Pv (i+1),fun ys' H' p'=>⟨n-(i+1),by lia,rfl,hlt,p'⟩,fun x H' y=>?_⟩
  obtain ⟨e,y⟩:=y
  subst e y
  exact hs i ys _ hlt p
 ·have e:i=n:=by lia
  subst e
  exact .inl ⟨Nat.le_refl _,hd ys H p⟩
theorem comp_list{K:PySem.W.Frag}{a:Addr}{xs:List V}(Pv:Nat->List V->Hp->Prop)(h0:Pv 0 [] H)(hl:∀ i ys H,i<=xs.length->Pv i ys H->SqL K H a xs)(hz:∀ i ys H,i<xs.length->Pv i ys H->ys.length<sizeLine)
  (hs:∀ i x ys H,xs[i]? = some x->Pv i ys H->tt (S x) H fun b H2=>if b=true then te (S x) H2 fun y H3=>Pv (i+1) (ys++[y]) H3 else Pv (i+1) ys H2)
  (hd:∀ ys H,Pv xs.length ys H->Fin ys H):CompW (Itl K a) S tt te H Fin:=by
 refine ⟨fun i m ys H=>m=xs.length-i/\i<=xs.length/\Pv i ys H,⟨xs.length,by simp,Nat.zero_le _,h0⟩,?_⟩
 rintro i m ys H ⟨rfl,hi,p⟩
 have q:=hl i ys H hi p
 by_cases hlt:i<xs.length
 ·refine .inr ⟨⟨xs,xs[i],q,by simp [hlt]⟩,hz i ys H hlt p,Pv (i+1),fun ys' H' p'=>⟨xs.length-(i+1),by lia,rfl,hlt,p'⟩,fun x H' y=>?_⟩
  obtain ⟨e,y⟩:=y
  subst e
  exact hs i x ys _ (y xs q) p
 ·have e:i=xs.length:=by lia
  subst e
  exact .inl ⟨⟨xs,q,Nat.le_refl _⟩,hd ys H p⟩
theorem comp_tup{K:PySem.W.Frag}{a:Addr}{xs:List V}(Pv:Nat->List V->Hp->Prop)(h0:Pv 0 [] H)(hl:∀ i ys H,i<=xs.length->Pv i ys H->SqT K H a xs)(hz:∀ i ys H,i<xs.length->Pv i ys H->ys.length<sizeLine)
  (hs:∀ i x ys H,xs[i]? = some x->Pv i ys H->tt (S x) H fun b H2=>if b=true then te (S x) H2 fun y H3=>Pv (i+1) (ys++[y]) H3 else Pv (i+1) ys H2)
  (hd:∀ ys H,Pv xs.length ys H->Fin ys H):CompW (Itt K a) S tt te H Fin:=by
 refine ⟨fun i m ys H=>m=xs.length-i/\i<=xs.length/\Pv i ys H,⟨xs.length,by simp,Nat.zero_le _,h0⟩,?_⟩
 rintro i m ys H ⟨rfl,hi,p⟩
 have q:=hl i ys H hi p
 by_cases hlt:i<xs.length
 ·refine .inr ⟨⟨xs,xs[i],q,by simp [hlt]⟩,hz i ys H hlt p,Pv (i+1),fun ys' H' p'=>⟨xs.length-(i+1),by lia,rfl,hlt,p'⟩,fun x H' y=>?_⟩
  obtain ⟨e,y⟩:=y
  subst e
  exact hs i x ys _ (y xs q) p
 ·have e:i=xs.length:=by lia
  subst e
  exact .inl ⟨⟨xs,q,Nat.le_refl _⟩,hd ys H p⟩
end
structure TopD(w:World)(K:PySem.W.Frag)(a:Addr)(kvs:List (Str×V)):Prop where
 ex:∃ es n,K.lookup a=some ⟨.type "dict",none,.dict es n,#[]⟩/\PySem.W.KeysLit w.params es.toList/\Paired (fun (p:Str×V) (e:DictEntry)=>(∃ t,e.key = .str p.1 t)/\RelV p.2 e.val) kvs es.toList
 lo:(a == sysModules)=false
theorem top_find{x:Str}:∀ {kvs:List (Str×V)} {l:List DictEntry},Paired (fun (p:Str×V) (e:DictEntry)=>(∃ t,e.key = .str p.1 t)/\RelV p.2 e.val) kvs l ->
  RelO (kvs.lookup x) ((l.find? fun e=>Value.isStrOf x e.key).map (·.val))
 | _,_,.nil=>trivial
 | (k,v)::kvs,e::l,.cons ⟨⟨t,ek⟩,rv⟩ r=>by
  rw [List.lookup_cons,List.find?_cons]
  have hk:Value.isStrOf x e.key=(x == k):=by
   rw [ek]
   show (k == x)=(x == k)
   by_cases hx:x=k
   ·subst hx;rfl
   ·have h1:(x == k)=false:=by simpa using hx
    have h2:(k == x)=false:=by simpa using fun z=>hx (Eq.symm z)
    rw [h1,h2]
  rw [hk]
  cases hx:x == k with
  | true=>exact rv
  | false=>exact top_find r
theorem TopD.find{w:World}{K:PySem.W.Frag}{a:Addr}{kvs:List (Str×V)}(D:TopD w K a kvs)(x:Str):∃ es n,K.lookup a=some ⟨.type "dict",none,.dict es n,#[]⟩/\PySem.W.KeysLit w.params es.toList/\RelO (kvs.lookup x) (findBy Value.isStrOf es x):=by
 obtain ⟨es,n,h1,h2,h3⟩:=D.ex
 refine ⟨es,n,h1,h2,?_⟩
 have q:=top_find (x:=x) h3
 unfold findBy
 rw [<-Array.find?_toList]
 exact q
section
variable {X:Cx} {a:Addr} {kvs:List (Str×V)}
theorem ix_top(D:TopD X.w X.K a kvs):IxR X (fun x y H Q=>∃ z v,x = .ref a/\y = .str z/\kvs.lookup z=some v/\Q v H):=by
 intro value slice pins s σ H x y v u Q I rx ry h hs
 obtain ⟨z,r,rfl,rfl,hz,q⟩:=h
 cases rx
 obtain ⟨t,rfl⟩:=ry
 obtain ⟨es,n,h1,h2,h3⟩:=D.find z
 rw [hz] at h3
 obtain ⟨u,hu,ru⟩:=RelO.some_of h3
 have hm:=PySem.W.mapOf_K (prog:=X.prog) (w:=X.w) I.kIn h1 h2
 exact tail_any hm.typeIs slot_dict_getitem.lookup (wpAny_getItem_of (strKind_is _ _ z t) hm hu ⟨r,H,I.tok _,ru,q⟩) hs
end
end L2
namespace L2
open PySem PySem.Spec PyProof.Rows PySem.SeqAt
mutual
def RdD(K:PySem.W.Frag)(H:Hp):PyData->V->Prop
 | .none,v=>v = .non
 | .bool b,v=>v = .bl b
 | .int i,v=>v = .int i
 | .str x,v=>v = .str x
 | .list ds,v=>∃ p xs,v = .ref p/\SqL K H p xs/\RdDs K H ds xs
 | .tuple ds,v=>∃ p xs,v = .ref p/\SqT K H p xs/\RdDs K H ds xs
 | .dict _,_=>False
def RdDs(K:PySem.W.Frag)(H:Hp):List PyData->List V->Prop
 | [],xs=>xs=[]
 | d::ds,xs=>∃ x r,xs=x::r/\RdD K H d x/\RdDs K H ds r
end
section
variable {K:PySem.W.Frag} {H H':Hp}
theorem RdDs.ints(ns:List Int):RdDs K H (ns.map PyData.int) (ns.map V.int):=by
 induction ns with
 | nil=>unfold RdDs;rfl
 | cons n r ih =>
  show RdDs K H (PyData.int n::r.map PyData.int) (V.int n::r.map V.int)
  unfold RdDs
  exact ⟨_,_,rfl,by unfold RdD;rfl,ih⟩
theorem RdDs.cons{d:PyData}{ds:List PyData}{x:V}{xs:List V}(h:RdD K H d x)(r:RdDs K H ds xs):RdDs K H (d::ds) (x::xs):=by
 unfold RdDs
 exact ⟨x,xs,rfl,h,r⟩
theorem RdDs.nil:RdDs K H [] []:=by unfold RdDs;rfl
theorem RdD.int(i:Int):RdD K H (.int i) (.int i):=by unfold RdD;rfl
theorem RdD.bl(i:Bool):RdD K H (.bool i) (.bl i):=by unfold RdD;rfl
theorem RdD.str(i:Str):RdD K H (.str i) (.str i):=by unfold RdD;rfl
theorem RdD.non:RdD K H .none .non:=by unfold RdD;rfl
theorem RdD.lst{ds:List PyData}{p:Addr}{xs:List V}(h:SqL K H p xs)(r:RdDs K H ds xs):RdD K H (.list ds) (.ref p):=by
 unfold RdD
 exact ⟨p,xs,rfl,h,r⟩
theorem RdD.tup{ds:List PyData}{p:Addr}{xs:List V}(h:SqT K H p xs)(r:RdDs K H ds xs):RdD K H (.tuple ds) (.ref p):=by
 unfold RdD
 exact ⟨p,xs,rfl,h,r⟩
end
def Cmp(n:Nat)(d:PyData):Prop:=d.canLay0=true/\d.depth<=n
theorem Cmp.int{n:Nat}(i:Int):Cmp n (.int i):=⟨by simp [PyData.canLay0],by simp [PyData.depth]⟩
theorem cmpAll{n:Nat}:∀ {ds:List PyData},(∀ d∈ds,Cmp n d)->PyData.canLayAll0 ds=true/\PyData.depthAll ds<=n
 | [],_=>⟨by simp [PyData.canLayAll0],by simp [PyData.depthAll]⟩
 | d::ds,h=>by
  obtain ⟨h1,h2⟩:=h d List.mem_cons_self
  obtain ⟨h3,h4⟩:=cmpAll (ds:=ds) fun e he=>h e (List.mem_cons_of_mem _ he)
  refine ⟨by simp [PyData.canLayAll0,h1,h3],?_⟩
  simp only [PyData.depthAll]
  lia
theorem Cmp.list{n:Nat}{ds:List PyData}(h:∀ d∈ds,Cmp n d):Cmp (n+1) (.list ds):=by
 obtain ⟨h1,h2⟩:=cmpAll h
 exact ⟨by simp [PyData.canLay0,h1],by simp only [PyData.depth];lia⟩
theorem Cmp.tuple{n:Nat}{ds:List PyData}(h:∀ d∈ds,Cmp n d):Cmp (n+1) (.tuple ds):=by
 obtain ⟨h1,h2⟩:=cmpAll h
 exact ⟨by simp [PyData.canLay0,h1],by simp only [PyData.depth];lia⟩
theorem Cmp.mono{n m:Nat}{d:PyData}(h:Cmp n d)(l:n<=m):Cmp m d:=⟨h.1,Nat.le_trans h.2 l⟩
theorem Cmp.ints{n:Nat}(ns:List Int):∀ d∈ns.map PyData.int,Cmp n d:=fun d hd=>by
 obtain ⟨i,_,rfl⟩:=List.mem_map.mp hd
 exact .int i
mutual
theorem eqv_self:∀ {d:PyData},d.canLay0=true->PyData.eqv d d=true
 | .none,_=>by simp [PyData.eqv]
 | .bool _,_=>by simp [PyData.eqv]
 | .int _,_=>by simp [PyData.eqv]
 | .str _,_=>by simp [PyData.eqv]
 | .list ds,h=>by
  rw [PyData.eqv]
  exact eqvAll_self (by simpa [PyData.canLay0] using h)
 | .tuple ds,h=>by
  rw [PyData.eqv]
  exact eqvAll_self (by simpa [PyData.canLay0] using h)
 | .dict _,h=>by simp [PyData.canLay0] at h
theorem eqvAll_self:∀ {ds:List PyData},PyData.canLayAll0 ds=true->PyData.eqvAll ds ds=true
 | [],_=>by simp [PyData.eqvAll]
 | d::ds,h=>by
  have h':(PyData.canLay0 d&&PyData.canLayAll0 ds)=true:=by simpa [PyData.canLayAll0] using h
  obtain ⟨h1,h2⟩:=Bool.and_eq_true_iff.mp h'
  rw [PyData.eqvAll,eqv_self h1,eqvAll_self h2]
  rfl
end
section
variable {X:Cx} {pins:List (Addr×Obj)} {σ:St} {H:Hp} {s:Shared}
mutual
theorem Inv.reads(I:Inv X pins σ H s):∀ {d:PyData} {x:V} {v:Value},RdD X.K H d x->RelV x v->∃ as,Reads s.heap v d as
 | .none,_,_,h,r=>by unfold RdD at h;subst h;cases r;exact ⟨_,.none⟩
 | .bool b,_,_,h,r=>by unfold RdD at h;subst h;cases r;exact ⟨_,.bool b⟩
 | .int i,_,_,h,r=>by unfold RdD at h;subst h;obtain ⟨t,rfl⟩:=r;exact ⟨_,.int i t⟩
 | .str i,_,_,h,r=>by unfold RdD at h;subst h;obtain ⟨t,rfl⟩:=r;exact ⟨_,.str i t⟩
 | .list ds,_,_,h,r=>by
  unfold RdD at h
  obtain ⟨p,xs,rfl,h2,h3⟩:=h
  cases r
  obtain ⟨its,rv,⟨o,n,e1,e2,e3,e4⟩,_⟩:=I.list h2
  obtain ⟨as,ra⟩:=Inv.readsAll I h3 rv
  exact ⟨_,.list e1 e2 e4 (by simpa using ra)⟩
 | .tuple ds,_,_,h,r=>by
  unfold RdD at h
  obtain ⟨p,xs,rfl,h2,h3⟩:=h
  cases r
  obtain ⟨its,rv,⟨o,e1,e2,n,e4⟩,_⟩:=I.tuple h2
  obtain ⟨as,ra⟩:=Inv.readsAll I h3 rv
  exact ⟨_,.tuple e1 e2 e4 (by simpa using ra)⟩
 | .dict _,_,_,h,_=>by unfold RdD at h;exact h.elim
theorem Inv.readsAll(I:Inv X pins σ H s):∀ {ds:List PyData} {xs:List V} {vs:List Value},RdDs X.K H ds xs->Vals xs vs->∃ as,ReadsAll s.heap vs ds as
 | [],_,_,h,r=>by unfold RdDs at h;subst h;cases r;exact ⟨_,.nil⟩
 | d::ds,_,_,h,r=>by
  unfold RdDs at h
  obtain ⟨x,q,rfl,h2,h3⟩:=h
  cases r with
  | cons r1 r2 =>
   obtain ⟨as,ra⟩:=Inv.reads I h2 r1
   obtain ⟨bs,rb⟩:=Inv.readsAll I h3 r2
   exact ⟨_,.cons ra rb⟩
end
def rEqD(K:PySem.W.Frag)(no:Bool):R2:=fun x y H Q=>∃ dx dy,RdD K H dx x/\RdD K H dy y/\Cmp 64 dx/\Cmp 64 dy/\Q (.bl (no ^^ PyData.eqv dx dy)) H
theorem Cmp.shaped{d:PyData}(h:Cmp 64 d):shaped d=true:=by
 unfold SeqAt.shaped
 rw [h.1,decide_eq_true h.2]
 rfl
theorem op_eqD(hu:X.A.units+64<cLine):OpR X (compareOp .Eq) (rEqD X.K false):=by
 intro pins s σ H x y v u Q I rx ry h
 obtain ⟨dx,dy,hx,hy,cx,cy,q⟩:=h
 obtain ⟨as,ra⟩:=I.reads hx rx
 obtain ⟨bs,rb⟩:=I.reads hy ry
 rw [Bool.false_xor] at q
 exact compareEq_shaped ra rb cx.shaped cy.shaped hu ⟨.bl _,H,I,rfl,q⟩
theorem op_neD(hu:X.A.units+64<cLine):OpR X (compareOp .NotEq) (rEqD X.K true):=by
 intro pins s σ H x y v u Q I rx ry h
 obtain ⟨dx,dy,hx,hy,cx,cy,q⟩:=h
 obtain ⟨as,ra⟩:=I.reads hx rx
 obtain ⟨bs,rb⟩:=I.reads hy ry
 rw [Bool.true_xor] at q
 exact compareNe_shaped ra rb cx.shaped cy.shaped hu ⟨.bl _,H,I,rfl,q⟩
end
theorem rEqD.eq{K:PySem.W.Frag}{x y:V}{H:Hp}{Q:VK}{no:Bool}(d:PyData)(hx:RdD K H d x)(hy:RdD K H d y)(c:Cmp 64 d)(q:Q (.bl (!no)) H):rEqD K no x y H Q :=
 ⟨d,d,hx,hy,c,c,by rw [eqv_self c.1,Bool.xor_true];exact q⟩
open PySem PySem.Spec PyProof.Rows
section
variable {X:Cx} {K:PySem.W.Frag} (h:X.K=K)
include h
theorem ix_listK:IxR X (rIxL K):=by subst h;exact z_o
end
end L2
namespace L2
open PySem PySem.Spec
theorem z_h{H:Hp}{p:Addr}(h:H p=none)(o:HO):Same H (upd H p o):=fun b u q=>by rw [z_n (z_g q h)];exact q
theorem sameUpd{H H':Hp}{p:Addr}(s:Same H H')(n:H p=none)(o:HO):Same H (upd H' p o):=fun b u q=>by rw [z_n (z_g q n)];exact s b u q
theorem small{n:Nat}(h:n<=100000):n<=sizeLine:=Nat.le_trans h (by decide)
theorem y_n{n:Nat}(h:n<=100000):n<sizeLine:=Nat.lt_of_le_of_lt h (by decide)
theorem at_ints{ns:List Int}{i:Int}(h0:0<=i)(h:i<ns.length):∃ v:Int,atI (ns.map V.int) i=some (.int v)/\v∈ns/\v=ns.getD i.toNat 0:=by
 obtain ⟨k,rfl⟩:=Int.eq_ofNat_of_zero_le h0
 have hk:k<ns.length:=by lia
 refine ⟨ns[k],atI_nat (by rw [List.getElem?_map,List.getElem?_eq_getElem hk]<;>rfl),List.getElem_mem hk,?_⟩
 rw [Int.toNat_natCast,List.getD_eq_getElem?_getD,List.getElem?_eq_getElem hk]
 rfl
def Drawn(rs:List Int):Prop:=∀ r∈rs,0<=r/\r<1000000
theorem Drawn.at{rs:List Int}(d:Drawn rs){i:Int}(h0:0<=i)(h:i<rs.length):∃ v:Int,atI (rs.map V.int) i=some (.int v)/\0<=v/\v<1000000:=by
 obtain ⟨v,h1,h2,_⟩:=at_ints h0 h
 exact ⟨v,h1,d v h2⟩
theorem Drawn.snoc{rs:List Int}(d:Drawn rs){v:Int}(h0:0<=v)(h:v<1000000):Drawn (rs++[v]):=fun r hr=>by
 rcases List.mem_append.mp hr with q | q
 ·exact d r q
 ·rw [List.mem_singleton.mp q]
  exact ⟨h0,h⟩
def sp_L_row(K:PySem.W.Frag):Sp:=fun vs H Q _=>∃ (a:Addr) (ns:List Int) (i n:Int),vs=[.ref a,.int i,.int n]/\SqL K H a (ns.map V.int)/\ns.length<=63/\0<=i/\0<=n/\n<=1000 /\
 ∀ p (rs:List Int) H',H p=none->Same H H'->H' p=some (.lst (rs.map V.int))->(rs.length:Int)=n->Drawn rs->Q (.ref p) H'
def PrsR(H:Hp)(b:Addr)(rs:List Addr)(ps:List (Int×Int)):Prop:=H b=some (.lst (rs.map V.ref))/\Paired (fun r (p:Int×Int)=>H r=some (.tup [.int p.1,.int p.2])) rs ps
theorem pairedMono{α β:Type}{R S:α->β->Prop}(h:∀ a b,R a b->S a b):∀ {xs:List α} {ys:List β},Paired R xs ys->Paired S xs ys
 | _,_,.nil=>.nil
 | _,_,.cons a b=>.cons (h _ _ a) (pairedMono h b)
theorem pairedSnoc{α β:Type}{R:α->β->Prop}{x:α}{y:β}(h:R x y):∀ {xs:List α} {ys:List β},Paired R xs ys->Paired R (xs++[x]) (ys++[y])
 | _,_,.nil=>.cons h .nil
 | _,_,.cons a b=>.cons a (pairedSnoc h b)
theorem PrsR.same{H H':Hp}{b:Addr}{rs:List Addr}{ps:List (Int×Int)}(s:Same H H')(h:PrsR H b rs ps):PrsR H' b rs ps:=⟨s _ _ h.1,pairedMono (fun r p q=>s _ _ q) h.2⟩
def dPs(ps:List (Int×Int)):PyData:=.list (ps.map fun p=>PyData.tuple [.int p.1,.int p.2])
theorem dPs_cmp(ps:List (Int×Int)):Cmp 2 (dPs ps):=Cmp.list fun d hd=>by
 obtain ⟨p,_,rfl⟩:=List.mem_map.mp hd
 refine Cmp.tuple fun e he=>?_
 simp only [List.mem_cons,List.not_mem_nil,or_false] at he
 rcases he with rfl | rfl<;>exact .int _
theorem ixN_nat{n k:Nat}(h:k<n):ixN n (k:Int)=some k:=by
 unfold ixN
 rw [if_pos (by lia),if_pos (by lia),Int.toNat_natCast]
theorem y_s{c:Bool}{A B:Prop}(h:c=false)(q:B):if c=true then A else B:=by rw [h];exact q
theorem x_d{c:Bool}{A B:Prop}(h:c=true)(q:A):if c=true then A else B:=by rw [h];exact q
def RowInv(a p:Addr)(i n:Int)(H:Hp)(j:Nat)(σ:St)(H':Hp):Prop :=
 ∃ (cell:Int) (great:Bool) (rest:Int) (rs:List Int) (x y:Option V),σ=[some (.ref a),some (.int i),some (.int n),some (.int cell),some (.int rest),some (.bl great),some (.ref p),x,y]/\0<=rest/\rs.length=j/\Drawn rs/\Same H H'/\H' p=some (.lst (rs.map V.int))
section
variable {K:PySem.W.Frag} {a:Addr} {S:V->St} {te:TE} {H:Hp} {Fin:List V->Hp->Prop}
theorem comp_list_map{xs:List V}(f:V->V)(hS:SqL K H a xs)(hz:xs.length<=100000)(hs:∀ x∈xs,∀ N:V->Hp->Prop,N (f x) H->te (S x) H N)(hd:Fin (xs.map f) H):CompW (Itl K a) S tYes te H Fin:=by
 refine comp_list (xs:=xs) (fun i ys H'=>ys=(xs.take i).map f/\H=H') ⟨rfl,rfl⟩ ?_ ?_ ?_ ?_
 ·rintro i ys H' _ ⟨_,rfl⟩
  exact hS
 ·rintro i ys H' hi ⟨rfl,_⟩
  rw [List.length_map,List.length_take]
  exact y_n (by lia)
 ·rintro i x ys H' hx ⟨rfl,rfl⟩
  obtain ⟨hi,he⟩:=List.getElem?_eq_some_iff.mp hx
  unfold tYes
  dsimp only
  rw [if_pos rfl]
  refine hs x (he▸List.getElem_mem hi) _ ⟨?_,rfl⟩
  rw [List.take_succ_eq_append_getElem hi,List.map_append,he]
  rfl
 ·rintro ys H' ⟨rfl,rfl⟩
  rw [List.take_length]
  exact hd
end
end L2
namespace L2
open PySem PySem.Spec
end L2
namespace L2
open PySem PySem.Spec
structure IsNet(H:Hp)(p g:Addr)(rs:List Addr)(n:Int)(ps:List (Int×Int)):Prop where
 p:H p=some (.tup [.int n,.ref g])
 g:PrsR H g rs ps
theorem IsNet.same{H H':Hp}{p g:Addr}{rs:List Addr}{n:Int}{ps:List (Int×Int)}(s:Same H H')(h:IsNet H p g rs n ps):IsNet H' p g rs n ps:=⟨s _ _ h.p,h.g.same s⟩
end L2
namespace L2
open PySem PySem.Spec PyProof.Rows
mutual
def Dat(H:Hp):PyData->V->Prop
 | .none,v=>v = .non
 | .bool b,v=>v = .bl b
 | .int i,v=>v = .int i
 | .str x,v=>v = .str x
 | .list ds,v=>∃ p xs,v = .ref p/\H p=some (.lst xs)/\Dats H ds xs
 | .tuple ds,v=>∃ p xs,v = .ref p/\H p=some (.tup xs)/\Dats H ds xs
 | .dict _,_=>False
def Dats(H:Hp):List PyData->List V->Prop
 | [],xs=>xs=[]
 | d::ds,xs=>∃ x r,xs=x::r/\Dat H d x/\Dats H ds r
end
section
variable {H H':Hp}
mutual
theorem Dat.rd{K:PySem.W.Frag}:∀ {d:PyData} {v:V},Dat H d v->RdD K H d v
 | .none,_,h=>by unfold Dat at h;subst h;exact .non
 | .bool _,_,h=>by unfold Dat at h;subst h;exact .bl _
 | .int _,_,h=>by unfold Dat at h;subst h;exact .int _
 | .str _,_,h=>by unfold Dat at h;subst h;exact .str _
 | .list ds,_,h=>by
  unfold Dat at h
  obtain ⟨p,xs,rfl,h2,h3⟩:=h
  exact RdD.lst (SqL.of h2) (Dats.rd h3)
 | .tuple ds,_,h=>by
  unfold Dat at h
  obtain ⟨p,xs,rfl,h2,h3⟩:=h
  exact RdD.tup (SqT.of h2) (Dats.rd h3)
 | .dict _,_,h=>by unfold Dat at h;exact h.elim
theorem Dats.rd{K:PySem.W.Frag}:∀ {ds:List PyData} {xs:List V},Dats H ds xs->RdDs K H ds xs
 | [],_,h=>by unfold Dats at h;subst h;exact .nil
 | d::ds,_,h=>by
  unfold Dats at h
  obtain ⟨x,r,rfl,h2,h3⟩:=h
  exact .cons (Dat.rd h2) (Dats.rd h3)
end
theorem Dat.int(i:Int):Dat H (.int i) (.int i):=by unfold Dat;rfl
theorem Dat.tup{ds:List PyData}{p:Addr}{xs:List V}(h:H p=some (.tup xs))(r:Dats H ds xs):Dat H (.tuple ds) (.ref p):=by unfold Dat;exact ⟨p,xs,rfl,h,r⟩
theorem Dats.nil:Dats H [] []:=by unfold Dats;rfl
theorem Dats.cons{d:PyData}{ds:List PyData}{x:V}{xs:List V}(h:Dat H d x)(r:Dats H ds xs):Dats H (d::ds) (x::xs):=by unfold Dats;exact ⟨x,xs,rfl,h,r⟩
theorem PrsR.dats{rs:List Addr}{ps:List (Int×Int)}(h:Paired (fun r (p:Int×Int)=>H r=some (.tup [.int p.1,.int p.2])) rs ps):Dats H (ps.map fun p=>PyData.tuple [.int p.1,.int p.2]) (rs.map V.ref):=by
 induction h with
 | nil=>exact .nil
 | cons a r ih=>exact .cons (.tup a (.cons (.int _) (.cons (.int _) .nil))) ih
end
end L2
namespace L2
open PySem PySem.Spec
end L2
namespace L2
open PySem PySem.Spec PyProof.Rows
end L2
namespace L2
open PySem PySem.Spec
theorem pairedGet{α β:Type}{R:α->β->Prop}:∀ {xs:List α} {ys:List β} {i:Nat} {x:α},Paired R xs ys->xs[i]? = some x->∃ y,ys[i]? = some y/\R x y
 | _,_,i,x,.nil,h=>by simp at h
 | _,_,0,x,.cons a b,h=>by
  simp at h
  subst h
  exact ⟨_,rfl,a⟩
 | _,_,i+1,x,.cons a b,h=>by
  rw [List.getElem?_cons_succ] at h ⊢
  exact pairedGet b h
theorem pairedGet'{α β:Type}{R:α->β->Prop}:∀ {xs:List α} {ys:List β} {i:Nat} {y:β},Paired R xs ys->ys[i]? = some y->∃ x,xs[i]? = some x/\R x y
 | _,_,i,x,.nil,h=>by simp at h
 | _,_,0,x,.cons a b,h=>by
  simp at h
  subst h
  exact ⟨_,rfl,a⟩
 | _,_,i+1,x,.cons a b,h=>by
  rw [List.getElem?_cons_succ] at h ⊢
  exact pairedGet' b h
theorem take_get{α:Type}{xs:List α}{i:Nat}{x:α}(h:xs[i]? = some x):xs.take (i+1)=xs.take i++[x]:=by
 obtain ⟨hi,he⟩:=List.getElem?_eq_some_iff.mp h
 rw [List.take_succ_eq_append_getElem hi,he]
open PySem PySem.Spec PyProof.Rows
variable {X:Cx}
theorem call_rangeO:CallR X (.type "range") (fun xs H Q=>∃ n:Int,xs=[.int n]/\∀ p,H p=none->Q (.ref p) (upd H p (.rng 0 n))):=by
 intro pins s σ H xs us Q I r h
 obtain ⟨n,rfl,q⟩:=h
 obtain ⟨u,rfl,rx⟩:=vals1 r
 obtain ⟨t,rfl⟩:=rx
 refine call_range_1 ?_
 exact ⟨.ref s.heap.objs.size,_,I.laid (a:=s.heap.objs.size) (o:=.rng 0 n) (fun _ _ e=>Heap.get?_push_of_some _ e) (Nat.le_refl _) ⟨_,_,_,Heap.get?_push_size _ rfl⟩,rfl,q _ (I.hok.fresh (Nat.le_refl _))⟩
theorem items_vals{n:Nat}{acc:Array Value}(h:ItemsOf (fun i v=>∃ t,v=Value.int ((0:Int)+i*1) t) acc n):Vals ((List.range n).map fun i=>V.int (i:Nat)) acc.toList:=by
 obtain ⟨h1,h2⟩:=h
 have hl:acc.toList.length=n:=by rw [Array.length_toList];exact h1
 have go:∀ (l:List Value) (k m:Nat),l.length=m->(∀ j v,l[j]? = some v->∃ t,v=Value.int ((0:Int)+((k+j:Nat):Int)*1) t)->Vals ((List.range' k m).map fun i=>V.int (i:Nat)) l:=by
  intro l
  induction l with
  | nil =>
   intro k m hm _
   subst hm
   exact .nil
  | cons v l ih =>
   intro k m hm hv
   cases m with
   | zero=>cases hm
   | succ m =>
    rw [List.range'_succ,List.map_cons]
    refine .cons ?_ (ih (k+1) m (by simpa using hm) fun j u hj=>?_)
    ·obtain ⟨t,rfl⟩:=hv 0 v rfl
     refine ⟨t,?_⟩
     congr 1
     lia
    ·obtain ⟨t,e⟩:=hv (j+1) u (by simpa using hj)
     exact ⟨t,by rw [e];congr 1;push_cast;lia⟩
 rw [List.range_eq_range']
 refine go acc.toList 0 n hl fun j v hj=>?_
 obtain ⟨t,e⟩:=h2 j v (by simpa using hj)
 exact ⟨t,by rw [e,Nat.zero_add]⟩
theorem call_list_rng(hc:X.calm=true):CallR X (.type "list") (fun xs H Q=>∃ p n,xs=[.ref p]/\H p=some (.rng 0 n)/\0<=n/\n<=10000/\∀ l,H l=none->Q (.ref l) (upd H l (.lst ((List.range n.toNat).map fun i=>V.int (i:Nat))))):=by
 intro pins s σ H xs us Q I r h
 obtain ⟨p,n,rfl,hp,n0,n1,q⟩:=h
 obtain ⟨u,rfl,rx⟩:=vals1 r
 cases rx
 obtain ⟨t,u,v,e⟩:∃ t u v,s.heap.get? p=some { cls:=.type "range",data:=.fields #[.int 0 t,.int n u,.int 1 v] }:=I.hok p _ hp
 have hsz:Builtin.Range.rangeSize 0 n 1=((n.toNat:Nat):Int):=by rw [rangeSize_one];split<;>lia
 refine call_list_range (I.ok.hd hc) e (small_one (by decide) (by decide) (by lia) (by lia)) hsz (Nat.le_trans (show n.toNat<=10000 by lia) (by decide)) fun h' tk acc c' kp e' hi=>?_
 refine ⟨.ref s.heap.objs.size,_,I.laid (a:=s.heap.objs.size) (o:=.lst ((List.range n.toNat).map fun i=>V.int (i:Nat))) kp (Nat.le_refl _) ⟨?_,acc.toList,c',items_vals hi,e'⟩,rfl,q _ (I.hok.fresh (Nat.le_refl _))⟩
 rw [List.length_map,List.length_range]
 exact small (by lia)
theorem pe_bmK{K:PySem.W.Frag}{o e:Expr}{es:List Expr}{to:TE}{t:TA}{name:Str}{apos cpos:Pos}{T id:String}{r:V->List V->Hp->VK->Prop}(hK:X.K=K)(pa:PlainAttrs T)(slot:Slot T name id)(hty:typeOf (.builtin id)=pure (.type "method_descriptor"))(hm:MtR X id r)(ho:PE X o to)(ha:PA X (e::es) t)
  (hbase:attributeBase o name X.env (eval o X.env)=eval o X.env:=by rfl)
  (hfew:((backTo cpos (starEach (e::es) X.env)).all (fun x=>!x.1)&&(backToKw cpos (keywordEach [] X.env)).all (fun x=>x.1.isSome)
   && decide ((e::es).length+([]:List Keyword).length+(if ([]:List Keyword).isEmpty then 0 else 1)<30))=true:=by rfl)
  (hline:(apos.endLine == cpos.line)=true:=by rfl) (hs:starEach (e::es) X.env=(false,eval e X.env)::starEach es X.env:=by rfl) (hplain:(backTo cpos (starEach es X.env)).any (·.1)=false:=by rfl) :
  PE X (.Call (.Attribute o name apos) (e::es) [] cpos) (tBM K T r to t):=by
 subst hK
 exact pe_bm pa slot hty hm ho ha hbase hfew hline hs hplain
open PySem
theorem xor_sum(a b:Nat):(a^^^b)+2*(a&&&b)=a+b:=by
 have o:((a^^^b)|||(a&&&b))=a|||b:=Nat.eq_of_testBit_eq fun i=>by
  rw [Nat.testBit_or,Nat.testBit_or,Nat.testBit_xor,Nat.testBit_and]
  generalize a.testBit i=u;generalize b.testBit i=v
  revert u v;decide
 have n:((a^^^b)&&&(a&&&b))=0:=Nat.eq_of_testBit_eq fun i=>by
  rw [Nat.testBit_and,Nat.testBit_xor,Nat.testBit_and,Nat.zero_testBit]
  generalize a.testBit i=u;generalize b.testBit i=v
  revert u v;decide
 have x:=PyProof.Rows.nat_or_add_and (a^^^b) (a&&&b)
 rw [o,n] at x
 have y:=PyProof.Rows.nat_or_add_and a b
 clear o n
 lia
theorem xor_nat(a b:Nat):Builtin.bitXor (a:Int) (b:Int)=((a^^^b:Nat):Int):=by
 rw [PyProof.Rows.bitXor_and,PyProof.Rows.bitAnd_pp (by lia) (by lia),Int.toNat_natCast,Int.toNat_natCast]
 have h:=xor_sum a b
 lia
theorem y_z(x:Nat):(x^^^1)/2=x/2:=by
 rw [Nat.xor_div_two]
 exact Nat.xor_zero _
theorem cx_mod(x:Nat):(x^^^1)%2=1-x%2:=by
 have h:(x^^^1)%2=1↔¬(x%2=1↔1%2=1):=Nat.xor_mod_two_eq_one
 have hx:x%2=0\/x%2=1:=by lia
 have hy:(x^^^1)%2=0\/(x^^^1)%2=1:=by lia
 rcases hx with hx | hx<;>rcases hy with hy | hy<;>simp_all
theorem cx_cx(x:Nat):x^^^1^^^1=x:=by rw [Nat.xor_assoc,Nat.xor_self,Nat.xor_zero]
theorem cx_ne(x:Nat):x^^^1≠x:=by have:=cx_mod x;intro e;rw [e] at this;lia
theorem cx_even{k:Nat}:(2*k)^^^1=2*k+1:=by have:=y_z (2*k);have:=cx_mod (2*k);lia
theorem cx_odd{k:Nat}:(2*k+1)^^^1=2*k:=by have:=y_z (2*k+1);have:=cx_mod (2*k+1);lia
theorem sx_div(x p:Nat)(h:p<2):(x^^^p)/2=x/2:=by
 have:p=0\/p=1:=by lia
 rcases this with rfl | rfl
 ·rw [Nat.xor_zero]
 ·exact y_z x
theorem getD_set{L:List Nat}{k j v:Nat}(h:k<L.length):(L.set k v).getD j 0=if j=k then v else L.getD j 0:=by
 rw [List.getD_eq_getElem?_getD,List.getElem?_set,List.getD_eq_getElem?_getD]
 by_cases e:k=j
 ·subst e;rw [if_pos rfl,if_pos h,if_pos rfl];rfl
 ·rw [if_neg e,if_neg (fun h=>e h.symm)]
structure Uf(n:Nat)(L:List Nat)(R:Nat->Nat):Prop where
 len:L.length=n
 ok:∀ k,k<n->(L.getD k 0=2*k/\R (2*k)=2*k/\R (2*k+1)=2*k+1)\/(L.getD k 0/2<k/\R (2*k)=R (L.getD k 0)/\R (2*k+1)=R (L.getD k 0^^^1))
section
variable {n:Nat} {L:List Nat} {R:Nat->Nat}
theorem Uf.step(u:Uf n L R){e:Nat}(h:e/2<n):(L.getD (e/2) 0=2*(e/2)/\R e=e)\/(L.getD (e/2) 0/2<e/2/\R e=R (L.getD (e/2) 0^^^(e%2))):=by
 have he:e%2=0\/e%2=1:=by lia
 rcases u.ok (e/2) h with ⟨h1,h2,h3⟩ | ⟨h1,h2,h3⟩
 ·refine .inl ⟨h1,?_⟩
  rcases he with he | he
  ·rw [show 2*(e/2)=e by lia] at h2;exact h2
  ·rw [show 2*(e/2)+1=e by lia] at h3;exact h3
 ·refine .inr ⟨h1,?_⟩
  rcases he with he | he
  ·rw [show 2*(e/2)=e by lia] at h2;rw [he,Nat.xor_zero];exact h2
  ·rw [show 2*(e/2)+1=e by lia] at h3;rw [he];exact h3
theorem Uf.all(u:Uf n L R):∀ k,k<n->∀ e,e/2=k->R e/2<=k/\L.getD (R e/2) 0=2*(R e/2)/\R (e^^^1)=R e^^^1:=by
 intro k
 induction k using Nat.strongRecOn with
 | _ k ih =>
  intro hk e he
  have h1:=u.step (e:=e) (by lia)
  have h2:=u.step (e:=e^^^1) (by rw [y_z];lia)
  rw [y_z,cx_mod] at h2
  rcases h1 with ⟨a1,a2⟩ | ⟨a1,a2⟩
  ·rcases h2 with ⟨b1,b2⟩ | ⟨b1,b2⟩
   ·rw [a2,b2]
    exact ⟨by lia,a1,rfl⟩
   ·lia
  ·rcases h2 with ⟨b1,b2⟩ | ⟨b1,b2⟩
   ·lia
   ·generalize hv:L.getD (e/2) 0=v at a1 a2 b1 b2
    have hp:e%2<2:=by lia
    have:=ih (v/2) (by lia) (by lia) (v^^^(e%2)) (sx_div v _ hp)
    rw [a2,b2]
    refine ⟨by lia,this.2.1,?_⟩
    rw [<-this.2.2]
    congr 1
    have:e%2=0\/e%2=1:=by lia
    rcases this with h | h<;>rw [h]
    ·rw [Nat.xor_zero]
    ·rw [cx_cx,Nat.xor_zero]
theorem Uf.le(u:Uf n L R){e:Nat}(h:e/2<n):R e/2<=e/2:=(u.all _ h e rfl).1
theorem Uf.cx(u:Uf n L R){e:Nat}(h:e/2<n):R (e^^^1)=R e^^^1:=(u.all _ h e rfl).2.2
theorem Uf.rr(u:Uf n L R){e:Nat}(h:e/2<n):R (R e)=R e:=by
 have h1:=u.all _ h e rfl
 rcases u.step (e:=R e) (by lia) with h2 | h2
 ·exact h2.2
 ·lia
theorem Uf.lt(u:Uf n L R){e:Nat}(h:e/2<n)(nr:¬L.getD (e/2) 0/2=e/2):R e/2<e/2/\L.getD (e/2) 0/2<e/2/\R e=R (L.getD (e/2) 0^^^(e%2)):=by
 rcases u.step h with h1 | h1
 ·lia
 ·have hp:e%2<2:=by lia
  have h3:=sx_div (L.getD (e/2) 0) _ hp
  have h2:=u.le (e:=L.getD (e/2) 0^^^(e%2)) (by lia)
  rw [<-h1.2] at h2
  exact ⟨by lia,h1⟩
theorem Uf.here(u:Uf n L R){e:Nat}(h:e/2<n)(r:L.getD (e/2) 0/2=e/2):R e=e:=by
 rcases u.step h with h1 | h1
 ·exact h1.2
 ·lia
theorem Uf.press(u:Uf n L R){w:Nat}(hw:w/2<n)(nr:R w/2<w/2):Uf n (L.set (w/2) (R w^^^(w%2))) R:=by
 refine ⟨by rw [List.length_set];exact u.len,fun k hk=>?_⟩
 rw [getD_set (by rw [u.len];exact hw)]
 by_cases e:k=w/2
 ·rw [if_pos e]
  have h1:=u.rr hw
  have h2:=u.cx hw
  have h3:=u.cx (e:=R w) (by lia)
  rw [h1] at h3
  have hp:w%2=0\/w%2=1:=by lia
  rcases hp with hp | hp
  ·have e2:2*k=w:=by lia
   rw [hp,Nat.xor_zero,e2,show w+1=w^^^1 by rw [<-e2,cx_even],h1,h2,h3]
   exact .inr ⟨by lia,rfl,rfl⟩
  ·have e2:2*k+1=w:=by lia
   rw [hp,cx_cx,e2,show 2*k=w^^^1 by rw [<-e2,cx_odd],h1,h2,h3,y_z]
   exact .inr ⟨by lia,rfl,rfl⟩
 ·rw [if_neg e]
  exact u.ok k hk
def jn(R:Nat->Nat)(lo hi:Nat)(e:Nat):Nat:=if R e=hi then lo else if R e=hi^^^1 then lo^^^1 else R e
theorem Uf.join(u:Uf n L R){lo hi:Nat}(h1:R lo=lo)(h2:R hi=hi)(hl:lo/2<hi/2)(hn:hi/2<n):Uf n (L.set (hi/2) (lo^^^(hi%2))) (jn R lo hi):=by
 have hd:=y_z hi
 have hld:=y_z lo
 have h3:=u.cx (e:=lo) (by lia)
 have h4:=u.cx (e:=hi) (by lia)
 rw [h1] at h3
 rw [h2] at h4
 have n1:lo≠hi:=by lia
 have n2:lo≠hi^^^1:=by lia
 have n3:lo^^^1≠hi:=by lia
 have n4:lo^^^1≠hi^^^1:=by lia
 have q1:jn R lo hi lo=lo:=by unfold jn;rw [h1,if_neg n1,if_neg n2]
 have q2:jn R lo hi (lo^^^1)=lo^^^1:=by unfold jn;rw [h3,if_neg n3,if_neg n4]
 have q3:jn R lo hi hi=lo:=by unfold jn;rw [if_pos h2]
 have q4:jn R lo hi (hi^^^1)=lo^^^1:=by unfold jn;rw [h4,if_neg (cx_ne hi),if_pos rfl]
 refine ⟨by rw [List.length_set];exact u.len,fun k hk=>?_⟩
 rw [getD_set (by rw [u.len];exact hn)]
 by_cases e:k=hi/2
 ·rw [if_pos e]
  have hp:hi%2=0\/hi%2=1:=by lia
  rcases hp with hp | hp
  ·have e2:2*k=hi:=by lia
   rw [hp,Nat.xor_zero,e2,show hi+1=hi^^^1 by rw [<-e2,cx_even],q1,q2,q3,q4]
   exact .inr ⟨by lia,rfl,rfl⟩
  ·have e2:2*k+1=hi:=by lia
   rw [hp,cx_cx,e2,show 2*k=hi^^^1 by rw [<-e2,cx_odd],q1,q2,q3,q4,hld]
   exact .inr ⟨by lia,rfl,rfl⟩
 ·rw [if_neg e]
  have cong:∀ a b,R a=R b->jn R lo hi a=jn R lo hi b:=fun a b h=>by unfold jn;rw [h]
  rcases u.ok k hk with ⟨a1,a2,a3⟩ | ⟨a1,a2,a3⟩
  ·refine .inl ⟨a1,?_,?_⟩
   ·unfold jn;rw [a2,if_neg (by lia),if_neg (by lia)]
   ·unfold jn;rw [a3,if_neg (by lia),if_neg (by lia)]
  ·exact .inr ⟨a1,cong _ _ a2,cong _ _ a3⟩
theorem Uf.init(n:Nat):Uf n ((List.range n).map fun k=>2*k) id:=by
 refine ⟨by rw [List.length_map,List.length_range],fun k hk=>.inl ⟨?_,rfl,rfl⟩⟩
 rw [List.getD_eq_getElem?_getD,List.getElem?_map,List.getElem?_range hk]
 rfl
end
theorem lk_lesser{v:V}:([(("lesser" : Str),v)]:List (Str×V)).lookup ("lesser" : Str)=some v:=by simp [List.lookup]
theorem lk_no{v:V}{m:Str}(h:(m == ("lesser" : Str))=false):([(("lesser" : Str),v)]:List (Str×V)).lookup m=none:=by simp [List.lookup,h]
def natsV(L:List Nat):List V:=L.map fun k=>V.int (k:Nat)
theorem z_l(L:List Nat):(natsV L).length=L.length:=List.length_map _
def ClsAt(C:Addr)(H:Hp)(o l:Addr)(n:Nat)(R:Nat->Nat):Prop:=(∃ dx,H o=some (.ins C dx [("lesser",.ref l)]))/\∃ L:List Nat,H l=some (.lst (natsV L))/\Uf n L R/\n<=4200
def Ch(l:Addr)(H H':Hp):Prop:=∀ b o,b≠l->H b=some o->H' b=some o
theorem Ch.refl{l:Addr}{H:Hp}:Ch l H H:=fun _ _ _ e=>e
theorem Ch.trans{l:Addr}{H H1 H2:Hp}(a:Ch l H H1)(b:Ch l H1 H2):Ch l H H2:=fun c o n e=>b c o n (a c o n e)
theorem Same.ch{l:Addr}{H H':Hp}(s:Same H H'):Ch l H H':=fun c o _ e=>s c o e
theorem Ch.put{l:Addr}{H:Hp}(o:HO):Ch l H (upd H l o):=fun b o' n e=>by rw [z_n n];exact e
theorem Ch.same{l:Addr}{H H1 H2:Hp}(n:H l=none)(a:Same H H1)(b:Ch l H1 H2):Same H H2:=fun c o e=>b c o (z_g e n) (a c o e)
theorem ClsAt.same{C o l:Addr}{H H':Hp}{n:Nat}{R:Nat->Nat}(c:ClsAt C H o l n R)(s:Same H H'):ClsAt C H' o l n R:=by
 obtain ⟨⟨dx,h1⟩,L,h2,u,h3⟩:=c
 exact ⟨⟨dx,s _ _ h1⟩,L,s _ _ h2,u,h3⟩
theorem ClsAt.ne{C o l:Addr}{H:Hp}{n:Nat}{R:Nat->Nat}(c:ClsAt C H o l n R):o≠l:=by
 obtain ⟨⟨dx,h1⟩,L,h2,u,h3⟩:=c
 intro e
 rw [e,h2] at h1
 cases h1
theorem at_nats{L:List Nat}{c:Nat}(h:c/2<L.length):atI (natsV L) ((c:Int)/2)=some (.int ((L.getD (c/2) 0:Nat):Int)):=by
 rw [show (c:Int)/2=((c/2:Nat):Int) by lia]
 refine atI_nat ?_
 unfold natsV
 rw [List.getElem?_map,List.getD_eq_getElem?_getD,List.getElem?_eq_getElem h]
 rfl
theorem natsV_set(L:List Nat)(k v:Nat):(natsV L).set k (.int (v:Nat))=natsV (L.set k v):=by
 unfold natsV
 rw [List.map_set]
def sp_C_init(C:Addr):Sp:=fun vs H Q _=>∃ (o dx:Addr) (n:Nat),vs=[.ref o,.int (n:Int)]/\H o=some (.ins C dx [])/\n<=4200/\∀ l H',H l=none->Ch o H H'->ClsAt C H' o l n id->Q .non H'
def sp_C_least(C:Addr):Sp:=fun vs H Q _=>∃ (o l:Addr) (n:Nat) (R:Nat->Nat) (e:Nat),vs=[.ref o,.int (e:Int)]/\ClsAt C H o l n R/\e/2<n/\∀ H',Ch l H H'->ClsAt C H' o l n R->Q (.int (R e:Nat)) H'
def sp_C_alike(C:Addr):Sp:=fun vs H Q _=>∃ (o l:Addr) (n:Nat) (R:Nat->Nat) (a b:Nat),vs=[.ref o,.int (a:Int),.int (b:Int)]/\ClsAt C H o l n R/\a/2<n/\b/2<n/\∀ H',Ch l H H'->ClsAt C H' o l n R->Q (.bl (decide (R a=R b))) H'
def sp_C_join(C : Addr) : Sp := fun vs H Q _ => ∃ (o l : Addr) (n : Nat) (R : Nat -> Nat) (a b : Nat), vs = [.ref o, .int (a : Int), .int (b : Int)] /\ ClsAt C H o l n R /\ a / 2 < n /\ b / 2 < n /\
  ((R a = R b /\ ∀ H', Ch l H H' -> ClsAt C H' o l n R -> Q (.bl true) H') \/ (R a = R b ^^^ 1 /\ ∀ H', Ch l H H' -> ClsAt C H' o l n R -> Q (.bl false) H') \/
   (R a ≠ R b /\ R a ≠ R b ^^^ 1 /\ ∀ H', Ch l H H' -> ClsAt C H' o l n (jn R (min (R a) (R b)) (max (R a) (R b))) -> Q (.bl true) H'))
open PySem
theorem ixN_half{L:List Nat}{w:Nat}(h:w/2<L.length):ixN (natsV L).length ((w:Int)/2)=some (w/2):=by
 rw [z_l,show (w:Int)/2=((w/2:Nat):Int) by lia]
 exact ixN_nat h
theorem made_same{H H1:Hp}{o dx C:Addr}(ho:H o=none)(hdx:H dx=none)(ch:Ch o (upd (upd H dx (.own o)) o (.ins C dx [])) H1):Same H H1:=fun b w e=>by
 have n1:b≠o:=z_g e ho
 have n2:b≠dx:=z_g e hdx
 refine ch b w n1 ?_
 rw [z_n n1,z_n n2]
 exact e
theorem made_free{H:Hp}{o dx l:Addr}{a b:HO}(h:(upd (upd H dx a) o b) l=none):H l=none:=by
 by_cases e1:l=o
 ·rw [e1,z_d] at h;cases h
 ·by_cases e2:l=dx
  ·rw [z_n e1,e2,z_d] at h;cases h
  ·rw [z_n e1,z_n e2] at h;exact h
theorem nats_at{ws:List Nat}{k:Nat}(h:k<ws.length):atI (natsV ws) (k:Int)=some (.int (ws[k]:Nat)):=atI_nat (by unfold natsV;rw [List.getElem?_map,List.getElem?_eq_getElem h];rfl)
open PySem PySem.Spec PyProof.Rows
def Lb(n:Nat)(Ls:List Nat)(R:Nat->Nat):Prop:=Ls.length=2*n/\∀ a b,a<2*n->b<2*n->(Ls.getD a 0=Ls.getD b 0↔R a=R b)
theorem Lb.start(n:Nat):Lb n (List.range (2*n)) id:=by
 have e:∀ a,a<2*n->(List.range (2*n)).getD a 0=a:=fun a h=>by rw [List.getD_eq_getElem?_getD,List.getElem?_range h];rfl
 refine ⟨List.length_range,fun a b ha hb=>?_⟩
 rw [e a ha,e b hb]
 exact Iff.rfl
theorem Uf.least{n:Nat}{L:List Nat}{R:Nat->Nat}(u:Uf n L R){e j:Nat}(he:e/2<n)(hj:j/2<n)(h:R j=R e):R e<=j:=by
 have h1:=u.le hj
 rw [h] at h1
 have h2:=u.all _ he e rfl
 by_cases q:R e/2=j/2
 ·have h3:L.getD (j/2) 0=2*(j/2):=by rw [<-q];exact h2.2.1
  have h4:=u.here hj (by lia)
  lia
 ·lia
def jl(Ls:List Nat)(one other:Nat):List Nat:=Ls.map fun x=>if x=Ls.getD (other^^^1) 0 then Ls.getD (one^^^1) 0 else if x=Ls.getD other 0 then Ls.getD one 0 else x
theorem jl_get{Ls:List Nat}{one other a:Nat}(h:a<Ls.length):(jl Ls one other).getD a 0=if Ls.getD a 0=Ls.getD (other^^^1) 0 then Ls.getD (one^^^1) 0 else if Ls.getD a 0=Ls.getD other 0 then Ls.getD one 0 else Ls.getD a 0:=by
 unfold jl
 rw [List.getD_eq_getElem?_getD,List.getElem?_map,List.getElem?_eq_getElem h]
 have e:Ls.getD a 0=Ls[a]:=by rw [List.getD_eq_getElem?_getD,List.getElem?_eq_getElem h];rfl
 rw [e]
 rfl
theorem merge_iff{A A1 B B1 x y:Nat}(h1:A≠A1)(h2:B≠B1)(h3:A≠B)(h4:A≠B1)(h5:A1≠B)(h6:A1≠B1) :
  ((if x=B1 then A1 else if x=B then A else x)=(if y=B1 then A1 else if y=B then A else y))↔((if x=A then B else if x=A1 then B1 else x)=(if y=A then B else if y=A1 then B1 else y)):=by
 constructor
 ·intro h
  repeat' split at h
  all_goals (repeat' split)
  all_goals lia
 ·intro h
  repeat' split at h
  all_goals (repeat' split)
  all_goals lia
theorem Lb.jl{n:Nat}{L Ls:List Nat}{R:Nat->Nat}(u:Uf n L R)(h:Lb n Ls R){one other:Nat}(h1:one<2*n)(h2:other<2*n)(hne:R one≠R other^^^1) :
  (R one=R other->Lb n (jl Ls one other) R)/\(R one≠R other->Lb n (jl Ls one other) (jn R (min (R one) (R other)) (max (R one) (R other)))):=by
 have d1:=y_z one
 have d2:=y_z other
 have c1:=u.cx (e:=one) (by lia)
 have c2:=u.cx (e:=other) (by lia)
 have l1:one^^^1<2*n:=by lia
 have l2:other^^^1<2*n:=by lia
 have key:∀ a,a<2*n->∃ k,k<2*n/\(L2.jl Ls one other).getD a 0=Ls.getD k 0/\R k=if R a=R other^^^1 then R one^^^1 else if R a=R other then R one else R a:=fun a ha=>by
  rw [jl_get (by rw [h.1];exact ha)]
  by_cases q1:R a=R other^^^1
  ·rw [if_pos ((h.2 _ _ ha l2).mpr (by rw [c2];exact q1)),if_pos q1]
   exact ⟨_,l1,rfl,c1⟩
  ·rw [if_neg (fun q=>q1 (by rw [<-c2];exact (h.2 _ _ ha l2).mp q)),if_neg q1]
   by_cases q2:R a=R other
   ·rw [if_pos ((h.2 _ _ ha h2).mpr q2),if_pos q2]
    exact ⟨_,h1,rfl,rfl⟩
   ·rw [if_neg (fun q=>q2 ((h.2 _ _ ha h2).mp q)),if_neg q2]
    exact ⟨_,ha,rfl,rfl⟩
 have hlen:(L2.jl Ls one other).length=2*n:=by unfold L2.jl;rw [List.length_map];exact h.1
 refine ⟨fun hs=>⟨hlen,fun a b ha hb=>?_⟩,fun hs=>⟨hlen,fun a b ha hb=>?_⟩⟩
 ·obtain ⟨ka,la,ea,ra⟩:=key a ha
  obtain ⟨kb,lb,eb,rb⟩:=key b hb
  rw [ea,eb,h.2 _ _ la lb,ra,rb,hs]
  have:∀ z:Nat,(if z=R other^^^1 then R other^^^1 else if z=R other then R other else z)=z:=fun z=>by split<;>(try split)<;>lia
  rw [this,this]
 ·obtain ⟨ka,la,ea,ra⟩:=key a ha
  obtain ⟨kb,lb,eb,rb⟩:=key b hb
  rw [ea,eb,h.2 _ _ la lb,ra,rb]
  have x1:=cx_ne (R one)
  have x2:=cx_ne (R other)
  have x3:R one^^^1≠R other:=fun q=>hne (by rw [<-q,cx_cx])
  have x4:R one^^^1≠R other^^^1:=fun q=>hs (by have:=congrArg (· ^^^ 1) q;simp only [cx_cx] at this;exact this)
  unfold jn
  rcases Nat.lt_or_gt_of_ne hs with q | q
  ·rw [Nat.min_eq_left (by lia),Nat.max_eq_right (by lia)]
   generalize R one^^^1=A1 at *
   generalize R other^^^1=B1 at *
   have sw:∀ z:Nat,(if z=B1 then A1 else if z=R other then R one else z)=if z=R other then R one else if z=B1 then A1 else z:=fun z=>by split<;>split<;>(try split)<;>lia
   rw [sw,sw]
  ·rw [Nat.min_eq_right (by lia),Nat.max_eq_left (by lia)]
   exact merge_iff (fun e=>x1 e.symm) (fun e=>x2 e.symm) hs hne x3 x4
theorem Lb.none{n:Nat}{L Ls:List Nat}{R:Nat->Nat}(u:Uf n L R)(h:Lb n Ls R){one other:Nat}(h1:one<2*n)(h2:other<2*n):Ls.getD one 0=Ls.getD (other^^^1) 0↔R one=R other^^^1:=by
 have d2:=y_z other
 rw [h.2 _ _ h1 (by lia),u.cx (by lia)]
theorem nats_d{Ls:List Nat}{k:Nat}(h:k<Ls.length):atI (natsV Ls) (k:Int)=some (.int (Ls.getD k 0:Nat)):=by
 rw [nats_at h,List.getD_eq_getElem?_getD,List.getElem?_eq_getElem h]
 rfl
theorem take_snoc{Ls:List Nat}{i:Nat}(h:i<Ls.length):Ls.take (i+1)=Ls.take i++[Ls.getD i 0]:=by
 rw [List.take_add_one,List.getElem?_eq_getElem h,List.getD_eq_getElem?_getD,List.getElem?_eq_getElem h]
 rfl
theorem natsV_snoc(Ls:List Nat)(k:Nat):natsV (Ls++[k])=natsV Ls++[.int (k:Nat)]:=by unfold natsV;rw [List.map_append];rfl
theorem x_c{Ls:List Nat}{i:Nat}{v:V}(h:(natsV Ls)[i]? = some v):i<Ls.length/\v = .int (Ls.getD i 0:Nat):=by
 unfold natsV at h
 rw [List.getElem?_map] at h
 by_cases q:i<Ls.length
 ·rw [List.getElem?_eq_getElem q] at h
  refine ⟨q,?_⟩
  rw [List.getD_eq_getElem?_getD,List.getElem?_eq_getElem q]
  exact (Option.some.inj h).symm
 ·rw [List.getElem?_eq_none (by lia)] at h
  cases h
theorem inl_ne{x y:Nat}(h:x≠y):¬((Sum.inl (x:Int):Key) = .inl (y:Int)):=fun e=>by
 injection e with e
 have e':(x:Int)=(y:Int):=e
 lia
theorem two_get{a b:Nat}{va vb:V}(x:Nat):valV (mergeK [] [((.inl (a:Int):Key),va),(.inl (b:Int),vb)]) (.inl (x:Int))=if x=b then some vb else if x=a then some va else none:=by
 have e:mergeK [] [((.inl (a:Int):Key),va),(.inl (b:Int),vb)]=putK (putK [] (.inl (a:Int)) va) (.inl (b:Int)) vb:=rfl
 rw [e,valV_put,valV_put]
 by_cases h1:x=b
 ·subst h1;rw [if_pos rfl,if_pos rfl]
 ·rw [if_neg (inl_ne h1),if_neg h1]
  by_cases h2:x=a
  ·subst h2;rw [if_pos rfl,if_pos rfl]
  ·rw [if_neg (inl_ne h2),if_neg h2]
   rfl
def sp_L_joined:Sp:=fun vs H Q _=>∃ (p:Addr) (Ls:List Nat) (one other:Nat),vs=[.ref p,.int (one:Int),.int (other:Int)]/\H p=some (.lst (natsV Ls))/\Ls.length<=200/\one<Ls.length/\other<Ls.length/\one^^^1<Ls.length/\other^^^1<Ls.length /\
 (Ls.getD one 0=Ls.getD (other^^^1) 0->Q .non H)/\(Ls.getD one 0≠Ls.getD (other^^^1) 0->∀ q H',H q=none->Same H H'->H' q=some (.lst (natsV (jl Ls one other)))->Q (.ref q) H')
structure LamAt(mg:Str->Option Value)(base:Heap)(c P:Addr):Prop where
 hd:PySem.W.CodeHd base c P
 bm:∃ bm ob,mg "__builtins__" = some (.ref bm)/\bm≠builtinsNs/\base.get? bm=some ob/\ob.cls = .type "module" /\ ob.dict=some builtinsNs/\ob.data = .plain
section
variable {X:Cx} {pins:List (Addr×Obj)} {σ:St} {H:Hp} {s:Shared}
theorem Inv.grown{Pa c:Addr}{pos:Pos}{qual:Str}{h':Heap}{t':Nat}{ps vs:Array Value}{oc:Obj}{tq:Tok}(I:Inv X pins σ H s)(hP:H Pa=some (.tbl pos qual))(hx:Heap.ExtBut Pa s.heap h')
  (hge:s.heap.objs.size<=c) (hc:h'.get? c=some oc) (hd:oc.data = .fields vs) (hv:vs[1]? = some (.str qual tq)) (htab:h'.get? Pa=some { cls:=.none,data:=.fields ps }) (ht:TriplesOk ps.toList)
  (ha:codeAmong pos ps.toList=some (.ref c)):Inv X pins σ (upd H c (.frz oc (.own Pa))) { s with heap:=h',toks:=t' }:=by
 have hn:H c=none:=I.hok.fresh hge
 have nP:∀ b,H b=none->b≠Pa:=fun b n z=>by rw [z,hP] at n;cases n
 refine I.un ⟨fun b o e n _ _=>hx b o (nP b n) e,fun b o e n _ _=>⟨o.slots,hx b o (nP b n) e⟩,fun b o e n _=>?_,fun b o e _=>?_,fun b xs e=>?_,fun b o u e=>?_,fun b p q e=>?_⟩ fun b u e=>?_
 ·rw [z_n (Nat.ne_of_lt (Nat.lt_of_lt_of_le (Heap.lt_size e) hge))]
  exact n
 ·by_cases hb:b=Pa
  ·subst hb
   exact ⟨_,htab⟩
  ·exact ⟨o,hx b o hb e⟩
 ·rw [z_n (z_g e hn)]
  exact e
 ·rw [z_n (z_g e hn)]
  exact e
 ·rw [z_n (z_g e hn)]
  exact e
 ·by_cases hbc:b=c
  ·subst hbc
   rw [z_d] at e
   cases e
   exact ⟨hc,oc,hc⟩
  ·rw [z_n hbc] at e
   by_cases hb:b=Pa
   ·subst hb
    rw [hP] at e
    cases e
    exact ⟨ps,htab,ht,.inr ⟨c,oc,vs,tq,ha,z_d,hd,hv⟩⟩
   ·refine (I.hok b u e).stay (fun d v hd q=>hx d v ?_ q) (fun d q=>by rw [z_n (z_g q hn)];exact q) (fun d xs q=>by rw [z_n (z_g q hn)];exact q) fun d ob xs q=>by rw [z_n (z_g q hn)];exact q
    rcases hd with z | z
    ·rw [z]
     exact hb
    ·intro y
     rw [y,hP] at z
     cases z
end
end L2
namespace L2
open PySem PySem.Spec PyProof.Rows
theorem Fun.okC{P:Program}{w:World}{K:PySem.W.Frag}{mg:Str->Option Value}{base:Heap}{x qual:Str}{st:Stmt}{f:Addr}{fd:FuncData}{N ps:List Str}{k:Nat}{sp:Sp}{cdv:Value}(F:Fun K x qual st f fd)(hc:fd.code=cdv)(S:FnScope N ps (z_e st))(len:∀ vs H Q E,sp vs H Q E->vs.length=ps.length)
  (hbody:∀ (A:Around) (outer:List Env) (s:Shared) (H:Hp) (vs:List V) (Q:VK) (E:XK),Room k (A.deeper (envOfC qual (z_e st) s.heap.objs.size f cdv))->sp vs H Q E ->
   ∃ t,PSs (cxOf CX0 P w K mg base N qual (z_e st) f cdv A outer s H E).nox (z_k st) t/\t { nx:=fun _ H'=>Q .non H',rt:=Q } (start N vs) H):FnOk P w K mg base CX0 (k+1) f fd ps sp:=by
 obtain ⟨oc,od,kV,doc,pm,an,cdv',ct,osl,rfl,lk,hcd⟩:=F.ex
 obtain rfl:cdv'=cdv:=hc
 refine fn_of lk hcd S len fun A outer s H vs Q E hr hsp=>?_
 obtain ⟨t,h,q⟩:=hbody A outer s H vs Q E hr hsp
 exact ⟨t,h.nox,q⟩
abbrev Tab4:=Addr×Addr×Pos×Str
def IsTab(h:Heap)(b:Addr):Prop:=(∃ c,PySem.W.CodeHd h c b)/\h.get? b=some (PySem.W.tabObj #[])
def tabH(tabs:List Tab4):Hp:=fun b=>(tabs.find? fun t=>t.2.1 == b).map fun t=>.tbl t.2.2.1 t.2.2.2
theorem tabH_at:∀ {tabs:List Tab4},(tabs.map (·.2.1)).Nodup->∀ t∈tabs,tabH tabs t.2.1=some (.tbl t.2.2.1 t.2.2.2)
 | [],_,t,h=>nomatch h
 | u::r,nd,t,h=>by
  rw [List.map_cons,List.nodup_cons] at nd
  unfold tabH
  rw [List.find?_cons]
  rcases List.mem_cons.mp h with rfl | h
  ·simp
  ·have:(u.2.1 == t.2.1)=false:=by
    simp only [beq_eq_false_iff_ne,ne_eq]
    intro z
    exact nd.1 (z▸List.mem_map_of_mem (f:=fun t:Tab4=>t.2.1) h)
   rw [this]
   exact tabH_at nd.2 t h
theorem tabH_of{tabs:List Tab4}{b:Addr}{u:HO}(h:tabH tabs b=some u):∃ t∈tabs,t.2.1=b/\u = .tbl t.2.2.1 t.2.2.2:=by
 unfold tabH at h
 obtain ⟨t,h1,h2⟩:=Option.map_eq_some_iff.mp h
 exact ⟨t,List.mem_of_find?_eq_some h1,eq_of_beq (List.find?_some (p:=fun t:Tab4=>t.2.1 == b) h1),h2.symm⟩
theorem law_callT{P:Program}{w:World}{K:PySem.W.Frag}{mg mb:Str->Option Value}{CX:CXT}{k:Nat}{fa a:Addr}{fd:FuncData}{x:Str}{sp:Sp}{s₁:Shared}{vs:List Value}{ns:List Int}{tabs:List Tab4}
  (KX:K.In s₁.heap) (hns:s₁.heap.Ns mainGlobals mg) (hb:s₁.heap.Ns builtinsNs mb) (hbb:∀ x:Str,x ≠ "__name__" -> mb x=bootBuiltins x) (hlim:s₁.heap.NoLimit) (hg:s₁.gens = #[])
  (ha:s₁.heap.get? a=some { cls:=.type "list",data:=.seq vs.toArray }) (hi:IntsAre vs ns) (hl:ns.length<=sizeLine) (hr:Room k callerA)
  (hT:∀ t∈tabs,PySem.W.CodeHd s₁.heap t.1 t.2.1/\s₁.heap.get? t.2.1=some (PySem.W.tabObj #[])) (hNd:(tabs.map (·.2.1)).Nodup) (hNo:PySem.W.noTabs K=true)
  (hbm:∃ bm ob,mg "__builtins__" = some (.ref bm)/\bm≠builtinsNs/\s₁.heap.get? bm=some ob/\ob.cls = .type "module" /\ ob.dict=some builtinsNs/\ob.data = .plain)
  (F:∀ base:Heap,K.In base->base.Ns mainGlobals mg->(∀ t∈tabs,LamAt mg base t.1 t.2.1)->FnOk P w K mg base CX k fa fd [x] sp) (hbind:∀ (s:Shared) (u:Value),BindsTo s fd ⟨[u],[]⟩ [(x,u)])
  (hsp:∀ H:Hp,(∀ t∈tabs,H t.2.1=some (.tbl t.2.2.1 t.2.2.2))->SqL K H a (ns.map V.int)->sp [.ref a] H (fun v _=>v = .bl true) fun _ _ _=>False)
  (hCX:∀ H e s',CX [] H s₁ (fun _ _ _=>False) e s'->False) :
  codeAny (model P w) callerA (.call (.ref fa) ⟨[.ref a],[]⟩) (fun r s'=>r = .ok (.ret (.bool true))/\OldK s₁.heap s'.heap/\s'.os=s₁.os/\AllBare s'.gens) s₁:=by
 have rv:=vals_ints hi
 have lenV:=hi.length
 have core:∀ H:Hp,(∀ b u,H b=some u->(b=a/\K.lookup a=none/\∃ o xs,u = .frz o (.lst xs))\/(IsTab s₁.heap b/\∃ p q,u = .tbl p q))->(∀ t∈tabs,H t.2.1=some (.tbl t.2.2.1 t.2.2.2))->SqL K H a (ns.map V.int)->HOk P w H s₁.heap ->
   codeAny (model P w) callerA (.call (.ref fa) ⟨[.ref a],[]⟩) (fun r s'=>r = .ok (.ret (.bool true))/\OldK s₁.heap s'.heap/\s'.os=s₁.os/\AllBare s'.gens) s₁:=by
  intro H hO hTb hS hok
  have base_of:∀ {b:Addr} {o:Obj},s₁.heap.get? b=some o->H b=none->(hidT s₁.heap H).get? b=some o:=fun e n=>hidT_get e n
  have noO:∀ {b:Addr} {o:Obj},s₁.heap.get? b=some o->(∀ xs n,o.data ≠ .seq xs n)->o≠PySem.W.tabObj #[]->H b=none:=fun {b o} e d1 d2=>by
   cases q:H b with
   | none=>rfl
   | some u =>
    rcases hO b u q with ⟨rfl,_⟩ | ⟨⟨_,z⟩,_⟩
    ·rw [ha] at e
     cases e
     exact absurd rfl (d1 _ _)
    ·rw [z] at e
     cases e
     exact absurd rfl d2
  have nsK:∀ {b:Addr} {m:Str->Option Value},s₁.heap.Ns b m->(hidT s₁.heap H).Ns b m:=fun {b m} ⟨o,es,ep,e,d,r⟩=>⟨o,es,ep,base_of e (noO e (fun _ _ z=>by rw [d] at z;cases z) (fun z=>by rw [z] at d;cases d)),d,r⟩
  have hKb:K.In (hidT s₁.heap H):=fun b o e=>base_of (KX b o e) (by
   cases q:H b with
   | none=>rfl
   | some u =>
    rcases hO b u q with ⟨rfl,z,_⟩ | ⟨⟨_,z⟩,_⟩
    ·rw [z] at e
     cases e
    ·have e2:=KX b o e
     rw [z] at e2
     cases e2
     exact absurd (show false=true from List.all_eq_true.mp hNo (b,_) (PySem.W.mem_of_lookupK e)) Bool.false_ne_true)
  have hM:Mod K mg (hidT s₁.heap H):=⟨hKb,nsK hns,⟨mb,nsK hb,hbb⟩,let ⟨mc,h1,h2⟩:=hlim;⟨mc,nsK h1,h2⟩⟩
  have e0:Env0 P w K mg (hidT s₁.heap H) callerA [] s₁ H:=⟨rfl,rfl,hM,fun b o e=>of_hidT e,Nat.le_of_eq (hidT_size _ _),trivial,fun b hb=>absurd (show b∈([]:List Addr) from hb) (by simp),hok,.of_eq hg⟩
  have hLam:∀ t∈tabs,LamAt mg (hidT s₁.heap H) t.1 t.2.1:=fun t ht=>by
   obtain ⟨o,vs,file,tf,flags,tg,inF,text,tt,e1,r1,r2,rest⟩:=(hT t ht).1
   obtain ⟨bm,ob,b1,b2,b3,b4,b5,b6⟩:=hbm
   exact ⟨⟨o,vs,file,tf,flags,tg,inF,text,tt,base_of e1 (noO e1 (fun _ _ z=>by rw [r2] at z;cases z) (fun z=>by rw [z] at r1;cases r1)),r1,r2,rest⟩,bm,ob,b1,b2,base_of b3 (noO b3 (fun _ _ z=>by rw [b6] at z;cases z) (fun z=>by rw [z] at b4;cases b4)),b4,b5,b6⟩
  refine codeAny_mono ((F _ hKb (nsK hns) hLam).run callerA [] s₁ H ⟨[.ref a],[]⟩ [.ref a] [.ref a] _ _ hr e0 (hbind s₁ (.ref a)) (.cons rfl .nil) (hsp H hTb hS)) fun r s' h=>?_
  cases r with
  | error e=>exact (hCX H e s' h).elim
  | ok fl =>
   cases fl with
   | next=>exact False.elim h
   | brk=>exact False.elim h
   | cont=>exact False.elim h
   | ret u =>
    obtain ⟨v,H',os,bare,un,hok',r',q⟩:=h
    have q':v = .bl true:=q
    subst q'
    obtain rfl:u=Value.bool true:=r'
    refine ⟨rfl,⟨fun b o e=>?_,fun b o e=>un.there b o e (by simp)⟩,os,bare⟩
    cases q:H b with
    | none=>exact .inl (un.keep b o e q (by intro z;exact absurd (show b∈([]:List Addr) from z) (by simp)) (by simp))
    | some u =>
     rcases hO b u q with ⟨_,_,ob,xs,rfl⟩ | ⟨⟨⟨c,hc⟩,z⟩,p,q2,rfl⟩
     ·have z2:=un.frzs b ob _ q
      obtain ⟨e1,_⟩:=hok b _ q
      obtain ⟨e2,_⟩:=hok' b _ z2
      rw [e] at e1
      cases e1
      exact .inl e2
     ·obtain ⟨ps,e2,_⟩:=hok' b _ (un.tbls b p q2 q)
      have e1:=z
      rw [e] at z
      cases z
      exact .inr (.inl ⟨(hc.tab e1).isCodeTable,rfl,#[],ps,rfl,by rw [e2];simp⟩)
 have tabOk:∀ b u,tabH tabs b=some u->IsTab s₁.heap b/\∃ p q,u = .tbl p q:=fun b u e=>by
  obtain ⟨t,ht,rfl,rfl⟩:=tabH_of e
  exact ⟨⟨⟨_,(hT t ht).1⟩,(hT t ht).2⟩,_,_,rfl⟩
 have tabHok:∀ {H:Hp} {b:Addr} {u:HO},tabH tabs b=some u->ObjOk P w H s₁.heap b u:=fun {H b u} e=>by
  obtain ⟨⟨_,z⟩,p,q,rfl⟩:=tabOk b u e
  exact ⟨#[],z,trivial,.inl rfl⟩
 cases hk:K.lookup a with
 | some o =>
  have e:=KX a o hk
  rw [ha] at e
  cases e
  exact core (tabH tabs) (fun b u e=>.inr (tabOk b u e)) (tabH_at hNd) (.inr ⟨_,vs.toArray,_,hk,rfl,rfl,rfl,by rw [List.size_toArray,lenV];exact hl,by simpa using rv⟩) (fun b u e=>tabHok e)
 | none =>
  have nt:∀ t∈tabs,t.2.1≠a:=fun t ht z=>by
   have:=(hT t ht).2
   rw [z,ha] at this
   cases this
  refine core (fun b=>if b=a then some (.frz { cls:=.type "list",data:=.seq vs.toArray } (.lst (ns.map V.int))) else tabH tabs b) (fun b u e=>?_) (fun t ht=>(if_neg (nt t ht)).trans (tabH_at hNd t ht)) (.inl (.inr ⟨{ cls:=.type "list",data:=.seq vs.toArray },if_pos rfl⟩)) (fun b u e=>?_)
  ·by_cases hb:b=a
   ·have e':=(if_pos hb).symm.trans e
    cases e'
    exact .inl ⟨hb,hk,_,_,rfl⟩
   ·exact .inr (tabOk b u ((if_neg hb).symm.trans e))
  ·by_cases hb:b=a
   ·have e':=(if_pos hb).symm.trans e
    cases e'
    subst hb
    exact ⟨ha,by rw [List.length_map];exact hl,vs,_,rv,ha⟩
   ·exact tabHok ((if_neg hb).symm.trans e)
theorem walk_ofT{l:PySem.W.OpenLaw}{n k:Nat}{q:Program}{loose:List Str}{XP:(Str->Option Value)->Heap->Prop}{YP:World->Heap->Prop}{d:DefRec}{K:Params->PySem.W.Frag}{x:Str}
  (hn:l.most=some n) (hn2:n<=sizeLine) (hdf:d.params.defaults=[]) (hr:Room k callerA)
  (hY:∀ (w:World) (h:Heap),YP w h->(K w.params).In h)
  (F:∀ (w:World) (mg mb:Str->Option Value) (ls:List Str) (mean:ExcName->Option Value) (fa:Addr) (h:Heap),(K w.params).In h->h.Ns mainGlobals mg->Top q ls mean mg mb h->mg d.name=some (.ref fa) ->
   ∃ (fd:FuncData) (tabs:List Tab4) (sp:Sp),(∀ (s:Shared) (u:Value),BindsTo s fd ⟨[u],[]⟩ [(x,u)])/\(∀ t∈tabs,PySem.W.CodeHd h t.1 t.2.1/\h.get? t.2.1=some (PySem.W.tabObj #[]))/\(tabs.map (·.2.1)).Nodup/\PySem.W.noTabs (K w.params)=true /\
    (∀ base:Heap,(K w.params).In base->base.Ns mainGlobals mg->(∀ t∈tabs,LamAt mg base t.1 t.2.1)->FnOk l.prog w (K w.params) mg base CX0 k fa fd [x] sp) /\
    ∀ (H:Hp) (a:Addr) (ns:List Int),ns.length<=n->(∀ t∈tabs,H t.2.1=some (.tbl t.2.2.1 t.2.2.2))->SqL (K w.params) H a (ns.map V.int)->sp [.ref a] H (fun v _=>v = .bl true) fun _ _ _=>False) :
  PySem.W.WalkO q loose XP YP l.row.toRowW d [] (fun f vs=>PySem.call f vs):=by
 refine Att.attach_call hn hdf fun w s₀ s₁ mg mb fa o pm cd doc a vs ns G Y ho hd hcd hmg hobj hints hlen hg=>?_
 have KX:=hY w _ Y
 obtain ⟨fd,tabs,sp,hb,hT,hNd,hNo,hF,hsp⟩:=F w mg mb _ _ fa _ KX G.T.g G.T hmg
 exact law_callT KX G.T.g G.T.b G.T.builtins G.T.nolimit hg hobj hints (Nat.le_trans hlen hn2) hr hT hNd hNo G.T.bmain hF hb (fun H h1 h2=>hsp H a ns hlen h1 h2) fun _ _ _ z=>z
section
variable {X:Cx} {pins:List (Addr×Obj)} {σ:St} {H:Hp} {s:Shared}
def IsClo(fo:Obj)(name qual:Str)(params:Arguments)(body:List Stmt)(scope:Scope)(clos:List (Str×Addr))(c:Addr):Prop :=
 ∃ doc pm ctv,fo={ cls:=.type "function",data:=.func (PySem.W.fnX name qual params body scope clos .none .none doc pm none (.ref c) ctv) }
def IsCd(H:Hp)(c:Addr)(qual:Str):Prop:=∃ oc u vs tq,H c=some (.frz oc u)/\oc.data = .fields vs/\vs[1]? = some (.str qual tq)
theorem IsCd.same{H H':Hp}{c:Addr}{qual:Str}(x:IsCd H c qual)(u:Same H H'):IsCd H' c qual:=by
 obtain ⟨oc,w,vs,tq,a,b⟩:=x
 exact ⟨oc,w,vs,tq,u _ _ a,b⟩
theorem clo_make{A:Around}{E:Value->Shared->Prop}{Q:Value->Shared->Prop}{Pa c:Addr}{pos:Pos}{fl:Nat}{name qual:Str}{params:Arguments}{body:List Stmt}{scope:Scope}{clos:List (Str×Addr)}(I:Inv X pins σ H s)
  (L:LamAt X.mg X.base c Pa) (hcode:X.env.code = .ref c) (hP:H Pa=some (.tbl pos qual)) (hcl:closureFor scope X.env=pure clos)
  (h:∀ (f c':Addr) (fo:Obj) (H':Hp) (s':Shared),Inv X pins σ H' s'->Same H H'->H f=none->H' f=some (.frz fo (.own f))->IsClo fo name qual params body scope clos c'->IsCd H' c' qual->Q (.ref f) s') :
  wpAny (model X.prog X.w) A (makeFunction name qual params (FuncBody.stmts body) scope X.env [] [] [] pos fl) Q E s:=by
 obtain ⟨ps,hPs,ht,hc⟩:=I.hok Pa _ hP
 obtain ⟨bm,ob,b1,b2,b3,b4,b5,b6⟩:=L.bm
 have nP:∀ b o,X.base.get? b=some o->b≠Pa:=fun b o e z=>by
  have:=(I.bs b o e).2
  rw [z,hP] at this
  cases this
 have hg:=I.mod.glob.keeps I.bk
 have hgP:mainGlobals≠Pa:=by
  obtain ⟨o,_,_,e,_⟩:=I.mod.glob
  exact nP _ o e
 have hbG:bm≠mainGlobals:=fun q=>by
  obtain ⟨o,es,ep,e,hd,_⟩:=I.mod.glob
  rw [q,e] at b3
  cases b3
  rw [hd] at b6
  cases b6
 have hb:s.heap.BuiltinsAt X.mg Pa:=⟨bm,ob,b1,b2,hbG,nP _ _ b3,I.bk _ _ b3,b4,b5,b6⟩
 have push:∀ {H1:Hp} {h':Heap} {tk:Nat} {fo:Obj},Inv X pins σ H1 { s with heap:=h',toks:=tk }->Same H H1->fo.isFreed=false->∀ {c':Addr},s.heap.objs.size<=h'.objs.size->IsClo fo name qual params body scope clos c'->IsCd H1 c' qual->Q (.ref h'.objs.size) { s with heap:=h'.push fo,toks:=tk }:=fun {H1 h' tk fo} I1 sm hnf {c'} hsz hcl hcd=>by
  have hfr:H1 h'.objs.size=none:=I1.hok.fresh (Nat.le_refl _)
  have hget:(h'.push fo).get? h'.objs.size=some fo:=Heap.get?_push_size _ hnf
  have I2:=I1.laid (t':=tk) (a:=h'.objs.size) (o:=.frz fo (.own h'.objs.size)) (h':=h'.push fo) (fun b u e=>Heap.get?_push_of_some _ e) (Nat.le_refl _) ⟨hget,_,hget⟩
  have sm2:Same H1 (upd H1 h'.objs.size (.frz fo (.own h'.objs.size))):=fun b u q=>by rw [z_n (z_g q hfr)];exact q
  exact h h'.objs.size c' fo _ _ I2 (sm.trans sm2) (I.hok.fresh hsz) z_d hcl (hcd.same sm2)
 rcases hc with hnf | ⟨c',oc,vs,tq,hf,hown,hd,hv⟩
 ·refine PySem.W.makeFunction_K hcl I.ok.glob hg hcode (L.hd.keeps I.bk) hPs ht hnf hgP hb fun c' ctv doc h' tk hx hge hlt hrec htb=>?_
  obtain ⟨c2,oc,vs,tq,z,h1,h2,h3⟩:=hrec
  cases z
  have I1:=I.grown (t':=tk) hP hx hge h1 h2 h3 htb (by rw [Array.toList_append];exact TriplesOk_snoc _ _ _ _ ht) (by rw [Array.toList_append];exact codeAmong_snoc _ ht hnf)
  exact push I1 (fun b u q=>by rw [z_n (z_g q (I.hok.fresh hge))];exact q) rfl (Nat.le_trans hge (Nat.le_of_lt hlt)) ⟨_,_,_,rfl⟩ ⟨oc,_,vs,tq,z_d,h2,h3⟩
 ·refine PySem.W.makeFunction_hit hcl I.ok.glob hg hcode (L.hd.keeps I.bk) hPs ht hf hb fun ctv doc h' tk hk hsz=>?_
  exact push (I.kept (t':=tk) hk) (Same.refl H) rfl hsz ⟨_,_,_,rfl⟩ ⟨oc,_,vs,tq,hown,hd,hv⟩
def tDefC(Pa:Addr)(pos:Pos)(name qual:Str)(params:Arguments)(body:List Stmt)(scope:Scope)(clos:List (Str×Addr))(j:Nat):TS:=fun D σ H=>H Pa=some (.tbl pos qual) /\
 ∀ (f c':Addr) (fo:Obj) (H':Hp),Same H H'->H f=none->H' f=some (.frz fo (.own f))->IsClo fo name qual params body scope clos c'->IsCd H' c' qual->D.nx (σ.set j (some (.ref f))) H'
theorem ps_defC{Pa c:Addr}{pos:Pos}{name qual:Str}{params:Arguments}{body:List Stmt}{scope:Scope}{clos:List (Str×Addr)}{j:Nat}(L:LamAt X.mg X.base c Pa)(hcode:X.env.code = .ref c)(hq:qualnameIn X.env name name=qual)(hcl:closureFor scope X.env=pure clos)
  (hdef:defaultsOf params X.env=([],[])) (hann:annotationsOf (params.args++params.posonlyargs++params.vararg.toList++params.kwonlyargs++params.kwarg.toList) X.env=[])
  (hN:X.N.Nodup) (hj:X.N[j]? = some name) (hx:Loc X.env.scope name) (hf:X.fn name=true\/X.env.scope.names.lookup name=some .local:=by first | exact .inl rfl | exact .inr rfl | assumption) :
  PS X (.FunctionDef name params body [] none [] scope none name pos) (tDefC Pa pos name qual params body scope clos j):=by
 intro pins s σ H D I h
 obtain ⟨hP,h⟩:=h
 rw [arm_exec_FunctionDef]
 unfold defStmt
 rw [hdef]
 show wpAny _ _ (evalAll [] >>= _) _ _ s
 refine wpAny_bind (wpAny_pure (wpAny_bind (wpAny_standAt (wpAny_bind ?_))))
 show wpAny _ _ (evalAll [] >>= _) _ _ s
 refine wpAny_bind (wpAny_pure ?_)
 show wpAny _ _ (evalAllOpt [] >>= _) _ _ s
 refine wpAny_bind (wpAny_pure ?_)
 refine wpAny_holding ?_
 show wpAny _ _ (evalNamed _ >>= fun ann=>makeFunction name (qualnameIn X.env name name) params (FuncBody.stmts body) scope X.env [] [] ann pos pos.line) _ _ s
 have e1:evalOpt none X.env=none:=by first | rfl | (unfold evalOpt;rfl) | simp [evalOpt]
 dsimp only
 rw [e1,hq]
 have e3:∀ l:List (Str×Sem Value),l=[]->wpAny (model X.prog X.w) X.A (evalNamed (l++(Option.map (fun x=>(Str.ofString "return",x)) (none:Option (Sem Value))).toList) >>= fun ann=>makeFunction name qual params (FuncBody.stmts body) scope X.env [] [] ann pos pos.line) (fun a s'=>wpAny (model X.prog X.w) X.A (decorate ([].zip (List.map (fun x=>x.pos) ([]:List Expr))).reverse a >>= fun f=>standAt pos >>= fun _=>bindName X.env name f >>= fun _=>pure Flow.next) (SP X pins D) X.xe s') X.xe s:=by
  rintro l rfl
  refine wpAny_bind (wpAny_pure (clo_make I L hcode hP hcl fun f c' fo H' s' I' sm hn hf' hc hcd=>?_))
  refine wpAny_bind (wpAny_pure (wpAny_bind (wpAny_standAt (wpAny_bind (wpAny_bindName (store_ok I' hN hj hx (v:=.ref f) rfl (fun s2 I2=>wpAny_pure ?_) hf))))))
  exact ⟨_,_,I2,h f c' fo H' sm hn hf' hc hcd⟩
 refine e3 _ ?_
 cases params
 exact hann
def tCallV(P:Program)(w:World)(K:PySem.W.Frag)(mg:Str->Option Value)(base:Heap)(A:Around)(i:Nat)(t:TA):TE:=fun σ H Q=>∃ f,σ[i]? = some (some (.ref f))/\∃ fo:Obj,(K.lookup f=some fo\/∃ u,H f=some (.frz fo u))/\(∃ fd,fo.data = .func fd) /\
 t σ H fun vs H1=>(K.lookup f=some fo\/∃ u,H1 f=some (.frz fo u))/\∃ k fd ps sp,FnOk P w K mg base CX0 k f fd ps sp/\Room k A/\Binds K fd ps []/\sp vs H1 Q E0
theorem pe_callV{i:Nat}{x:Str}{p pos:Pos}{e:Expr}{es:List Expr}{t:TA}(hN:X.N[i]? = some x)(hv:Vis X.env.scope x)(ha:PA X (e::es) t)(hd:(x == ("__debug__" : Str))=false:=by decide)(hcd:(x == ("__classdict__" : Str))=false:=by decide)
  (he:starEach (e::es) X.env=(false,eval e X.env)::starEach es X.env:=by rfl) (hpl:(backTo pos (starEach es X.env)).any (·.1)=false:=by rfl):PE X (.Call (.Name x p) (e::es) [] pos) (tCallV X.prog X.w X.K X.mg X.base X.A i t):=by
 intro pins s σ H Q I h
 obtain ⟨f,hσ,fo,h0,⟨fd0,hfd⟩,h⟩:=h
 have at_:∀ {H:Hp} {s:Shared},Inv X pins σ H s->(X.K.lookup f=some fo\/∃ u,H f=some (.frz fo u))->(PySem.W.Frag.In [(f,fo)] s.heap):=fun {H s} I h0=>by
  have hg:s.heap.get? f=some fo:=by
   rcases h0 with h0 | ⟨u,h0⟩
   ·exact I.kIn _ _ h0
   ·exact (I.hok f _ h0).1
  intro a o e
  rw [List.lookup_cons] at e
  cases c:(a == f) with
  | true =>
   rw [c] at e
   cases e
   rw [eq_of_beq c]
   exact hg
  | false=>rw [c] at e;cases e
 have hkeep:PySem.W.keepIn [(f,fo)] (.ref f)=true:=by
  obtain ⟨oc,od,dt,sl⟩:=fo
  have hfd':dt = .func fd0:=hfd
  subst hfd'
  unfold PySem.W.keepIn
  simp
 refine wpAny_Call_Name_kw (thn (pe_var hN hv hd hcd pins s σ H (fun v H'=>v = .ref f/\H'=H) I ⟨_,hσ,rfl,rfl⟩) fun u s1 ⟨v,H',I1,r,hv',hH⟩=>?_)
 subst hv' hH
 cases r
 refine PySem.W.callWith_K (K:=[(f,fo)]) (h₀:=s1.heap) (at_ I1 h0) hkeep (thn (ha pos pins s1 σ _ _ I1 h) fun us s2 ⟨vs,H1,I2,r,q⟩=>?_) he hpl
 obtain ⟨h2,k,fd,ps,sp,F,hr,hb,q⟩:=q
 exact ⟨at_ I2 h2,run_fn (dvs:=[]) (ds:=[]) F hr hb .nil pass0 I2 r (by rw [List.append_nil];exact q)⟩
end
def cloCx(P:Program)(w:World)(K:PySem.W.Frag)(mg:Str->Option Value)(base:Heap)(N:List Str)(qual:Str)(scope:Scope)(f:Addr)(cd:Value)(clos:List (Str×Addr))(A:Around)(outer:List Env)(s:Shared)(H:Hp):Cx where
 prog:=P
 w:=w
 K:=K
 mg:=mg
 base:=base
 A:=A.deeper (PySem.W.envX qual scope s.heap.objs.size f cd clos)
 N:=N
 s₀:=s
 H₀:=H
 env:=PySem.W.envX qual scope s.heap.objs.size f cd clos
 outer:=outer
 stack:=PySem.W.envX qual scope s.heap.objs.size f cd clos::outer
 ex:=[]
 calm:=true
 fn:=fun _=>false
 pn:=[]
 xe:=fun _ _=>False
def sp_clo(fo:Obj)(f c:Addr)(qual:Str)(y:V)(tb:TS):Sp:=fun vs H Q _=>∃ (v:V) (u:HO),vs=[v]/\H f=some (.frz fo u)/\IsCd H c qual/\tb { nx:=fun _ H'=>Q .non H',rt:=Q } [some y,some v] H
theorem clo_ok{P:Program}{w:World}{K:PySem.W.Frag}{mg:Str->Option Value}{base:Heap}{f c' cf:Addr}{fo oce:Obj}{name qual fr x:Str}{params:Arguments}{body:List Stmt}{scope:Scope}{tb:TS}{y:V}{uy:Value}
  (hce:base.get? cf=some oce) (hcv:oce.data = .cell (some uy)) (ry:RelV y uy) (hclo:IsClo fo name qual params body scope [(fr,cf)] c') (hsc:scope.names=[(x,.local),(fr,.free)]) (hne:(fr == x)=false) (hk:scope.kind = .function)
  (hco:scope.isCoroutine=false) (hgen:scope.isGenerator=false) (hbind:∀ doc pm ctv u,bindArgs (PySem.W.fnX name qual params body scope [(fr,cf)] .none .none doc pm none (.ref c') ctv) ⟨[u],[]⟩=pure [(x,u)])
  (hb:∀ A outer s H,PSs (cloCx P w K mg base [fr,x] qual scope f (.ref c') [(fr,cf)] A outer s H) body tb):∃ fd,FnOk P w K mg base CX0 1 f fd [x] (sp_clo fo f c' qual y tb)/\Binds K fd [x] []/\fo.data = .func fd:=by
 obtain ⟨doc,pm,ctv,rfl⟩:=hclo
 refine ⟨_,⟨?_,?_⟩,.all (fun us hl=>?_),rfl⟩
 ·rintro vs H Q E ⟨v,u,rfl,_⟩
  rfl
 ·intro A outer s H args us vs Q E hr e0 hbt r hsp
  obtain ⟨v,uo,rfl,hf,hcd,hq⟩:=hsp
  have ho:=(e0.hok f _ hf).1
  obtain ⟨oc,u2,ws,tq,c1,c2,c3⟩:=hcd
  have hcr:s.heap.CodeRec (.ref c') qual:=⟨c',oc,ws,tq,rfl,(e0.hok c' _ c1).1,c2,c3⟩
  cases r with
  | @cons _ u _ us ru rr =>
  cases rr
  have hdp:A.depth<recursionLimit:=by have:=hr.dp;lia
  refine codeAny_call_function hdp ho rfl hco hgen rfl hcr (hbt _ _ _ _ ?_)
  refine wpAny_newFunctionEnv (fun p hp=>?_) (fun p hp=>?_) (fun h₁ hns hsb=>?_) hk
  ·rw [show (PySem.W.fnX name qual params body scope [(fr,cf)] .none .none doc pm none (.ref c') ctv).scope=scope from rfl,hsc] at hp
   simp only [List.mem_cons,List.not_mem_nil,or_false] at hp
   rcases hp with rfl | rfl<;>nofun
  ·have hp':p=(x,u):=by simpa using hp
   subst hp'
   show scope.names.lookup x=_
   rw [hsc]
   simp
  have hk₁:∀ b o,s.heap.get? b=some o->h₁.get? b=some o:=fun b o e=>hsb.extBut b o (Nat.ne_of_lt (Heap.lt_size e)) (Heap.get?_push_of_some _ e)
  have lim:s.heap.NoLimit:=e0.mod.nolimit.keeps fun b o e=>(e0.bs b o e).1
  refine ⟨lim.keeps hk₁,codeAny_func ?_⟩
  show wpAny _ (A.deeper (PySem.W.envX qual scope s.heap.objs.size f (.ref c') [(fr,cf)])) (execs body (PySem.W.envX qual scope s.heap.objs.size f (.ref c') [(fr,cf)])) _ _ _
  have lk:∀ z:Str,scope.names.lookup z=some .cell\/scope.names.lookup z=some .free->z=fr:=fun z hz=>by
   rw [hsc] at hz
   simp only [List.lookup_cons,List.lookup_nil] at hz
   cases e1:(z == x) with
   | true=>rw [e1] at hz;simp at hz
   | false =>
    rw [e1] at hz
    cases e2:(z == fr) with
    | true=>exact eq_of_beq e2
    | false=>rw [e2] at hz;simp at hz
  have cl:∀ (z:Str) (c:Addr),([(fr,cf)]:List (Str×Addr)).lookup z=some c->z=fr/\c=cf:=fun z c hz=>by
   simp only [List.lookup_cons,List.lookup_nil] at hz
   cases e2:(z == fr) with
   | true=>rw [e2] at hz;exact ⟨eq_of_beq e2,(Option.some.inj hz).symm⟩
   | false=>rw [e2] at hz;cases hz
  have I1:Inv (cloCx P w K mg base [fr,x] qual scope f (.ref c') [(fr,cf)] A outer s H) [] [some y,some v] H { s with heap:=h₁,toks:=s.toks+([x].zip [u]).length }:=by
   have noA:∀ b:Addr,b∉(cloCx P w K mg base [fr,x] qual scope f (.ref c') [(fr,cf)] A outer s H).ex:=fun b z=>absurd (show b∈([]:List Addr) from z) (by simp)
   refine ⟨⟨e0.mod,hk,rfl,rfl,Nat.le_refl _,fun a b c h1 h2=>?_,fun a ha=>?_,fun a c h=>absurd (show false=true from h) (by simp),fun _=>hr.hd,Around.frames_deeper e0.frames,e0.gd,.inr ⟨rfl,rfl⟩,fun b z=>absurd z (noA b),e0.bs,e0.bsz,fun b _ _=>noA b,fun b z=>absurd z (noA b),e0.funs,e0.frf⟩,
    rfl,e0.bare,Un.kept hk₁,⟨_,hns,fun j z vz h1 h2 h3=>?_⟩,fun a c h=>?_,e0.hok.fresh (Nat.le_refl _),fun a c h=>?_,fun p hp=>absurd (show p∈([]:List (Addr×Obj)) from hp) (by simp),e0.hok.kept hk₁,rfl⟩
   ·exact ((cl a c h1).1).trans ((cl b c h2).1).symm
   ·have:=lk a ha
    subst this
    exact ⟨cf,by show ([(a,cf)]:List (Str×Addr)).lookup a=some cf;simp⟩
   ·rcases j with _ | _ | j
    ·cases h1
     cases h2
     refine ⟨uy,ry,.inr ⟨.inr ?_,cf,by show ([(fr,cf)]:List (Str×Addr)).lookup fr=some cf;simp,?_⟩⟩
     ·show scope.names.lookup fr=some .free
      rw [hsc]
      simp only [List.lookup_cons,List.lookup_nil,hne]
      simp
     ·exact ⟨oce,hk₁ _ _ (e0.bs _ _ hce).1,hcv⟩
    ·cases h1
     cases h2
     refine ⟨u,ru,.inl ⟨?_,by simp⟩⟩
     show scope.names.lookup x=some .local
     rw [hsc]
     simp
    ·cases h1
   ·obtain ⟨rfl,rfl⟩:=cl a c h
    exact ⟨_,oce,hk₁ _ _ (e0.bs _ _ hce).1,hcv⟩
   ·obtain ⟨rfl,rfl⟩:=cl a c h
    exact (e0.bs _ _ hce).2
  refine wpAny_mono (hb A outer s H [] _ _ _ _ I1 hq) (fun fl s' hs=>?_) fun _ _ z=>z.elim
  have fin:∀ {σ':St} {H':Hp} {v:V} {u:Value},Inv (cloCx P w K mg base [fr,x] qual scope f (.ref c') [(fr,cf)] A outer s H) [] σ' H' s'->RelV v u->Q v H'->CE outer P w H s Q u s' :=
   fun {σ' H' v u} J rv q=>⟨v,H',J.os,J.bare,J.base,J.hok,rv,q⟩
  cases fl with
  | ret u =>
   obtain ⟨v,σ',H',J,rv,q⟩:=hs
   exact fin J rv q
  | next =>
   obtain ⟨σ',H',J,q⟩:=hs
   exact fin (v:=V.non) (u:=Value.none) J rfl q
  | brk =>
   obtain ⟨_,_,_,q⟩:=hs
   exact False.elim q
  | cont =>
   obtain ⟨_,_,_,q⟩:=hs
   exact False.elim q
 ·cases us with
  | nil=>cases hl
  | cons u us =>
   cases us with
   | nil=>exact hbind doc pm ctv u
   | cons _ _=>cases hl
theorem fun_base{h base base':Heap}:∀ {l:List Env},h.FunFrames base l->(∀ b∈frs l,base'.get? b=none)->h.FunFrames base' l
 | [],_,_=>trivial
 | e::l,hf,hb=>by
  obtain ⟨k,⟨L,o,hf,_,ho,hd⟩,r⟩:=hf
  have hfr:frs (e::l)=L::frs l:=by
   show (e::l).filterMap (fun x=>x.frame)=_
   rw [List.filterMap_cons,hf]
   rfl
  rw [hfr] at hb
  exact ⟨k,⟨L,o,hf,hb L List.mem_cons_self,ho,hd⟩,fun_base r fun b hm=>hb b (List.mem_cons_of_mem _ hm)⟩
section
variable {X:Cx}
def tCallW(sp:Heap->Sp)(i:Nat)(cf:Addr)(t:TA):TE:=fun σ H Q=>t σ H fun vs H1=>∃ y,σ[i]? = some (some y)/\∀ (base':Heap) (oce:Obj) (uy:Value),base'.get? cf=some oce->oce.data = .cell (some uy)->RelV y uy->sp base' vs H1 Q E0
theorem pe_callW{sp:Heap->Sp}{i k:Nat}{f cf:Addr}{fd:FuncData}{ps:List Str}{fr x:Str}{p pos:Pos}{e:Expr}{es:List Expr}{t:TA}(F:∀ base':Heap,FnOk X.prog X.w X.K X.mg base' CX0 k f fd ps (sp base'))(hr:Room k X.A)(hg:Gl X x)(hm:X.mg x=some (.ref f))(hk:PySem.W.keepIn X.K (.ref f)=true)(hb:Binds X.K fd ps [])
  (hi:X.N[i]? = some fr) (hvis:X.env.scope.names.lookup fr=some .cell) (hce:X.env.cells.lookup fr=some cf) (ha:PA X (e::es) t) (hfn:X.fn fr=true:=by rfl) (hdb:(x == ("__debug__" : Str))=false:=by decide)
  (he:starEach (e::es) X.env=(false,eval e X.env)::starEach es X.env:=by rfl) (hpl:(backTo pos (starEach es X.env)).any (·.1)=false:=by rfl):PE X (.Call (.Name x p) (e::es) [] pos) (tCallW sp i cf t):=by
 intro pins s σ H Q I h
 refine wpAny_Call_Name_kw (ld_glob I hg hm ?_ hdb)
 refine PySem.W.callWith_K (h₀:=X.base) I.ok.mod.kin hk (thn (ha pos pins s σ H _ I h) fun us s1 ⟨vs,H1,I1,r,q⟩=>⟨I1.kIn,?_⟩) he hpl
 obtain ⟨y,hσ,q⟩:=q
 obtain ⟨uy,oce,ry,hoce,hcv⟩:∃ uy oce,RelV y uy/\s1.heap.get? cf=some oce/\oce.data = .cell (some uy):=by
  obtain ⟨m,_,hl⟩:=I1.loc
  obtain ⟨uy,ry,lo⟩:=hl i fr y hi hσ (.inr (.inl hvis))
  rcases lo with ⟨l1,_⟩ | ⟨_,c,l2,o,l3,l4⟩
  ·have l1':X.env.scope.names.lookup fr=some .local:=l1
   rw [hvis] at l1'
   cases l1'
  ·rw [hce] at l2
   cases l2
   exact ⟨uy,o,ry,l3,l4⟩
 obtain ⟨Hh,hH⟩:∃ Hh:Hp,∀ b,Hh b=none↔(X.base.get? b≠none\/b=cf):=by
  refine ⟨fun b=>if (X.base.get? b).isSome || b == cf then none else some (.lst []),fun b=>?_⟩
  cases e1:X.base.get? b with
  | some o=>simp [e1]
  | none =>
   by_cases e2:b=cf
   ·subst e2;simp
   ·simp [e1,e2]
 have bk':∀ b o,X.base.get? b=some o->(hidT s1.heap Hh).get? b=some o:=fun b o e=>hidT_get (I1.bk b o e) ((hH b).mpr (.inl (by rw [e];nofun)))
 have gcf:(hidT s1.heap Hh).get? cf=some oce:=hidT_get hoce ((hH cf).mpr (.inr rfl))
 have e1:=I1.env0
 have hM:Mod X.K X.mg (hidT s1.heap Hh):=⟨e1.mod.kin.keeps bk',e1.mod.glob.keeps bk',let ⟨mb,a,b⟩:=e1.mod.blt;⟨mb,a.keeps bk',b⟩,e1.mod.nolimit.keeps bk'⟩
 have hcf0:X.s₀.heap.objs.size<=cf:=I1.ok.cab fr cf hfn hce
 have hfrm:∀ b∈frs X.stack,b≠cf:=fun b hb' z=>by
  rcases I1.ok.stk with hs | ⟨hs,hl⟩
  ·rw [hs] at hb'
   obtain ⟨_,o,ho,_⟩:=I1.ok.funs.mem hb'
   have:=Heap.lt_size ho
   rw [z] at this
   exact absurd (Nat.lt_of_lt_of_le this hcf0) (Nat.lt_irrefl _)
  ·rw [hs] at hb'
   have hfr:frs (X.env::X.outer)=X.env.locals::frs X.outer:=by
    show (X.env::X.outer).filterMap (fun x=>x.frame)=_
    rw [List.filterMap_cons,hl]
    rfl
   rw [hfr] at hb'
   rcases List.mem_cons.mp hb' with hb' | hb'
   ·exact I1.cne fr cf hce (by rw [<-z,hb'])
   ·obtain ⟨_,o,ho,_⟩:=I1.ok.funs.mem hb'
    have:=Heap.lt_size ho
    rw [z] at this
    exact absurd (Nat.lt_of_lt_of_le this hcf0) (Nat.lt_irrefl _)
 have e0:Env0 X.prog X.w X.K X.mg (hidT s1.heap Hh) X.A X.stack s1 H1:=⟨e1.frames,e1.gd,hM,fun b o e=>by
   obtain ⟨h1,h2⟩:=of_hidT e
   refine ⟨h1,?_⟩
   rcases (hH b).mp h2 with h3 | h3
   ·cases e3:X.base.get? b with
    | none=>exact absurd e3 h3
    | some o'=>exact (e1.bs b o' e3).2
   ·rw [h3]
    exact I1.freeC fr cf hce,Nat.le_of_eq (hidT_size _ _),fun_base e1.funs fun b hb'=>by
   cases e3:(hidT s1.heap Hh).get? b with
   | none=>rfl
   | some o =>
    obtain ⟨h1,h2⟩:=of_hidT e3
    rcases (hH b).mp h2 with h3 | h3
    ·exact absurd (e1.funs.mem hb').1 h3
    ·exact absurd h3 (hfrm b hb'),e1.frf,e1.hok,e1.bare⟩
 have hl:us.length=ps.length:=by rw [<-r.length];exact (F _).len _ _ _ _ (q _ oce uy gcf hcv ry)
 have hb2:=hb s1 us I1.kIn (by rw [List.append_nil];exact hl)
 rw [List.append_nil] at hb2
 refine wpAny_call (codeAny_mono ((F _).run X.A X.stack s1 H1 ⟨us,[]⟩ us vs Q E0 hr e0 hb2 r (q _ oce uy gcf hcv ry)) fun r s' hq=>?_)
 cases r with
 | error e=>exact hq.elim
 | ok fl =>
  cases fl with
  | ret u=>exact I1.after hq
  | next=>exact False.elim hq
  | brk=>exact False.elim hq
  | cont=>exact False.elim hq
theorem pe_fnV{x:Str}{p:Pos}{f:Addr}(hg:Gl X x)(hm:X.mg x=some (.ref f))(hdb:(x == ("__debug__" : Str))=false:=by decide):PE X (.Name x p) (tC (.ref f)):=fun pins s σ H Q I h=>ld_glob I hg hm ⟨.ref f,H,I,rfl,h⟩ hdb
end
open PySem PySem.Spec PyProof.Rows
section
variable {X:Cx} {pins:List (Addr×Obj)} {σ:St} {H:Hp} {s:Shared} {h':Heap}
theorem Inv.turnedL{t':Nat}{ch:List Addr}(I:Inv X pins σ H s)(k:∀ b o,b∉ch->s.heap.get? b=some o->h'.get? b=some o)(hc:∀ b∈ch,FpOk X pins H b):Inv X pins σ H { s with heap:=h',toks:=t' }:=by
 have nit:∀ b u,H b=some u->b∉ch:=fun b u e z=>by have:=(hc b z).1;rw [this] at e;cases e
 refine I.step (g':=s.gens) (d':=s.drawn) (ch:=ch) (fun b hb=>?_) (fun b o _ _ hn e _=>k b o hn e) (fun b o _ _ hn e _=>⟨o.slots,k b o hn e⟩) (fun _ _ _ _ n=>n)
  (fun b o hn e=>⟨o,k b o hn e⟩) (fun _ _ e=>e) (fun _ _ _ e=>e) (fun _ _ _ e=>e) (fun m hm=>?_) (fun b u e=>?_) I.bare
 ·obtain ⟨_,f1,_,f3,f4,f5⟩:=hc b hb
  exact ⟨f3,f1,f4,f5⟩
 ·obtain ⟨o,es,ep,ho,r⟩:=hm
  exact ⟨o,es,ep,k _ o (fun z=>(hc _ z).2.1 rfl) ho,r⟩
 ·refine (I.hok b u e).stay (fun c v hn q=>k c v ?_ q) (fun _ q=>q) (fun _ _ q=>q) fun _ _ _ q=>q
  rcases hn with z | z
  ·rw [z];exact nit b u e
  ·exact nit c _ z
end
end L2
namespace L2
open PySem PySem.Spec PyProof.Rows
end L2
namespace L2
open PySem PySem.Spec PyProof.Rows
def rCatE:R2:=fun x y H Q=>∃ a b xs ys,x = .ref a/\y = .ref b/\H a=some (.tup xs)/\H b=some (.tup ys)/\xs.length+ys.length<=sizeLine/\∀ p H',Same H H'->H' p=some (.tup (xs++ys))->Q (.ref p) H'
theorem op_catE{X:Cx}:OpR X (binaryOp .Add) rCatE:=by
 intro pins s σ H x y v u Q I rx ry h
 obtain ⟨a,b,xs,ys,rfl,rfl,ha,hb,hz,q⟩:=h
 by_cases he:xs=[]
 ·subst he
  cases rx
  cases ry
  obtain ⟨its,r1,p1,_⟩:=I.tuple (SqT.of ha)
  obtain ⟨its2,r2,p2,_⟩:=I.tuple (SqT.of hb)
  cases r1
  obtain ⟨⟨cls,dd,data,sl⟩,ho,hc,n,hd⟩:=id p1
  obtain ⟨⟨cls2,dd2,data2,sl2⟩,ho2,hc2,n2,hd2⟩:=id p2
  simp only at hc hd hc2 hd2
  subst hc hd hc2 hd2
  exact concat_meets ⟨_,ho,rfl⟩ ⟨_,ho2,rfl⟩ noFill_tuple_add seq_tuple_add PySem.F.slot_tuple_add PySem.F.entry_tuple_add (PySem.F.args_tuple_add_2 _ _)
   (tuple_addW0 a b _ _ n n2 dd dd2 sl sl2 (by simp)) ⟨ho,ho2,⟨.ref b,H,I,rfl,q b H (Same.refl H) hb⟩⟩
 ·exact op_catT pins s σ H _ _ v u Q I rx ry ⟨a,b,xs,ys,rfl,rfl,SqT.of ha,SqT.of hb,he,hz,fun e=>q a H (Same.refl H) (by rw [e,List.append_nil];exact ha),fun _ p hp=>q p _ (z_h hp _) z_d⟩
end L2
namespace L2
open PySem
open PySem PySem.Spec PyProof.Rows
theorem ext_tup(D T:Addr)(xs ys:Array Value)(k j:Nat)(dd:Option Addr)(sl:Array (Option Value))(h0:¬(!xs.isEmpty&&Builtin.List.listTooLong (xs.size+ys.size))=true)(h1:xs.size<=sizeLine)(h2:xs.size+ys.size<=sizeLine+1) :
  Meets (Builtin.«list.extend» ⟨[.ref D,.ref T],[]⟩) (fun _ R s=>s.heap.get? D=some { cls:=.type "list",dict:=none,data:=.seq xs k,slots:=#[] }/\s.heap.get? T=some { cls:=.type "tuple",dict:=dd,data:=.seq ys j,slots:=sl } /\
   R (.ok (.ret Value.none)) { s with heap:=s.heap.update D (Obj.mapSeq fun x=>x++ys),toks:=s.toks }) :=
 .of_wp fun prog w A R s h=>by
  obtain ⟨hp,g,d,tk,os⟩:=s
  obtain ⟨hD,hT,h⟩:=h
  have f1:=AutoSeq1.idx_int
  have f2:=AutoSeq1.sub_tuple_tuple
  have f3:=AutoSeq1.sub_list_list
  have f4:=AutoSeq1.sub_tuple_list
  have f5:=AutoSeq1.sub_list_tuple
  have hz':(xs++ys).size<=sizeLine+1:=by rw [Array.size_append];exact h2
  wp_walk using (wpAny_updateSeq hD rfl (hz:=h1) (_hz':=hz')),wpAny_loadPart' hD,wpAny_loadPart' hT
  exact ⟨_,rfl,h⟩
def rExtendT:V->List V->Hp->VK->Prop:=fun x vs H Q=>∃ l b xs zs,x = .ref l/\vs=[.ref b]/\H l=some (.lst xs)/\H b=some (.tup zs)/\xs.length+zs.length<=sizeLine/\Q .non (upd H l (.lst (xs++zs)))
theorem mt_extendT{X:Cx}:MtM X "list.extend" rExtendT:=by
 intro pins s σ H x vs v us Q I rx rv h
 obtain ⟨l,b,xs,zs,rfl,rfl,hH,hB,hz,q⟩:=h
 cases rx
 obtain ⟨u,rfl,ru⟩:=rv.one
 cases ru
 obtain ⟨z,its,n,r,hl,e⟩:=I.lstM hH
 obtain ⟨its2,r2,p2,_⟩:=I.tuple (SqT.of hB)
 have hl2:=r2.length
 obtain ⟨⟨cls,dd,data,sl⟩,ho,hc,n2,hd⟩:=id p2
 simp only at hc hd
 subst hc hd
 have hsz:its.toArray.size+its2.toArray.size<=sizeLine:=by rw [List.size_toArray,List.size_toArray];lia
 have hlong:¬(!its.toArray.isEmpty&&Builtin.List.listTooLong (its.toArray.size+its2.toArray.size))=true:=by
  rw [notLongL hsz,Bool.and_false];exact Bool.false_ne_true
 refine call_meets PySem.F.slot_list_extend ⟨_,e,rfl⟩ PySem.F.entry_list_extend (PySem.F.args_list_extend_2 _ _)
  (ext_tup l b its.toArray its2.toArray n n2 dd sl hlong (by rw [List.size_toArray];lia) (by lia)) ⟨e,ho,?_⟩
 refine ⟨.non,_,I.lset (its':=its++its2) hH e (by simp) (r.append r2) ?_,rfl,q⟩
 rw [List.length_append];lia
end L2
namespace HT
open PySem PyProof.Rows
section
variable {prog:Program} {w:World} {A:Around} {s:Shared} {E:Value->Shared->Prop}
theorem getItem_tuple_whole{t sl:Addr}{items:Array Value}{vl vu:Value}{lo hi:Option Int}{Q:Value->Shared->Prop}(ht:IsTup s.heap t items)(hs:s.heap.IsSliceOf sl vl vu .none)(pl:IsPart vl lo)(pu:IsPart vu hi)
  (hw:sIx items.size 0 lo=0/\sIx items.size items.size hi=items.size) (h:Q (.ref t) s):wpAny (model prog w) A (getItem (.ref t) (.ref sl)) Q E s:=by
 obtain ⟨os,hos,hcs,hds⟩:=id hs
 have hTs:s.TypeIs (.ref sl) "slice" := ⟨os,hos,hcs⟩
 unfold getItem
 try with_reducible refine wpAny_holding ?_
 first | refine wpAny_bind (wpAny_pure ?_) | skip
 refine wpAny_bind (wpAny_sequenceKey ht.typeIs (by decide) ?_)
 refine wpAny_bind (wpAny_callSpecial?_slot (name:=Str.ofString "__getitem__") ht.typeIs PyProof.Rows.slot_tuple_getitem
  (wpAny_call_entry PyProof.Rows.slot_tuple_getitem ht.typeIs entry_tuple_getitem ?_ (args_tuple_getitem _ _)))
 show wpAny _ _ (Builtin.Tuple.tupleItemsOf (.ref t) >>= _) _ _ s
 refine wpAny_bind (tupleItemsOf_ ht ?_)
 refine wpAny_bind (wpAny_typeOf hTs ?_)
 rw [if_pos (by decide)]
 refine wpAny_bind (sliceApplied_gen hs pl pu ?_)
 have hyes:((((sIx items.size 0 lo:Nat):Int) == 0&&(1:Int) == 1&&(sIx items.size items.size hi-sIx items.size 0 lo) == items.size)=true):=by
  rw [hw.1,hw.2]
  simp
 show wpAny _ _ (if (((sIx items.size 0 lo:Nat):Int) == 0&&(1:Int) == 1&&(sIx items.size items.size hi-sIx items.size 0 lo) == items.size)=true then _ else _) _ _ s
 rw [if_pos hyes]
 refine wpAny_bind (m:=Builtin.Tuple.tupleIsExact _) (wpAny_bind (wpAny_typeOf ht.typeIs (wpAny_pure ?_)))
 rw [if_pos (by decide)]
 exact wpAny_bind (wpAny_rule (wpAny_pure ⟨_,rfl,wpAny_pure h⟩))
end
end HT
namespace L2
open PySem PySem.Spec PyProof.Rows
def rSlE:V->Option Int->Option Int->Hp->VK->Prop:=fun x lo hi H Q=>∃ a xs,x = .ref a/\H a=some (.tup xs)/\∀ p H',Same H H'->H' p=some (.tup (cutV xs lo hi))->Q (.ref p) H'
theorem sl_tupE{X:Cx}:SlR X rSlE:=by
 intro pins s σ H x v vl vu lo hi sl Q I rx hs pl pu h
 obtain ⟨a,xs,rfl,hx,q⟩:=h
 by_cases hw:HT.sIx xs.length 0 lo=0/\HT.sIx xs.length xs.length hi=xs.length
 ·cases rx
  obtain ⟨its,r,ht,hz⟩:=I.tuple (SqT.of hx)
  have hlen:its.toArray.size=xs.length:=by rw [List.size_toArray];exact r.length.symm
  refine ⟨"tuple",_,PyProof.Rows.slot_tuple_getitem.lookup,ht.typeIs,?_⟩
  refine HT.getItem_tuple_whole ht hs pl pu (by rw [hlen];exact hw) ?_
  refine ⟨.ref a,H,I,rfl,q a H (Same.refl H) ?_⟩
  have:cutV xs lo hi=xs:=by
   unfold cutV
   rw [hw.1,hw.2]
   simp
  rw [this]
  exact hx
 ·exact sl_tup pins s σ H _ v vl vu lo hi sl Q I rx hs pl pu ⟨a,xs,rfl,SqT.of hx,hw,fun p hp=>q p _ (z_h hp _) z_d⟩
open PySem
section
variable {prog:Program} {w:World} {K:Type} [DecidableEq K] {knd:KeyKind prog w K}
def Ext(h h':Heap):Prop:=∀ b o,h.get? b=some o->h'.get? b=some o
variable {A:Around} {E:Value->Shared->Prop} {s:Shared}
theorem takeD_snoc{α:Type}{ks:List α}{i:Nat}(d:α)(h:i<ks.length):ks.take (i+1)=ks.take i++[ks.getD i d]:=by
 rw [List.take_add_one,List.getElem?_eq_getElem h,List.getD_eq_getElem?_getD,List.getElem?_eq_getElem h]
 rfl
def mtSet(led:Bool):Obj:={ cls:=.type "set",dict:=none,data:=.set #[] 0 (.fresh 0 0 led) }
def withSet(s:Shared)(led:Bool):Shared:={ s with heap:=s.heap.push (mtSet led) }
theorem withSet_at(s:Shared)(led:Bool):(withSet s led).heap.get? s.heap.objs.size=some (mtSet led):=Heap.get?_push_size _ rfl
theorem withSet_old{s:Shared}{led:Bool}{b:Addr}{o:Obj}(e:s.heap.get? b=some o):(withSet s led).heap.get? b=some o:=Heap.get?_push_of_some _ e
theorem withSet_size(s:Shared)(led:Bool):(withSet s led).heap.objs.size=s.heap.objs.size+1:=Heap.size_push _ _
theorem none_past{h:Heap}{a:Addr}(q:h.objs.size<=a):h.get? a=none:=by
 cases e:h.get? a with
 | none=>rfl
 | some o=>exact absurd (Heap.lt_size e) (Nat.not_lt.mpr q)
end
end L2
namespace L2
open PySem PySem.Spec PyProof.Rows
end L2
namespace L2
open PySem PySem.Spec PyProof.Rows
section
variable {prog:Program} {w:World} {K:Type} [DecidableEq K] {knd:KeyKind prog w K} {A:Around} {E:Value->Shared->Prop} {s:Shared}
theorem setOf_moved{h h':Heap}{S:Addr}{n:Nat}{f:K->Bool}(x:Heap.SetOf knd h S f n)(e:∀ o,h.get? S=some o->h'.get? S=some o):Heap.SetOf knd h' S f n:=by
 obtain ⟨o,es,ep,t,ho,r⟩:=x
 exact ⟨o,es,ep,t,e _ ho,r⟩
theorem setOf_eq{h:Heap}{S:Addr}{n:Nat}{f g:K->Bool}(x:Heap.SetOf knd h S f n)(e:∀ k,f k=g k):Heap.SetOf knd h S g n:=by
 rw [<-funext e]
 exact x
end
def SAtT(a:Addr)(n:Nat)(h:Heap):Prop:=n<4000/\∃ o es ep t,h.get? a=some o/\o.ExactSet/\o.data = .set es ep t/\t.fits es.size=true/\es.size=n
def STO(a:Addr)(n:Nat):HO:=.ext (SAtT a n)
theorem satT_stay{a:Addr}{n:Nat}:∀ h1 h2:Heap,SAtT a n h1->(∀ o,h1.get? a=some o->h2.get? a=some o)->SAtT a n h2:=fun h1 h2 u k=>by
 obtain ⟨z,o,es,ep,t,e,q⟩:=u
 exact ⟨z,o,es,ep,t,k _ e,q⟩
def tLenT(xs:List V)(H:Hp)(Q:VK):Prop:=∃ (a:Addr) (n:Nat),xs=[.ref a]/\H a=some (STO a n)/\Q (.int n) H
theorem call_lenT2{X:Cx}:CallR X (.builtin "len") tLenT:=by
 intro pins s σ H xs us Q I r h
 obtain ⟨a,n,rfl,hp,q⟩:=h
 obtain ⟨u,rfl,ru⟩:=vals1 r
 cases ru
 obtain ⟨⟨z,o,es,ep,t,h1,h2,h3,h4,h5⟩,_⟩:=(show ObjOk X.prog X.w H s.heap a (STO a n) from I.hok a _ hp)
 refine Calls.call_function_entry kind_len plain_len entry_len (args_len1 _) (wpAny_len_body_set h1 h2 h3 h4 ?_ ?_)
 ·rw [h5]
  exact Int.lt_of_le_of_lt (Int.ofNat_le.mpr (Nat.le_of_lt z)) (by decide)
 ·exact ⟨.int n,H,(I.tok _).tok _,⟨_,by rw [h5]⟩,q⟩
end L2
namespace L2
open PySem PySem.Spec PyProof.Rows
section
variable {prog:Program} {w:World} {K:Type} [DecidableEq K] {knd:KeyKind prog w K} {A:Around} {E:Value->Shared->Prop} {s:Shared}
def ucn(ks:List K)(d0:K):Nat->Nat
 | 0=>0
 | i+1=>if ks.getD i d0∈ks.take i then ucn ks d0 i else ucn ks d0 i+1
theorem ucn_le(ks:List K)(d0:K):∀ i,ucn ks d0 i<=i
 | 0=>Nat.le_refl _
 | i+1=>by
  have:=ucn_le ks d0 i
  unfold ucn
  split<;>lia
theorem loopI{R:Result->Shared->Prop}{I:Addr}{fp wr:List Addr}{G:Array GenState->Array GenState->Prop}{n:Nat}{P:Nat->Value->Prop}{St:Nat->Shared->Prop}
  (W:WalksS prog w A.in1 I fp wr G n P St) (S:Addr) (far:S∉fp) (ks:List K) (d0:K) (hl:ks.length=n) (hn:n<4000) (h0:Heap)
  (ky:∀ i v,P i v->knd.is (ks.getD i d0) v=true/\v.scannable=true) (h0S:h0.get? S=none) (h0w:∀ b∈wr,h0.get? b=none) (uz:A.units+2<cLine) :
  ∀ (left i:Nat) (z:Shared),i+left=n->St i z->Ext h0 z.heap->Heap.SetOf knd z.heap S (fun k=>decide (k∈ks.take i)) (ucn ks d0 i) ->
   (∀ y,Moved (S::wr) G z y->Heap.SetOf knd y.heap S (fun k=>decide (k∈ks)) (ucn ks d0 n)->R (.ok (.ret .none)) y) ->
   codeAny (model prog w) A (.builtin "set.update.loop" ⟨[.ref S,.ref I],[]⟩) R z
 | 0,i,z,e,wi,ex,si,out=>by
  obtain rfl:i=n:=e
  have nw:S∉wr:=fun q=>far (W.sub S q)
  refine codeAny_builtin PyProof.Rows.F.entry_set_update_loop ?_
  rw [Around.under_plainId PyProof.Rows.F.plain_set_update_loop _]
  show wpAny _ A.in1 (pyNext (.ref I) >>= _) _ _ z
  refine wpAny_bind (W.done z _ _ wi fun y mv=>?_)
  rw [<-hl,List.take_length] at si
  rw [<-hl] at out
  exact wpAny_pure (out y (mv.mono fun b=>List.mem_cons_of_mem _) (setOf_moved si fun o q=>mv.heap S o nw q))
 | left+1,i,z,e,wi,ex,si,out=>by
  have nw:S∉wr:=fun q=>far (W.sub S q)
  have il:i<ks.length:=by lia
  refine codeAny_builtin PyProof.Rows.F.entry_set_update_loop ?_
  rw [Around.under_plainId PyProof.Rows.F.plain_set_update_loop _]
  show wpAny _ A.in1 (pyNext (.ref I) >>= _) _ _ z
  refine wpAny_bind (W.item i z _ _ (by lia) wi fun v y pv wj mv=>?_)
  obtain ⟨kb,sb⟩:=ky i v pv
  have sy:=setOf_moved si (h':=y.heap) fun o q=>mv.heap S o nw q
  have ey:Ext h0 y.heap:=fun c o q=>mv.heap c o (fun hc=>by rw [h0w c hc] at q;cases q) (ex c o q)
  show wpAny _ A.in1 (holding [v] (setAdd S v) >>= _) _ _ y
  refine wpAny_bind (wpAny_holding ?_)
  unfold setAdd
  refine wpAny_holding (wpAny_bind (knd.pyHash kb ?_))
  refine wpAny_setAddHashed_of (s:={ y with toks:=y.toks+1 }) kb sb sy (Nat.lt_trans (show ucn ks d0 i+1<4001 by have:=ucn_le ks d0 i;lia) (by decide)) fun hn' only sn=>?_
  have sn:Heap.SetOf knd hn' S (fun k=>decide (k∈ks.take (i+1))) (ucn ks d0 (i+1)):=by
   have eu:ucn ks d0 (i+1)=if decide (ks.getD i d0∈ks.take i)=true then ucn ks d0 i else ucn ks d0 i+1:=by
    show (if ks.getD i d0∈ks.take i then ucn ks d0 i else ucn ks d0 i+1)=_
    by_cases c:ks.getD i d0∈ks.take i
    ·rw [if_pos c,if_pos (decide_eq_true c)]
    ·rw [if_neg c,if_neg (fun h=>c (of_decide_eq_true h))]
   rw [eu]
   refine setOf_eq sn fun k=>?_
   rw [takeD_snoc d0 il]
   by_cases h1:k∈ks.take i
   ·simp [h1]
   ·by_cases h2:k=ks.getD i d0
    ·simp [h2]
    ·simp [h1,h2]
  have oth:∀ {c:Addr} {o:Obj},c≠S->y.heap.get? c=some o->hn'.get? c=some o:=fun {c o} nc q=>by rw [only.2 c nc];exact q
  refine wpAny_pure ⟨plainId_quiet PyProof.Rows.F.plain_set_update_loop _,loopI W S far ks d0 hl hn h0 ky h0S h0w uz left (i+1) _ (by lia) (W.frame _ y _ _ wj (Nat.le_add_right _ _) fun c hc o q=>oth (fun z=>far (z▸hc)) q) (fun c o q=>oth (fun z=>by rw [z,h0S] at q;cases q) (ey c o q)) sn fun x mx sx=>?_⟩
  exact out x (Moved.trans W.gtrans ((mv.mono fun b=>List.mem_cons_of_mem _).then_heap (Nat.le_add_right _ _) fun c o hc q=>oth (fun z=>hc (z▸List.mem_cons_self)) q) mx) sx
set_option maxHeartbeats 3200000 in
theorem fill_keyI{B:Around}{l:Addr}{items:Array Value}{ks:List K}{d0:K}{led:Bool}{F:Fin->Shared->Prop}(calm:B.handled=none)(uz:B.units+4<cLine)(at_l:s.heap.IsList l items)(same:ks.length=items.size)(few:items.size<4000)
  (ky:∀ i v,items[i]? = some v->knd.is (ks.getD i d0) v=true/\v.scannable=true)
  (out:∀ (h':Heap) (tk:Nat),s.toks<=tk->Heap.SetOf knd h' s.heap.objs.size (fun k=>decide (k∈ks)) (ucn ks d0 items.size)->Ext s.heap h'->F (.done (.ret .none)) { s with heap:=h',toks:=tk }) :
  wpAny (model prog w) B (Builtin.«set.__init__» ⟨[.ref s.heap.objs.size,.ref l],[]⟩) F E (withSet s led):=by
 have lt_l:l<s.heap.objs.size:=by obtain ⟨o,e,_⟩:=at_l;exact Heap.lt_size e
 have at_l1:(withSet s led).heap.IsList l items:=at_l.push _
 obtain ⟨⟨c,d,dt,sl⟩,e_l,e_c,n_l,e_d⟩:=at_l1
 have e_c:c = .type "list" := e_c
 have e_d:dt = .seq items n_l:=e_d
 subst e_c e_d
 have n1:=PySem.F.sub_list_set
 have n2:=PySem.F.sub_list_frozenset
 have n3:(Value.type "list" == Value.type "dict")=false:=by decide
 have e_S:=withSet_at s led
 unfold mtSet at e_S
 unfold Builtin.«set.__init__» noKeywords Builtin.Frozenset.updateFrom
 generalize eIt:pyIter=It
 wp_walk
 subst eIt
 have at_l1:(withSet s led).heap.IsList l items:=at_l.push _
 refine wpAny_pyIter_list at_l1 (wpAny_bind (wpAny_runValue ?_))
 have sz:=withSet_size s led
 have calm1:B.in1.handled=none:=by simp [calm]
 have l_it:l≠(withSet s led).heap.objs.size:=by rw [sz];exact Nat.ne_of_lt (Nat.lt_succ_of_lt lt_l)
 have far:s.heap.objs.size∉[(withSet s led).heap.objs.size,l]:=by
  rw [sz]
  simp only [List.mem_cons,List.not_mem_nil,or_false,not_or]
  exact ⟨Nat.ne_of_lt (Nat.lt_succ_self _),Nat.ne_of_gt lt_l⟩
 refine loopI (knd:=knd) (Walks.list calm1 _ l l_it items).toS s.heap.objs.size far ks d0 same few s.heap ky (none_past (Nat.le_refl _)) (fun b q=>?_) (by lia) items.size 0 _ (Nat.zero_add _) ⟨⟨_,Heap.get?_push_size _ rfl,rfl,rfl⟩,at_l1.push _⟩ (fun b o q=>Heap.get?_push_of_some _ (withSet_old q))
  ⟨mtSet led,#[],0,_,Heap.get?_push_of_some _ (withSet_at s led),⟨rfl,rfl,rfl⟩,rfl,(fun e q=>by simp at q),(fun k=>by simp),by decide,rfl,rfl⟩ fun y mv sy=>?_
 ·rw [List.mem_singleton.mp q,sz]
  exact none_past (Nat.le_succ _)
 ·have tk:=mv.toks
  have kp:Ext s.heap y.heap:=fun b o q=>by
   have lb:=Heap.lt_size q
   refine mv.heap b o ?_ (Heap.get?_push_of_some _ (withSet_old q))
   rw [sz]
   simp only [List.mem_cons,List.not_mem_nil,or_false,not_or]
   exact ⟨Nat.ne_of_lt lb,Nat.ne_of_lt (Nat.lt_succ_of_lt lb)⟩
  obtain ⟨hy,gy,dy,ty,oy⟩:=y
  cases (show gy=s.gens from mv.gens)
  cases (show dy=s.drawn from mv.drawn)
  cases (show oy=s.os from mv.os)
  exact wpAny_pure (wpAny_pure (out hy ty tk sy kp))
set_option maxHeartbeats 3200000 in
theorem call_set_keyI{l:Addr}{items:Array Value}{ks:List K}{d0:K}{Q:Value->Shared->Prop}(calm:A.handled=none)(uz:A.units+8<cLine)(at_l:s.heap.IsList l items)(same:ks.length=items.size)(few:items.size<4000)
  (ky:∀ i v,items[i]? = some v->knd.is (ks.getD i d0) v=true/\v.scannable=true)
  (out:∀ (h':Heap) (tk:Nat),s.toks<=tk->Heap.SetOf knd h' s.heap.objs.size (fun k=>decide (k∈ks)) (ucn ks d0 items.size)->Ext s.heap h'->Q (.ref s.heap.objs.size) { s with heap:=h',toks:=tk }) :
  wpAny (model prog w) A (call (.type "set") [.ref l]) Q E s:=by
 obtain ⟨c0,cs,m0⟩:=PySem.F.called_set.mro
 have m1:=PySem.F.called_set.made
 have m2:=PySem.F.called_set.sub
 have m3:=PySem.F.called_set.notType
 have m4:=PySem.F.called_set.canCreate
 have m5:=PySem.F.typeCall_set_1 (.ref l)
 refine wpAny_call (codeAny_of_tree (show wpAny _ _ (callAny (.type "set") _) _ _ _ from wpAny_pure ⟨Code.quiet_builtin _ (by decide +kernel),codeAny_builtin PySem.F.entry_type_call ?_⟩))
 rw [Around.under_plain (weight_type_call_type "set" [.ref l] []) rfl]
 repeat (any_goals (first | assumption | wp_step))
 refine codeAny_mono (code_set_new_1 (.ref l) (E:=E) (Q₁:=fun x z=>∃ led,x = .ref s.heap.objs.size/\z=withSet s led) fun led=>⟨led,rfl,rfl⟩) fun r z got=>?_
 match r,got with
 | .error _,got=>exact got
 | .ok (.ret _),⟨led,e1,e2⟩ =>
  subst e1 e2
  have ty:Shared.TypeIs (withSet s led) (.ref s.heap.objs.size) "set" := ⟨_,withSet_at s led,rfl⟩
  have m6:=PySem.F.called_set.init.lookup
  have m7:=PySem.F.called_set.init.bind (.ref s.heap.objs.size)
  repeat (any_goals (first | assumption | wp_step))
  refine codeAny_mono (codeAny_call_builtin (R:=wants (fun x y=>x = .none/\∃ h' tk,s.toks<=tk/\y={ s with heap:=h',toks:=tk }/\Heap.SetOf knd h' s.heap.objs.size (fun k=>decide (k∈ks)) (ucn ks d0 items.size)/\Ext s.heap h') E) PySem.F.called_set.init.plain PySem.F.entry_set_init
   (check_set_init_1 ty (fill_keyI (d0:=d0) (by simp [calm]) (show A.units+1+1+4<cLine by lia) at_l same few ky fun h' tk a b c=>⟨rfl,h',tk,a,rfl,b,c⟩))) fun r2 y got2=>?_
  match r2,got2 with
  | .error _,got2=>exact got2
  | .ok (.ret _),⟨e3,h',tk,a,e4,b,c⟩ =>
   subst e3 e4
   repeat (any_goals (first | assumption | wp_step))
   exact out h' tk a b c
end
def ucI(ks:List Int):Nat:=ucn (ks.map (Sum.inl:Int->Key)) (.inr "") ks.length
def tSetI(xs:List V)(H:Hp)(Q:VK):Prop:=∃ (p:Addr) (ks:List Int),xs=[.ref p]/\H p=some (.lst (ks.map V.int))/\ks.length<4000/\∀ a,H a=none->Q (.ref a) (upd H a (STO a (ucI ks)))
theorem vals_int:∀ {ks:List Int} {its:List Value},Vals (ks.map V.int) its->∀ (i:Nat) (v:Value),its[i]? = some v->∃ x,ks[i]? = some x/\RelV (.int x) v
 | [],_,h,i,v,hv=>by cases h;simp at hv
 | r::rs,_,h,i,v,hv=>by
  rw [List.map_cons] at h
  cases h with
  | cons h1 h2 =>
   cases i with
   | zero =>
    have e:=Option.some.inj hv
    subst e
    exact ⟨r,rfl,h1⟩
   | succ i=>exact vals_int h2 i v hv
theorem call_setI{X:Cx}(hc:X.calm=true)(hu:X.A.units+64<cLine):CallR X (.type "set") tSetI:=by
 intro pins s σ H xs us Q I r h
 obtain ⟨p,ks,rfl,hp,hl,q⟩:=h
 obtain ⟨u,rfl,ru⟩:=vals1 r
 cases ru
 obtain ⟨its,rv,pl,hz⟩:=I.list (SqL.of hp)
 have hlen:its.length=ks.length:=by rw [<-rv.length,List.length_map]
 refine call_set_keyI (knd:=mixKind X.prog X.w) (ks:=ks.map Sum.inl) (d0:=.inr "") (I.ok.hd hc) (by lia) pl.isList (by rw [List.size_toArray,hlen,List.length_map]) (by rw [List.size_toArray,hlen];exact hl) (fun i v hv=>?_) fun h' tk hto hS hk=>?_
 ·have hv':its[i]? = some v:=by simpa using hv
  obtain ⟨x,hx,hr⟩:=vals_int rv i v hv'
  obtain ⟨t,rfl⟩:=hr
  rw [List.getD_eq_getElem?_getD,List.getElem?_map,hx]
  exact ⟨kV_is (k:=.inl x) ⟨t,rfl⟩,rfl⟩
 ·have hsz:its.toArray.size=ks.length:=by rw [List.size_toArray,hlen]
  rw [hsz] at hS
  obtain ⟨o,es,ep,t,h1,h2,h3,_,_,_,h4,h5⟩:=hS
  have hle:=ucn_le (ks.map (Sum.inl:Int->Key)) (.inr "") ks.length
  exact ⟨.ref s.heap.objs.size,_,I.laid (a:=s.heap.objs.size) (o:=STO s.heap.objs.size (ucI ks)) hk (Nat.le_refl _) ⟨⟨Nat.lt_of_le_of_lt hle hl,o,es,ep,t,h1,h2,h3,h4,h5⟩,⟨o,h1⟩,satT_stay⟩,rfl,q _ (I.hok.fresh (Nat.le_refl _))⟩
def tSortI(xs:List V)(H:Hp)(Q:VK):Prop:=∃ (p:Addr) (ns:List Int),xs=[.ref p]/\H p=some (.lst (ns.map V.int))/\ns.length<64/\∀ (a:Addr) (ns':List Int),H a=none->ns'.Perm ns->ns'.Pairwise (· <= ·)->Q (.ref a) (upd H a (.lst (ns'.map V.int)))
theorem call_sortI{X:Cx}:CallR X (.builtin "sorted") tSortI:=by
 intro pins s σ H xs us Q I r h
 obtain ⟨p,ns,rfl,hp,hl,q⟩:=h
 obtain ⟨u,rfl,ru⟩:=vals1 r
 cases ru
 obtain ⟨its,rv,pl,hz⟩:=I.list (SqL.of hp)
 have hlen:its.length=ns.length:=by rw [<-rv.length,List.length_map]
 have hi:=intsAre_of rv
 refine PyProof.Rows.sorted_ints pl.isList hi (by lia) fun out ns' ha hpm hpw=>?_
 have hl':ns'.length=ns.length:=hpm.length_eq
 have rv':=vals_ints ha
 refine ⟨.ref (s.heap.objs.size+1),_,I.laid (a:=s.heap.objs.size+1) (o:=.lst (ns'.map V.int)) (t':=s.toks) (fun b u e=>PyProof.Rows.sortedAll_old e) (Nat.le_succ _) ⟨?_,?_⟩,rfl,q _ ns' (I.hok.fresh (Nat.le_succ _)) hpm hpw⟩
 ·rw [List.length_map]
  exact Nat.le_of_lt (y_n (by lia))
 ·obtain ⟨n,hn⟩:=PyProof.Rows.sortedAll_at s.heap its out
  refine ⟨out.toList,n,rv',?_⟩
  exact hn
def bt(X i:Nat):Nat:=X/2^i%2
theorem bt_lt(X i:Nat):bt X i<2:=Nat.mod_lt _ (by decide)
theorem bt_test(X i:Nat):bt X i=(X.testBit i).toNat:=by
 unfold bt
 rw [Nat.testBit_eq_decide_div_mod_eq]
 have h:=Nat.mod_lt (X/2^i) (show 0<2 by decide)
 generalize X/2^i%2=y at h
 match y,h with
 | 0,_=>rfl
 | 1,_=>rfl
theorem bt_xor(X Y i:Nat):bt (X^^^Y) i=if bt X i=bt Y i then 0 else 1:=by
 rw [bt_test,bt_test,bt_test,Nat.testBit_xor]
 cases X.testBit i<;>cases Y.testBit i<;>rfl
theorem bt_mod{w X i:Nat}(hi:i<w):bt (X%2^w) i=bt X i:=by
 rw [bt_test,bt_test,Nat.testBit_mod_two_pow,decide_eq_true hi]
 rfl
theorem bt_down(X k i:Nat):bt (X/2^k) i=bt X (k+i):=by
 unfold bt
 rw [Nat.div_div_eq_div_mul,<-Nat.pow_add]
theorem bt_up(X k i:Nat):bt (X*2^k) i=if i<k then 0 else bt X (i-k):=by
 unfold bt
 by_cases h:i<k
 ·rw [if_pos h]
  have e:2^k=2^i*(2*2^(k-i-1)):=by
   rw [<-Nat.mul_assoc,<-Nat.pow_succ,<-Nat.pow_add]
   congr 1
   lia
  rw [e,<-Nat.mul_assoc,Nat.mul_comm X,Nat.mul_assoc,Nat.mul_div_cancel_left _ (Nat.pow_pos (by decide))]
  rw [Nat.mul_left_comm]
  exact Nat.mul_mod_right _ _
 ·rw [if_neg h]
  have e:2^i=2^k*2^(i-k):=by rw [<-Nat.pow_add];congr 1;lia
  rw [e,<-Nat.div_div_eq_div_mul,Nat.mul_div_cancel _ (Nat.pow_pos (by decide))]
theorem bt_join{a X Y i:Nat}(h:X<2^a):bt (X+Y*2^a) i=if i<a then bt X i else bt Y (i-a):=by
 by_cases hi:i<a
 ·rw [if_pos hi,<-bt_mod hi,Nat.add_mul_mod_self_right,Nat.mod_eq_of_lt h]
 ·rw [if_neg hi]
  have e:bt (X+Y*2^a) i=bt ((X+Y*2^a)/2^a) (i-a):=by rw [bt_down];congr 1;lia
  rw [e,Nat.add_mul_div_right _ _ (Nat.pow_pos (by decide)),Nat.div_eq_of_lt h,Nat.zero_add]
open PySem PySem.Spec PyProof.Rows
end L2
namespace L2
open PySem PySem.Spec PyProof.Rows PySem.SeqAt MeetsSeq MeetsSeq2 MeetsSeq3
open AutoSeq1 (wpAny_loadPart')
end L2
namespace L2
open PySem PySem.Spec PyProof.Rows PySem.SeqAt MeetsSeq MeetsSeq2 MeetsSeq3
open AutoSeq1 (wpAny_loadPart')
open PySem PySem.Spec PyProof.Rows
def Low(m:Nat)(W:List Nat):Prop:=∀ v∈W,v<2^m
open PySem
theorem bt_ones{m r:Nat}(hr:r<m):bt (2^m-1) r=1:=by
 rw [bt_test,Nat.testBit_two_pow_sub_one,decide_eq_true hr]
 rfl
def onI(f:Int->Int):V->V
 | .int e=>.int (f e)
 | v=>v
def sdL(n:Nat):List Nat:=(List.range n).map fun k=>(((List.range (2^n)).filter fun s=>decide (bt s k=1)).map fun s=>2^s).sum
theorem sdL_len{n:Nat}:(sdL n).length=n:=by unfold sdL;simp
theorem sum_pow_range(m:Nat):((List.range m).map fun s=>2^s).sum=2^m-1:=by
 induction m with
 | zero=>rfl
 | succ m ih =>
  rw [List.range_succ,List.map_append,List.sum_append,ih]
  have:=Nat.one_le_two_pow (n:=m)
  simp only [List.map_cons,List.map_nil,List.sum_cons,List.sum_nil,Nat.pow_succ]
  lia
theorem range_two(n:Nat):List.range (2^(n+1))=List.range (2^n)++(List.range (2^n)).map (2^n + ·):=by
 rw [Nat.pow_succ,Nat.mul_two,List.range_add]
theorem bt_add{n k s:Nat}(h:k<n):bt (2^n+s) k=bt s k:=by
 unfold bt
 obtain ⟨d,rfl⟩:∃ d,n=k+1+d:=⟨n-(k+1),by lia⟩
 have e:2^(k+1+d)=2^k*(2*2^d):=by rw [Nat.pow_add,Nat.pow_add];simp [Nat.mul_assoc]
 rw [e,Nat.mul_add_div (Nat.two_pow_pos k),Nat.mul_add_mod]
theorem bt_below{n s:Nat}(h:s<2^n):bt s n=0:=by unfold bt;rw [Nat.div_eq_of_lt h]
theorem bt_top{n s:Nat}(h:s<2^n):bt (2^n+s) n=1:=by
 unfold bt
 rw [Nat.add_div_left _ (Nat.two_pow_pos n),Nat.div_eq_of_lt h]
theorem map_pow_add(m:Nat)(l:List Nat):(l.map fun s=>2^(m+s)).sum=2^m*(l.map fun s=>2^s).sum:=by
 induction l with
 | nil=>simp
 | cons a l ih =>
  rw [List.map_cons,List.sum_cons,ih,List.map_cons,List.sum_cons,Nat.pow_add,Nat.mul_add]
theorem sdL_succ(n:Nat):sdL (n+1)=(sdL n).map (fun x=>x*(2^2^n+1))++[(2^2^n-1)*2^2^n]:=by
 unfold sdL
 rw [List.range_succ,List.map_append,List.map_map,List.map_cons,List.map_nil]
 refine congr (congrArg _ (List.map_congr_left fun k hk=>?_)) (congrArg (· :: []) ?_)
 ·have hk':=List.mem_range.mp hk
  rw [range_two,List.filter_append,List.map_append,List.sum_append,List.filter_map,List.map_map]
  have e:((fun s=>decide (bt s k=1)) ∘ fun x=>2^n+x)=fun s=>decide (bt s k=1):=funext fun s=>by
   show decide (bt (2^n+s) k=1)=_
   rw [bt_add hk']
  rw [e]
  show _+(List.map (fun s=>2^(2^n+s)) _).sum=_*_
  rw [map_pow_add,Nat.mul_add,Nat.mul_one,Nat.mul_comm (2^2^n),Nat.add_comm]
 ·rw [range_two,List.filter_append,List.map_append,List.sum_append,List.filter_map,List.map_map]
  have e1:(List.range (2^n)).filter (fun s=>decide (bt s n=1))=[]:=List.filter_eq_nil_iff.mpr fun s hs=>by rw [bt_below (List.mem_range.mp hs)];decide
  have e2:(List.range (2^n)).filter ((fun s=>decide (bt s n=1)) ∘ fun x=>2^n+x)=List.range (2^n):=List.filter_eq_self.mpr fun s hs=>by
   show decide (bt (2^n+s) n=1)=true
   rw [bt_top (List.mem_range.mp hs)];decide
  rw [e1,e2]
  show 0+(List.map (fun s=>2^(2^n+s)) _).sum=_
  rw [map_pow_add,sum_pow_range,Nat.zero_add,Nat.mul_comm]
theorem ones_succ(n:Nat):(2^2^n-1)*(2^2^n+1)=2^2^(n+1)-1:=by
 have h:=Nat.one_le_two_pow (n:=2^n)
 rw [Nat.pow_succ 2 n,Nat.mul_two,Nat.pow_add,Nat.mul_add,Nat.mul_one,Nat.sub_mul,Nat.one_mul]
 generalize 2^2^n=x at h
 have:x<=x*x:=Nat.le_mul_of_pos_left x h
 lia
theorem sq_succ(n:Nat):2^2^n*2^2^n=2^2^(n+1):=by rw [<-Nat.pow_add,<-Nat.mul_two,<-Nat.pow_succ]
def sp_all_stands:Sp:=fun vs H Q _=>∃ n:Nat,vs=[.int (n:Int)]/\n<=6/\∀ p q H',H p=none->H q=none->Same H H'->H' p=some (.tup [.ref q,.int ((2^2^n-1:Nat):Int)])->H' q=some (.lst ((sdL n).map fun x=>.int ((x:Nat):Int)))->Q (.ref p) H'
theorem nodup_len{α:Type}[DecidableEq α]:∀ {xs ys:List α},xs.Nodup->(∀ x∈xs,x∈ys)->xs.length<=ys.length
 | [],_,_,_=>Nat.zero_le _
 | x::xs,ys,h,hs=>by
  have hx:=hs x List.mem_cons_self
  have h1:=nodup_len (xs:=xs) (ys:=ys.erase x) (List.nodup_cons.mp h).2 fun y hy=>(List.mem_erase_of_ne (show y≠x from fun e=>(List.nodup_cons.mp h).1 (by rw [<-e];exact hy))).mpr (hs y (List.mem_cons_of_mem _ hy))
  have h2:=List.length_erase_of_mem hx
  have h3:0<ys.length:=List.length_pos_of_mem hx
  rw [List.length_cons]
  lia
theorem sdL_low:∀ n:Nat,Low (2^n) (sdL n)
 | 0=>fun v hv=>by have:sdL 0=[]:=rfl;rw [this] at hv;cases hv
 | n+1=>fun v hv=>by
  have e:=sq_succ n
  have e1:=ones_succ n
  have hp:=Nat.one_le_two_pow (n:=2^n)
  rw [sdL_succ] at hv
  rw [<-e]
  rcases List.mem_append.mp hv with h | h
  ·obtain ⟨x,hx,rfl⟩:=List.mem_map.mp h
   have hl:=sdL_low n x hx
   have:x*(2^2^n+1)<=(2^2^n-1)*(2^2^n+1):=Nat.mul_le_mul_right _ (by lia)
   rw [e] at *
   have:=Nat.one_le_two_pow (n:=2^(n+1))
   lia
  ·rw [List.mem_singleton.mp h]
   exact Nat.mul_lt_mul_of_pos_right (by lia) (by lia)
def rwB(n r:Nat):List Nat:=(List.range n).map (bt r)
theorem lane_sdL':∀ (n r:Nat),r<2^n->(sdL n).map (bt · r)=rwB n r
 | 0,r,_=>rfl
 | n+1,r,h=>by
  have hp:2^(n+1)=2^n+2^n:=by rw [Nat.pow_succ];lia
  have hlow:=sdL_low n
  unfold rwB
  rw [sdL_succ,List.map_append,List.range_succ,List.map_append]
  by_cases c:r<2^n
  ·have ih:=lane_sdL' n r c
   unfold rwB at ih
   rw [<-ih,List.map_map]
   refine congr (congrArg _ (List.map_congr_left fun x hx=>?_)) ?_
   ·show bt (x*(2^2^n+1)) r=bt x r
    rw [show x*(2^2^n+1)=x+x*2^2^n by rw [Nat.mul_add];lia,bt_join (hlow x hx),if_pos c]
   ·show [bt ((2^2^n-1)*2^2^n) r]=[bt r n]
    rw [bt_up,if_pos c,bt_below c]
  ·obtain ⟨q,rfl⟩:∃ q,r=2^n+q:=⟨r-2^n,by lia⟩
   have hq:q<2^n:=by lia
   have ih:=lane_sdL' n q hq
   unfold rwB at ih
   have e:(List.range n).map (bt (2^n+q))=(List.range n).map (bt q):=List.map_congr_left fun k hk=>bt_add (List.mem_range.mp hk)
   rw [e,<-ih,List.map_map]
   refine congr (congrArg _ (List.map_congr_left fun x hx=>?_)) ?_
   ·show bt (x*(2^2^n+1)) (2^n+q)=bt x q
    rw [show x*(2^2^n+1)=x+x*2^2^n by rw [Nat.mul_add];lia,bt_join (hlow x hx),if_neg c,Nat.add_sub_cancel_left]
   ·show [bt ((2^2^n-1)*2^2^n) (2^n+q)]=[bt (2^n+q) n]
    rw [bt_up,if_neg c,Nat.add_sub_cancel_left,bt_ones hq,bt_top hq]
theorem bt_zero'(r:Nat):bt 0 r=0:=by unfold bt;rw [Nat.zero_div]
theorem bt_andN'(X Y r:Nat):bt (X&&&Y) r=bt X r&&&bt Y r:=by
 rw [bt_test,bt_test,bt_test,Nat.testBit_and]
 cases X.testBit r<;>cases Y.testBit r<;>rfl
theorem bt_tb'{x y r:Nat}:bt x r=bt y r↔x.testBit r=y.testBit r:=by
 rw [bt_test,bt_test]
 cases x.testBit r<;>cases y.testBit r<;>simp
theorem bt_ext{m x y:Nat}(hx:x<2^m)(hy:y<2^m)(h:∀ r,r<m->bt x r=bt y r):x=y:=by
 refine Nat.eq_of_testBit_eq fun r=>?_
 by_cases c:r<m
 ·exact bt_tb'.mp (h r c)
 ·have hp:2^m<=2^r:=Nat.pow_le_pow_right (by decide) (by lia)
  rw [Nat.testBit_lt_two_pow (by lia),Nat.testBit_lt_two_pow (by lia)]
section
variable {X:Cx}
theorem eqU_at{x:V}:∀ {xs:List V} {us:List Value},Vals xs us->xs.all flatV=true->∀ m (hm:m<us.length) y,xs[m]? = some y->eqU x us[m]=eqV y x
 | _,_,.nil,_,m,hm,_,_=>absurd hm (Nat.not_lt_zero _)
 | a::xs,u::us,.cons r t,f,0,_,y,hy=>by
  rw [List.all_cons,Bool.and_eq_true] at f
  cases hy
  exact eqU_of r f.1
 | a::xs,u::us,.cons r t,f,m+1,hm,y,hy=>by
  rw [List.all_cons,Bool.and_eq_true] at f
  exact eqU_at t f.2 m (Nat.lt_of_succ_lt_succ hm) y hy
def rIndex:V->List V->Hp->VK->Prop:=fun x vs H Q=>∃ (l:Addr) (ns:List Nat) (k j:Nat),x = .ref l/\vs=[.int (k:Int)]/\H l=some (.lst (ns.map fun n:Nat=>V.int (n:Int)))/\ns.length<=100000/\ns[j]? = some k/\(∀ m,m<j->ns[m]? ≠ some k)/\Q (.int (j:Int)) H
theorem mt_index:MtM X "list.index" rIndex:=by
 intro pins s σ H x vs v us Q I rx rv h
 obtain ⟨l,ns,k,j,rfl,rfl,hH,hn,hj,hno,q⟩:=h
 cases rx
 obtain ⟨u,rfl,ru⟩:=rv.one
 obtain ⟨z,its,n,r,hl,e⟩:=I.lstM hH
 have fl:(ns.map fun n:Nat=>V.int (n:Int)).all flatV=true:=by
  rw [List.all_eq_true]
  intro y hy
  obtain ⟨a,_,rfl⟩:=List.mem_map.mp hy
  rfl
 rw [List.length_map] at hl
 have hjl:=(List.getElem?_eq_some_iff.mp hj).1
 have at_:∀ m (hm:m<its.length) (a:Nat),ns[m]? = some a->eqU (.int (k:Int)) its[m]=decide (a=k):=fun m hm a ha=>by
  rw [eqU_at r fl m hm (.int (a:Int)) (by rw [List.getElem?_map,ha];rfl)]
  show decide ((a:Int)=(k:Int))=decide (a=k)
  exact decide_eq_decide.mpr (by lia)
 refine call_meets F.slot_list_index ⟨_,e,rfl⟩ F.entry_list_index (F.args_list_index_2 _ _) (PySem.SeqAt.list_indexAt l its.toArray n none #[] u (eqU (.int (k:Int))) j (by rw [List.size_toArray];lia) (by lia) ?_ ?_) ⟨e,fun y hy=>mem_eqAt ru rfl r fl y (by simpa using hy),?_⟩
 ·rw [List.getElem_toArray,at_ j (by lia) k hj,decide_eq_true rfl]
 ·intro m hm hmj
  rw [List.size_toArray] at hm
  rw [List.getElem_toArray,at_ m hm ns[m] (List.getElem?_eq_getElem (by lia))]
  exact decide_eq_false fun c=>hno m hmj (by rw [List.getElem?_eq_getElem (by lia),c])
 ·exact ⟨.int (j:Int),H,I.tok _,⟨_,rfl⟩,q⟩
end
end L2
namespace L2
open PySem
end L2
namespace L2
open PySem
def bothO:Option Nat->Option Nat->Option Nat
 | some x,some y=>some (x&&&y)
 | _,_=>none
def rhsV(giv:Nat->Option Nat)(L:Nat)(gs:List (Nat×Nat))(hi:Nat)(V:Nat->Option Nat)(e:Nat):Option Nat :=
 match giv e with
 | some w=>some w
 | none=>if L<e/2 then (if e%2=1 then (V (e-1)).map (hi ^^^ ·) else match gs[e/2-L-1]? with
  | some p=>bothO (V p.1) (V p.2)
  | none=>none) else none
def GtO(L:Nat)(gs:List (Nat×Nat)):Prop:=∀ (k:Nat) (p:Nat×Nat),gs[k]? = some p->p.1<2*(1+L+k)/\p.2<2*(1+L+k)
def fvF(giv:Nat->Option Nat)(L:Nat)(gs:List (Nat×Nat))(hi:Nat):Nat->Nat->Option Nat
 | 0,_=>none
 | k+1,e=>rhsV giv L gs hi (fvF giv L gs hi k) e
section
variable {giv:Nat->Option Nat} {L:Nat} {gs:List (Nat×Nat)} {hi:Nat}
theorem rhs_congr(hg:GtO L gs){V V':Nat->Option Nat}{e:Nat}(h:∀ d,d<e->V d=V' d):rhsV giv L gs hi V e=rhsV giv L gs hi V' e:=by
 unfold rhsV
 cases giv e with
 | some w=>rfl
 | none =>
  by_cases c:L<e/2
  ·simp only [if_pos c]
   by_cases d:e%2=1
   ·simp only [if_pos d]
    rw [h (e-1) (by lia)]
   ·simp only [if_neg d]
    cases hq:gs[e/2-L-1]? with
    | none=>rfl
    | some p =>
     obtain ⟨h1,h2⟩:=hg _ _ hq
     show bothO (V p.1) (V p.2)=bothO (V' p.1) (V' p.2)
     rw [h p.1 (by lia),h p.2 (by lia)]
  ·simp only [if_neg c]
theorem fv_stay(hg:GtO L gs):∀ {k e:Nat},e<k->fvF giv L gs hi k e=fvF giv L gs hi (e+1) e
 | 0,e,h=>absurd h (Nat.not_lt_zero _)
 | k+1,e,h=>by
  show rhsV giv L gs hi (fvF giv L gs hi k) e=rhsV giv L gs hi (fvF giv L gs hi e) e
  exact rhs_congr hg fun d hd=>by
   rw [fv_stay hg (show d<k by lia),fv_stay hg (show d<e from hd)]
def gvW(giv:Nat->Option Nat)(L:Nat)(gs:List (Nat×Nat))(hi e:Nat):Option Nat:=fvF giv L gs hi (e+1) e
theorem gvW_eq(hg:GtO L gs)(e:Nat):gvW giv L gs hi e=rhsV giv L gs hi (gvW giv L gs hi) e:=by
 show rhsV giv L gs hi (fvF giv L gs hi e) e=_
 exact rhs_congr hg fun d hd=>fv_stay hg hd
theorem gvW_giv(hg:GtO L gs){e w:Nat}(h:giv e=some w):gvW giv L gs hi e=some w:=by
 rw [gvW_eq hg]
 unfold rhsV
 rw [h]
theorem gvW_low(hg:GtO L gs){e:Nat}(h:giv e=none)(hl:¬L<e/2):gvW giv L gs hi e=none:=by
 rw [gvW_eq hg]
 unfold rhsV
 rw [h]
 simp only [if_neg hl]
theorem gvW_odd(hg:GtO L gs){e:Nat}(h:giv e=none)(hl:L<e/2)(ho:e%2=1):gvW giv L gs hi e=(gvW giv L gs hi (e-1)).map (hi ^^^ ·):=by
 rw [gvW_eq hg]
 unfold rhsV
 rw [h]
 simp only [if_pos hl,if_pos ho]
theorem gvW_even(hg:GtO L gs){e:Nat}{p:Nat×Nat}(h:giv e=none)(hl:L<e/2)(ho:¬e%2=1)(hp:gs[e/2-L-1]? = some p):gvW giv L gs hi e=bothO (gvW giv L gs hi p.1) (gvW giv L gs hi p.2):=by
 rw [gvW_eq hg]
 unfold rhsV
 rw [h]
 simp only [if_pos hl,if_neg ho,hp]
theorem gvW_lane(hg:GtO L gs){r m:Nat}(hr:r<m)(hh:hi=2^m-1)(hlow:∀ e w,giv e=some w->w<2^m):∀ e,(∀ w,gvW giv L gs hi e=some w->w<2^m)/\gvW (fun e=>(giv e).map (bt · r)) L gs 1 e=(gvW giv L gs hi e).map (bt · r):=by
 intro e
 induction e using Nat.strongRecOn with
 | ind e ih =>
  cases hgv:giv e with
  | some w =>
   have hgr:(fun e=>(giv e).map (bt · r)) e=some (bt w r):=by show (giv e).map _=_;rw [hgv];rfl
   rw [gvW_giv hg hgv,gvW_giv hg hgr]
   exact ⟨fun w' h=>by cases h;exact hlow e w hgv,rfl⟩
  | none =>
   have hgr:(fun e=>(giv e).map (bt · r)) e=none:=by show (giv e).map _=_;rw [hgv];rfl
   by_cases c:L<e/2
   ·by_cases d:e%2=1
    ·rw [gvW_odd hg hgv c d,gvW_odd hg hgr c d]
     obtain ⟨i1,i2⟩:=ih (e-1) (by lia)
     rw [i2]
     cases hv:gvW giv L gs hi (e-1) with
     | none=>exact ⟨(fun w h=>by cases h),rfl⟩
     | some w =>
      have hw:=i1 w hv
      refine ⟨fun w' h=>?_,?_⟩
      ·cases h
       rw [hh]
       exact Nat.xor_lt_two_pow (by have:=Nat.one_le_two_pow (n:=m);lia) hw
      ·show some (1^^^bt w r)=some (bt (hi^^^w) r)
       congr 1
       rw [bt_xor,hh,bt_ones hr]
       have:=bt_lt w r
       rcases (show bt w r=0\/bt w r=1 by lia) with h | h<;>rw [h]<;>rfl
    ·cases hp:gs[e/2-L-1]? with
     | none =>
      have n1:∀ giv' hi',giv' e=none->gvW giv' L gs hi' e=none:=fun giv' hi' h=>by
       rw [gvW_eq hg]
       unfold rhsV
       rw [h]
       simp only [if_pos c,if_neg d,hp]
      rw [n1 _ _ hgv,n1 _ _ hgr]
      exact ⟨(fun w h=>by cases h),rfl⟩
     | some p =>
      obtain ⟨h1,h2⟩:=hg _ _ hp
      rw [gvW_even hg hgv c d hp,gvW_even hg hgr c d hp]
      obtain ⟨i1,i2⟩:=ih p.1 (by lia)
      obtain ⟨j1,j2⟩:=ih p.2 (by lia)
      rw [i2,j2]
      cases hv:gvW giv L gs hi p.1 with
      | none=>exact ⟨(fun w h=>by cases h),rfl⟩
      | some x =>
       cases hv2:gvW giv L gs hi p.2 with
       | none=>exact ⟨(fun w h=>by cases h),rfl⟩
       | some y =>
        refine ⟨fun w h=>?_,?_⟩
        ·cases h
         exact Nat.lt_of_le_of_lt Nat.and_le_left (i1 x hv)
        ·show some (bt x r&&&bt y r)=some (bt (x&&&y) r)
         rw [bt_andN']
   ·rw [gvW_low hg hgv c,gvW_low hg hgr c]
    exact ⟨(fun w h=>by cases h),rfl⟩
end
def oV:Option Nat->V
 | none=>.non
 | some w=>.int (w:Int)
def hiW(m:Nat):Nat:=2^2^m-1
def gkL(R:Nat->Nat)(hi:Nat)(zs:List (Nat×Nat)):List (Nat×Nat):=(0,0)::(1,hi)::zs.flatMap fun p=>[(R p.1,p.2),(R p.1^^^1,hi^^^p.2)]
def lkN(E:List (Nat×Nat))(x:Nat):Option Nat:=(E.find? fun p=>decide (p.1=x)).map Prod.snd
def Dst(R:Nat->Nat)(ls:List Nat):Prop:=(∀ e∈ls,R e/2≠0)/\(ls.map fun e=>R e/2).Nodup
instance (R:Nat->Nat) (ls:List Nat):Decidable (Dst R ls):=inferInstanceAs (Decidable (_/\_))
def givS(R:Nat->Nat)(ls:List Nat)(e:Nat):Option Nat:=lkN (gkL R (hiW ls.length) (ls.zip (sdL ls.length))) (R e)
def valS(R:Nat->Nat)(L:Nat)(gs:List (Nat×Nat))(ls:List Nat)(e:Nat):Option Nat:=gvW (givS R ls) L gs (hiW ls.length) e
def goodS(R:Nat->Nat)(L:Nat)(gs:List (Nat×Nat))(a b:Nat)(ls:List Nat):Bool:=decide (ls.length<=6/\Dst R ls/\valS R L gs ls a≠none/\valS R L gs ls a=valS R L gs ls b)
theorem lkN_mem{E:List (Nat×Nat)}{x w:Nat}(h:lkN E x=some w):(x,w)∈E:=by
 unfold lkN at h
 obtain ⟨p,hp,rfl⟩:=Option.map_eq_some_iff.mp h
 have h1:=List.mem_of_find?_eq_some hp
 have h2:p.1=x:=by have:=List.find?_some hp;simpa using this
 subst h2
 exact h1
theorem lkN_none{E:List (Nat×Nat)}{x:Nat}:lkN E x=none↔∀ p∈E,p.1≠x:=by
 unfold lkN
 rw [Option.map_eq_none_iff,List.find?_eq_none]
 simp
theorem lkN_snoc(E:List (Nat×Nat))(p:Nat×Nat)(x:Nat):lkN (E++[p]) x=match lkN E x with | some w=>some w | none=>if p.1=x then some p.2 else none:=by
 unfold lkN
 rw [List.find?_append]
 cases E.find? fun p=>decide (p.1=x) with
 | some q=>rfl
 | none =>
  rw [Option.none_or,List.find?_cons]
  by_cases e:p.1=x
  ·simp [e]
  ·simp [e]
theorem gkL_snoc(R:Nat->Nat)(hi:Nat)(zs:List (Nat×Nat))(p:Nat×Nat):gkL R hi (zs++[p])=gkL R hi zs++[(R p.1,p.2)]++[(R p.1^^^1,hi^^^p.2)]:=by
 unfold gkL
 rw [List.flatMap_append]
 simp
theorem xor1(x:Nat):(x^^^1)/2=x/2/\x^^^1≠x/\(x^^^1)^^^1=x:=by
 refine ⟨y_z x,cx_ne x,cx_cx x⟩
theorem dst_new{R:Nat->Nat}{hi:Nat}{ls ws:List Nat}(hd:Dst R ls)(hl:ws.length=ls.length){i x:Nat}(hx:ls[i]? = some x):∀ y,y/2=R x/2->lkN (gkL R hi ((ls.zip ws).take i)) y=none:=by
 intro y hy
 have h0:=hd.1 x (List.mem_of_getElem? hx)
 refine lkN_none.mpr fun p hp e=>?_
 unfold gkL at hp
 rcases List.mem_cons.mp hp with rfl | hp
 ·have:(0:Nat)=y:=e
  lia
 rcases List.mem_cons.mp hp with rfl | hp
 ·have:(1:Nat)=y:=e
  lia
 ·obtain ⟨q,hq,hp⟩:=List.mem_flatMap.mp hp
  obtain ⟨j,hj,rfl⟩:=List.getElem_of_mem hq
  rw [List.length_take] at hj
  have hj':j<(ls.zip ws).length:=by lia
  rw [List.length_zip] at hj'
  rw [List.getElem_take,List.getElem_zip] at hp
  have hk:p.1/2=R ls[j]/2:=by
   simp only [List.mem_cons,List.not_mem_nil,or_false] at hp
   rcases hp with rfl | rfl
   ·rfl
   ·exact (xor1 _).1
  have hii:=(List.getElem?_eq_some_iff.mp hx).1
  have nd:=hd.2
  have e1:(ls.map fun e=>R e/2)[j]? = some (R x/2):=by
   rw [List.getElem?_map,List.getElem?_eq_getElem (by lia)]
   show some (R ls[j]/2)=_
   rw [<-hk,e,hy]
  have e2:(ls.map fun e=>R e/2)[i]? = some (R x/2):=by rw [List.getElem?_map,hx];rfl
  have:=(List.getElem?_inj (by rw [List.length_map];lia) nd).mp (e1.trans e2.symm)
  lia
def gI(gs:List (Nat×Nat)):List (Int×Int):=gs.map fun p=>((p.1:Int),(p.2:Int))
def belN(L:Nat)(gs:List (Nat×Nat))(e:Nat):List Nat:=if e%2=1 then [e-1] else match gs[e/2-L-1]? with
 | some p=>[p.1,p.2]
 | none=>[]
def sp_below:Sp:=fun vs H Q _=>∃ (net g:Addr) (rs:List Addr) (L:Nat) (gs:List (Nat×Nat)) (e:Nat),vs=[.ref net,.int (e:Int)]/\IsNet H net g rs (L:Int) (gI gs)/\L<e/2/\e/2<1+L+gs.length/\gs.length<=100/\∀ t H',Same H H'->H' t=some (.tup (natsV (belN L gs e)))->Q (.ref t) H'
def sp_both:Sp:=fun vs H Q _=>∃ x y:Option Nat,vs=[oV x,oV y]/\Q (oV (bothO x y)) H
def sp_tur(hi:Nat)(fo:Obj)(f c:Addr)(qual:Str):Sp:=fun vs H Q _=>∃ (x:Option Nat) (u:HO),vs=[oV x]/\H f=some (.frz fo u)/\IsCd H c qual/\Q (oV (x.map (hi ^^^ ·))) H
structure FnsA(P:Program)(w:World)(K:PySem.W.Frag)(mg:Str->Option Value)(base:Heap)(H:Hp)(hi:Nat)(f ab c:Addr)(fo ofb:Obj)(qual:Str)(fdt fdb:FuncData):Prop where
 ft:∃ u,H f=some (.frz fo u)
 dt:fo.data = .func fdt
 cd:IsCd H c qual
 Ft:FnOk P w K mg base CX0 1 f fdt ["bits"] (sp_tur hi fo f c qual)
 Bt:Binds K fdt ["bits"] []
 lb:K.lookup ab=some ofb
 db:ofb.data = .func fdb
 Fb:FnOk P w K mg base CX0 1 ab fdb ["one", "other"] sp_both
 Bb:Binds K fdb ["one", "other"] []
def sp_found(C:Addr)(P:Program)(w:World)(K:PySem.W.Frag)(mg:Str->Option Value)(base:Heap):Sp:=fun vs H Q _=>∃ (net g o l gd et f ab c:Addr) (rs:List Addr) (L n hi a b:Nat) (gs:List (Nat×Nat)) (R:Nat->Nat) (kvs:List (Key×V)) (gv:Nat->Option Nat) (fo ofb:Obj) (qual:Str) (fdt fdb:FuncData),
 vs=[.ref net,.ref o,.ref gd,.ref et,.ref f,.ref ab]/\IsNet H net g rs (L:Int) (gI gs)/\GtO L gs/\n=1+L+gs.length/\n<=30/\ClsAt C H o l n R/\H gd=some (.dK kvs)/\(∀ x:Nat,valV kvs (.inl (x:Int))=(gv x).map fun w:Nat=>V.int (w:Int))/\H et=some (.tup [.int (a:Int),.int (b:Int)])/\a<2*n/\b<2*n/\g≠l/\FnsA P w K mg base H hi f ab c fo ofb qual fdt fdb /\
 ∀ p H',H p=none->Ch l H H'->ClsAt C H' o l n R->H' p=some (.lst [oV (gvW (fun e=>gv (R e)) L gs hi a),oV (gvW (fun e=>gv (R e)) L gs hi b)])->Q (.ref p) H'
structure StpA(C:Addr)(H:Hp)(net g o l st lt:Addr)(rs:List Addr)(L n a b:Nat)(gs:List (Nat×Nat))(R:Nat->Nat)(ls:List Nat):Prop where
 net:IsNet H net g rs (L:Int) (gI gs)
 gt:GtO L gs
 hn:n=1+L+gs.length
 n30:n<=30
 cls:ClsAt C H o l n R
 st:H st=some (.tup [.str "stands",.int (a:Int),.int (b:Int),.ref lt])
 lt:H lt=some (.tup (natsV ls))
 ha:a<2*n
 hb:b<2*n
 hl:∀ e∈ls,e<2*n
 l7:ls.length<=7
 gl:g≠l
def sp_bits(C tp:Addr)(lp:Pos)(lq:Str):Sp:=fun vs H Q _=>∃ (net g o l st lt:Addr) (rs:List Addr) (L n a b:Nat) (gs:List (Nat×Nat)) (R:Nat->Nat) (ls:List Nat),vs=[.ref net,.ref o,.ref st]/\StpA C H net g o l st lt rs L n a b gs R ls/\ls.length<=6/\Dst R ls/\H tp=some (.tbl lp lq) /\
 ∀ p H',Ch l H H'->ClsAt C H' o l n R->H' p=some (.lst [oV (valS R L gs ls a),oV (valS R L gs ls b)])->Q (.ref p) H'
def sp_step(C:Addr):Sp:=fun vs H Q _=>∃ (net g o l st lt:Addr) (rs:List Addr) (L n a b:Nat) (gs:List (Nat×Nat)) (R:Nat->Nat) (ls:List Nat),vs=[.ref net,.ref o,.ref st]/\StpA C H net g o l st lt rs L n a b gs R ls/\∀ H',Ch l H H'->ClsAt C H' o l n R->Q (.bl (decide (ls.length<=6/\Dst R ls))) H'
def sp_goodS(C tp:Addr)(lp:Pos)(lq:Str):Sp:=fun vs H Q _=>∃ (net g o l st lt:Addr) (rs:List Addr) (L n a b:Nat) (gs:List (Nat×Nat)) (R:Nat->Nat) (ls:List Nat),vs=[.ref net,.ref o,.ref st]/\StpA C H net g o l st lt rs L n a b gs R ls/\H tp=some (.tbl lp lq) /\
 ∀ H',Ch l H H'->ClsAt C H' o l n R->Q (.bl (goodS R L gs a b ls)) H'
section
variable {X:Cx} {a:Addr} {kvs:List (Str×V)}
theorem op_notIn_top(D:TopD X.w X.K a kvs):OpR X (compareOp .NotIn) (fun x y H Q=>∃ z,x = .str z/\y = .ref a/\Q (.bl (!(kvs.lookup z).isSome)) H):=by
 intro pins s σ H x y v u Q I rx ry h
 obtain ⟨z,rfl,rfl,q⟩:=h
 obtain ⟨t,rfl⟩:=rx
 cases ry
 obtain ⟨es,n,h1,h2,h3⟩:=D.find z
 refine wpAny_notIn_of (PySem.strKind_is _ _ z t) D.lo (PySem.W.mapOf_K (prog:=X.prog) I.kIn h1 h2) ?_
 have e:(kvs.lookup z).isSome=(findBy Value.isStrOf es z).isSome:=h3.isSome_eq
 rw [<-e]
 exact ⟨.bl _,H,I.tok _,rfl,q⟩
end
def FdI(kvs:List (Key×V))(S:List Nat)(F:Nat->Option Nat)(m:Nat):Prop:=kvs.length<=m/\∀ e:Nat,valV kvs (.inl (e:Int))=if e∈S then some (oV (F e)) else none
theorem FdI.nil{F:Nat->Option Nat}:FdI [] [] F 0:=⟨Nat.le_refl _,fun e=>by rw [if_neg (List.not_mem_nil)];rfl⟩
theorem FdI.new{kvs:List (Key×V)}{S:List Nat}{F:Nat->Option Nat}{m e:Nat}(h:FdI kvs S F m):FdI (putK kvs (.inl (e:Int)) (oV (F e))) (S++[e]) F (m+1):=by
 refine ⟨Nat.le_trans (x_a _ _ _) (Nat.succ_le_succ h.1),fun d=>?_⟩
 rw [valV_put,h.2 d]
 by_cases c:d=e
 ·subst c
  rw [if_pos rfl,if_pos (List.mem_append_right _ (List.mem_singleton.mpr rfl))]
 ·rw [if_neg (inl_ne c)]
  by_cases q:d∈S
  ·rw [if_pos q,if_pos (List.mem_append_left _ q)]
  ·rw [if_neg q,if_neg (fun w=>(List.mem_append.mp w).elim q fun w=>c (List.mem_singleton.mp w))]
theorem FdI.set{kvs:List (Key×V)}{S:List Nat}{F F':Nat->Option Nat}{m e:Nat}(h:FdI kvs S F m)(he:e∈S)(hF:∀ d∈S,d≠e->F d=F' d):FdI (putK kvs (.inl (e:Int)) (oV (F' e))) S F' (m+1):=by
 refine ⟨Nat.le_trans (x_a _ _ _) (Nat.succ_le_succ h.1),fun d=>?_⟩
 rw [valV_put,h.2 d]
 by_cases c:d=e
 ·subst c
  rw [if_pos rfl,if_pos he]
 ·rw [if_neg (inl_ne c)]
  by_cases q:d∈S
  ·rw [if_pos q,if_pos q,hF d q c]
  ·rw [if_neg q,if_neg q]
theorem FdI.congr{kvs:List (Key×V)}{S:List Nat}{F F':Nat->Option Nat}{m:Nat}(h:FdI kvs S F m)(hF:∀ d∈S,F d=F' d):FdI kvs S F' m:=⟨h.1,fun e=>by
 rw [h.2 e]
 by_cases q:e∈S
 ·rw [if_pos q,if_pos q,hF e q]
 ·rw [if_neg q,if_neg q]⟩
theorem Ch.fr{l a:Addr}{H J:Hp}{o:HO}(c:Ch l H J)(h:H a=none):Ch l H (upd J a o):=fun b u n e=>by
 rw [z_n (z_g e h)]
 exact c b u n e
theorem ClsAt.up{C o l a:Addr}{J:Hp}{n:Nat}{R:Nat->Nat}(c:ClsAt C J o l n R)(n1:o≠a)(n2:l≠a)(x:HO):ClsAt C (upd J a x) o l n R:=by
 obtain ⟨⟨dx,h1⟩,L,h2,u,h3⟩:=c
 exact ⟨⟨dx,by rw [z_n n1];exact h1⟩,L,by rw [z_n n2];exact h2,u,h3⟩
theorem ClsAt.lst{C o l:Addr}{J:Hp}{n:Nat}{R:Nat->Nat}(c:ClsAt C J o l n R):(∃ L,J l=some (.lst (natsV L)))/\∃ x,J o=some x:=by
 obtain ⟨⟨dx,h1⟩,L,h2,u,h3⟩:=c
 exact ⟨⟨L,h2⟩,_,h1⟩
theorem tup_nel{H:Hp}{a l:Addr}{xs ys:List V}(h:H a=some (.tup xs))(hl:H l=some (.lst ys)):a≠l:=fun e=>by rw [e,hl] at h;cases h
theorem IsNet.chl{H J:Hp}{net g l:Addr}{rs:List Addr}{n:Int}{ps:List (Int×Int)}{ys:List V}(h:IsNet H net g rs n ps)(c:Ch l H J)(ngl:g≠l)(hl:H l=some (.lst ys)):IsNet J net g rs n ps :=
 ⟨c _ _ (tup_nel h.p hl) h.p,c _ _ ngl h.g.1,pairedMono (fun r p e=>c _ _ (tup_nel e hl) e) h.g.2⟩
theorem natsV_cast(L:List Nat):natsV L=(L.map fun k:Nat=>(k:Int)).map V.int:=by unfold natsV;rw [List.map_map];rfl
theorem sort_nat{ns:List Int}{gs:List Nat}(h:ns.Perm (gs.map fun k:Nat=>(k:Int)))(hp:ns.Pairwise (· <= ·)):∃ sg:List Nat,ns=sg.map (fun k:Nat=>(k:Int))/\sg.Perm gs/\sg.Pairwise (· <= ·):=by
 have e:ns=(ns.map Int.toNat).map fun k:Nat=>(k:Int):=by
  rw [List.map_map]
  refine (List.map_id ns).symm.trans (List.map_congr_left fun x hx=>?_)
  obtain ⟨k,_,rfl⟩:=List.mem_map.mp (h.mem_iff.mp hx)
  show ((k:Nat):Int)=(((k:Nat):Int).toNat:Int)
  lia
 refine ⟨ns.map Int.toNat,e,?_,?_⟩
 ·have:=h.map Int.toNat
  rw [List.map_map] at this
  refine this.trans ?_
  have e2:gs.map (Int.toNat ∘ fun k:Nat=>(k:Int))=gs:=(List.map_congr_left fun x _=>show ((x:Nat):Int).toNat=x by lia).trans (List.map_id gs)
  rw [e2]
 ·exact List.pairwise_map.mpr (hp.imp fun h=>Int.toNat_le_toNat h)
theorem nd_bound{S:List Nat}{n:Nat}(nd:S.Nodup)(h:∀ e∈S,e<n):S.length<=n:=by
 have:=nodup_len nd (ys:=List.range n) fun x hx=>List.mem_range.mpr (h x hx)
 rwa [List.length_range] at this
theorem last_ex{α:Type}{l:List α}(h:l≠[]):∃ i x,l=i++[x]:=⟨l.dropLast,l.getLast h,(List.dropLast_concat_getLast h).symm⟩
structure FndI(giv:Nat->Option Nat)(L n a b:Nat)(gs:List (Nat×Nat))(S gts wt:List Nat):Prop where
 nd:S.Nodup
 hs:∀ e∈S,e<2*n
 hw:∀ e∈wt,e<2*n
 gn:gts.Nodup
 gi:∀ e,e∈gts↔e∈S/\giv e=none/\L<e/2
 cl:∀ e∈gts,∀ d∈belN L gs e,d∈S\/d∈wt
 ca:a∈S\/a∈wt
 cb:b∈S\/b∈wt
 wl:wt.length<=2+2*S.length
section
variable {giv:Nat->Option Nat} {L n a b:Nat} {gs:List (Nat×Nat)} {S gts wt:List Nat} {e:Nat}
theorem bel_lt(hG:GtO L gs)(hn:n=1+L+gs.length)(he:e<2*n)(hl:L<e/2):(∀ d∈belN L gs e,d<e)/\(belN L gs e).length<=2:=by
 unfold belN
 by_cases c:e%2=1
 ·rw [if_pos c]
  exact ⟨(fun d hd=>by rw [List.mem_singleton.mp hd];lia),Nat.le_succ _⟩
 ·rw [if_neg c]
  cases hp:gs[e/2-L-1]? with
  | none=>exact ⟨(fun d hd=>nomatch hd),Nat.zero_le _⟩
  | some p =>
   obtain ⟨h1,h2⟩:=hG _ _ hp
   refine ⟨fun d hd=>?_,Nat.le_refl _⟩
   have hd':d=p.1\/d=p.2:=by simpa using hd
   rcases hd' with rfl | rfl<;>lia
theorem FndI.old(h:FndI giv L n a b gs S gts (wt++[e]))(he:e∈S):FndI giv L n a b gs S gts wt:=by
 have sub:∀ d,d∈S\/d∈wt++[e]->d∈S\/d∈wt:=fun d hd=>by
  rcases hd with hd | hd
  ·exact .inl hd
  ·rcases List.mem_append.mp hd with hd | hd
   ·exact .inr hd
   ·rw [List.mem_singleton.mp hd];exact .inl he
 have hl:=h.wl
 rw [List.length_append] at hl
 exact ⟨h.nd,h.hs,fun d hd=>h.hw d (List.mem_append_left _ hd),h.gn,h.gi,fun x hx d hd=>sub d (h.cl x hx d hd),sub a h.ca,sub b h.cb,by lia⟩
theorem FndI.plain(h:FndI giv L n a b gs S gts (wt++[e]))(he:e∉S)(hg:¬(giv e=none/\L<e/2)):FndI giv L n a b gs (S++[e]) gts wt:=by
 have sub:∀ d,d∈S\/d∈wt++[e]->d∈S++[e]\/d∈wt:=fun d hd=>by
  rcases hd with hd | hd
  ·exact .inl (List.mem_append_left _ hd)
  ·rcases List.mem_append.mp hd with hd | hd
   ·exact .inr hd
   ·exact .inl (List.mem_append_right _ hd)
 have hl:=h.wl
 rw [List.length_append] at hl
 refine ⟨List.pairwise_append.mpr ⟨h.nd,List.pairwise_singleton _ _,fun x hx y hy z=>he (by rw [<-List.mem_singleton.mp hy,<-z];exact hx)⟩,fun d hd=>?_,fun d hd=>h.hw d (List.mem_append_left _ hd),h.gn,fun x=>?_,fun x hx d hd=>sub d (h.cl x hx d hd),sub a h.ca,sub b h.cb,by rw [List.length_append];lia⟩
 ·rcases List.mem_append.mp hd with hd | hd
  ·exact h.hs d hd
  ·exact h.hw d (List.mem_append_right _ hd)
 ·rw [h.gi x]
  constructor
  ·exact fun q=>⟨List.mem_append_left _ q.1,q.2⟩
  ·rintro ⟨q1,q2⟩
   refine ⟨?_,q2⟩
   rcases List.mem_append.mp q1 with q | q
   ·exact q
   ·rw [List.mem_singleton.mp q] at q2
    exact absurd q2 hg
theorem FndI.gate(h:FndI giv L n a b gs S gts (wt++[e]))(hG:GtO L gs)(hn:n=1+L+gs.length)(he:e∉S)(hg:giv e=none)(hl:L<e/2):FndI giv L n a b gs (S++[e]) (gts++[e]) (wt++belN L gs e):=by
 have he2:=h.hw e (List.mem_append_right _ (List.mem_singleton.mpr rfl))
 obtain ⟨hb1,hb2⟩:=bel_lt hG hn he2 hl
 have sub:∀ d,d∈S\/d∈wt++[e]->d∈S++[e]\/d∈wt++belN L gs e:=fun d hd=>by
  rcases hd with hd | hd
  ·exact .inl (List.mem_append_left _ hd)
  ·rcases List.mem_append.mp hd with hd | hd
   ·exact .inr (List.mem_append_left _ hd)
   ·exact .inl (List.mem_append_right _ hd)
 have hlw:=h.wl
 rw [List.length_append] at hlw
 have hge:e∉gts:=fun q=>he ((h.gi e).mp q).1
 refine ⟨List.pairwise_append.mpr ⟨h.nd,List.pairwise_singleton _ _,fun x hx y hy z=>he (by rw [<-List.mem_singleton.mp hy,<-z];exact hx)⟩,fun d hd=>?_,fun d hd=>?_,List.pairwise_append.mpr ⟨h.gn,List.pairwise_singleton _ _,fun x hx y hy z=>hge (by rw [<-List.mem_singleton.mp hy,<-z];exact hx)⟩,fun x=>?_,fun x hx d hd=>?_,sub a h.ca,sub b h.cb,by rw [List.length_append,List.length_append];have:[e].length=1:=rfl;lia⟩
 ·rcases List.mem_append.mp hd with hd | hd
  ·exact h.hs d hd
  ·rw [List.mem_singleton.mp hd];exact he2
 ·rcases List.mem_append.mp hd with hd | hd
  ·exact h.hw d (List.mem_append_left _ hd)
  ·exact Nat.lt_trans (hb1 d hd) he2
 ·rw [List.mem_append,List.mem_append,List.mem_singleton,h.gi x]
  constructor
  ·rintro (⟨q1,q2⟩ | rfl)
   ·exact ⟨.inl q1,q2⟩
   ·exact ⟨.inr rfl,hg,hl⟩
  ·rintro ⟨q1,q2⟩
   rcases q1 with q1 | q1
   ·exact .inl ⟨q1,q2⟩
   ·exact .inr q1
 ·rcases List.mem_append.mp hx with hx | hx
  ·exact sub d (h.cl x hx d hd)
  ·rw [List.mem_singleton.mp hx] at hd
   exact .inr (List.mem_append_right _ hd)
end
theorem sorted_before{sg:List Nat}(h:sg.Pairwise (· <= ·)){i e d:Nat}(he:sg[i]? = some e)(hd:d∈sg)(lt:d<e):d∈sg.take i:=by
 obtain ⟨j,hj⟩:=List.getElem?_of_mem hd
 have hi:=(List.getElem?_eq_some_iff.mp he).1
 have hjl:=(List.getElem?_eq_some_iff.mp hj).1
 have e1:sg[i]=e:=(List.getElem?_eq_some_iff.mp he).2
 have e2:sg[j]=d:=(List.getElem?_eq_some_iff.mp hj).2
 have hji:j<i:=by
  by_cases c:j<i
  ·exact c
  ·exfalso
   by_cases c2:i=j
   ·subst c2
    lia
   ·have:=List.pairwise_iff_getElem.mp h i j hi hjl (by lia)
    lia
 exact List.mem_take_iff_getElem.mpr ⟨j,by lia,e2⟩
theorem take_not{sg:List Nat}(nd:sg.Nodup){i e:Nat}(he:sg[i]? = some e):e∉sg.take i:=fun h=>by
 obtain ⟨j,hj,e2⟩:=List.mem_take_iff_getElem.mp h
 have hi:=(List.getElem?_eq_some_iff.mp he).1
 have:=(List.getElem?_inj (show j<sg.length by lia) nd).mp ((List.getElem?_eq_some_iff.mpr ⟨by lia,e2⟩:sg[j]? = some e).trans he.symm)
 lia
theorem oV_get(o:Option Nat):((o.map fun w:Nat=>V.int (w:Int)).getD .non)=oV o:=by cases o<;>rfl
def DkI(kvs:List (Key×V))(E:List (Nat×Nat))(m:Nat):Prop:=kvs.length<=m/\∀ x:Nat,valV kvs (.inl (x:Int))=(lkN E x).map fun w:Nat=>V.int (w:Int)
theorem DkI.new{kvs:List (Key×V)}{E:List (Nat×Nat)}{m k w:Nat}(h:DkI kvs E m)(hn:lkN E k=none):DkI (putK kvs (.inl (k:Int)) (.int (w:Int))) (E++[(k,w)]) (m+1):=by
 refine ⟨Nat.le_trans (x_a _ _ _) (Nat.succ_le_succ h.1),fun x=>?_⟩
 rw [valV_put,h.2 x,lkN_snoc]
 by_cases c:x=k
 ·subst c
  rw [if_pos rfl,hn]
  simp
 ·rw [if_neg (inl_ne c)]
  cases lkN E x with
  | some w=>rfl
  | none=>simp [Ne.symm c]
theorem DkI.two{hi:Nat}:DkI (mergeK [] [((.inl ((0:Nat):Int):Key),V.int ((0:Nat):Int)),(.inl ((1:Nat):Int),.int (hi:Int))]) [(0,0),(1,hi)] 2:=by
 refine ⟨?_,fun x=>?_⟩
 ·have e:mergeK [] [((.inl ((0:Nat):Int):Key),V.int ((0:Nat):Int)),(.inl ((1:Nat):Int),.int (hi:Int))]=putK (putK [] (.inl ((0:Nat):Int)) (.int ((0:Nat):Int))) (.inl ((1:Nat):Int)) (.int (hi:Int)):=rfl
  rw [e]
  exact Nat.le_trans (x_a _ _ _) (Nat.succ_le_succ (Nat.le_trans (x_a _ _ _) (Nat.le_refl _)))
 ·rw [two_get]
  unfold lkN
  by_cases c:x=1
  ·subst c;rfl
  ·by_cases d:x=0
   ·subst d;rfl
   ·rw [if_neg c,if_neg d]
    simp [List.find?_cons,Ne.symm c,Ne.symm d]
theorem inV_nats(z:Nat):∀ ws:List Nat,inV (V.int (z:Int)) (natsV ws)=decide (z∈ws)
 | []=>rfl
 | a::ws=>by
  have ih:=inV_nats z ws
  unfold inV at ih ⊢
  show (eqV (.int (a:Int)) (.int (z:Int)) || (natsV ws).any fun y=>eqV y (.int (z:Int)))=_
  rw [ih]
  by_cases h:a=z
  ·subst h
   simp [eqV]
  ·have h':¬z=a:=fun e=>h e.symm
   have h2:¬(a:Int)=(z:Int):=by lia
   simp [eqV,h',h2]
theorem flat_nats:∀ ws:List Nat,(natsV ws).all flatV=true
 | []=>rfl
 | a::ws=>by
  show (true&&(natsV ws).all flatV)=true
  rw [flat_nats ws]
  rfl
theorem ucn_iff{K:Type}[DecidableEq K]{ks:List K}{d0:K}:∀ {i:Nat},i<=ks.length->(ucn ks d0 i=i↔(ks.take i).Nodup)
 | 0,_=>by simp [ucn]
 | i+1,h=>by
  have ih:=ucn_iff (ks:=ks) (d0:=d0) (i:=i) (by lia)
  have le:=ucn_le ks d0 i
  have hg:ks[i]? = some (ks.getD i d0):=by rw [List.getD_eq_getElem?_getD,List.getElem?_eq_getElem (by lia)];rfl
  rw [take_get hg]
  unfold ucn
  by_cases c:ks.getD i d0∈ks.take i
  ·rw [if_pos c]
   constructor
   ·intro e;lia
   ·intro nd
    exact absurd rfl ((List.pairwise_append.mp nd).2.2 _ c _ (List.mem_singleton.mpr rfl))
  ·rw [if_neg c]
   constructor
   ·intro e
    exact List.pairwise_append.mpr ⟨ih.mp (by lia),List.pairwise_singleton _ _,fun x hx y hy z=>c (by rw [<-List.mem_singleton.mp hy,<-z];exact hx)⟩
   ·intro nd
    have:=ih.mpr (List.pairwise_append.mp nd).1
    lia
theorem ucI_iff{ks:List Nat}:ucI (ks.map fun k:Nat=>(k:Int))=ks.length↔ks.Nodup:=by
 unfold ucI
 have h:=ucn_iff (ks:=(ks.map fun k:Nat=>(k:Int)).map (Sum.inl:Int->Key)) (d0:=.inr "") (i:=ks.length) (by rw [List.length_map,List.length_map];exact Nat.le_refl _)
 rw [List.length_map,h,List.take_of_length_le (by rw [List.length_map,List.length_map];exact Nat.le_refl _),List.map_map]
 unfold List.Nodup
 rw [List.pairwise_map]
 constructor
 ·exact fun h=>h.imp fun {a b} x e=>x (by rw [e])
 ·exact fun h=>h.imp fun {a b} x e=>x (by
   have e':(Sum.inl ((a:Nat):Int):Key) = .inl ((b:Nat):Int):=e
   injection e' with e'
   have:(a:Int)=(b:Int):=e'
   lia)
open PySem
def gst(Ls:List Nat):List (Nat×Nat)->Nat->Option Nat
 | [],_=>none
 | p::r,e=>if Ls.getD e 0=Ls.getD p.1 0 then some p.2 else if Ls.getD e 0=Ls.getD (p.1^^^1) 0 then some (1-p.2) else gst Ls r e
def lbit(Ls:List Nat)(bs:List (Option Nat))(st:List (Nat×Nat))(e:Nat):Option Nat:=match gst Ls st e with
 | some b=>some b
 | none=>match bs.getD (e/2) none with
  | none=>none
  | some b=>if e%2=0 then some b else some (1-b)
theorem gst_cons(Ls:List Nat)(p:Nat×Nat)(r:List (Nat×Nat))(e:Nat):gst Ls (p::r) e=if Ls.getD e 0=Ls.getD p.1 0 then some p.2 else if Ls.getD e 0=Ls.getD (p.1^^^1) 0 then some (1-p.2) else gst Ls r e:=rfl
theorem gst_le{Ls:List Nat}{e w:Nat}:∀ {st:List (Nat×Nat)},(∀ p∈st,p.2<=1)->gst Ls st e=some w->w<2^1
 | [],_,h=>by cases h
 | p::r,hp,h=>by
  have h1:=hp p List.mem_cons_self
  unfold gst at h
  split at h
  ·cases h;lia
  ·split at h
   ·cases h;lia
   ·exact gst_le (fun q hq=>hp q (List.mem_cons_of_mem _ hq)) h
theorem lkN_cons(k w:Nat)(E:List (Nat×Nat))(x:Nat):lkN ((k,w)::E) x=if k=x then some w else lkN E x:=by
 unfold lkN
 rw [List.find?_cons]
 by_cases c:k=x
 ·simp [c]
 ·simp [c]
theorem lkN_map(f:Nat->Nat)(x:Nat):∀ E:List (Nat×Nat),(lkN E x).map f=lkN (E.map fun p=>(p.1,f p.2)) x
 | []=>rfl
 | (k,w)::E=>by
  rw [List.map_cons,lkN_cons,lkN_cons]
  by_cases c:k=x
  ·rw [if_pos c,if_pos c];rfl
  ·rw [if_neg c,if_neg c];exact lkN_map f x E
theorem one_sub{w:Nat}(h:w<=1):1-w=1^^^w:=by
 rcases (show w=0\/w=1 by lia) with rfl | rfl<;>rfl
section
variable {n:Nat} {L Ls:List Nat} {R:Nat->Nat}
theorem Uf.z0(u:Uf n L R)(h:0<n):R 0=0:=by
 have:=u.least (e:=0) (j:=0) h h rfl
 lia
theorem gst_lk(u:Uf n L R)(h:Lb n Ls R){e:Nat}(he:e<2*n):∀ {zs:List (Nat×Nat)},(∀ p∈zs,p.1<2*n/\p.2<=1)->gst Ls zs e=lkN (zs.flatMap fun p=>[(R p.1,p.2),(R p.1^^^1,1^^^p.2)]) (R e)
 | [],_=>rfl
 | p::r,hz=>by
  obtain ⟨h1,h2⟩:=hz p List.mem_cons_self
  have d1:=y_z p.1
  have ih:=gst_lk u h he (zs:=r) fun q hq=>hz q (List.mem_cons_of_mem _ hq)
  rw [List.flatMap_cons]
  show gst Ls (p::r) e=lkN ((R p.1,p.2)::(R p.1^^^1,1^^^p.2)::r.flatMap fun p=>[(R p.1,p.2),(R p.1^^^1,1^^^p.2)]) (R e)
  rw [lkN_cons,lkN_cons,<-ih,gst_cons]
  by_cases c:R e=R p.1
  ·rw [if_pos ((h.2 _ _ he h1).mpr c),if_pos c.symm]
  ·have c1:¬Ls.getD e 0=Ls.getD p.1 0:=fun q=>c ((h.2 _ _ he h1).mp q)
   have c2:¬R p.1=R e:=fun q=>c q.symm
   rw [if_neg c1,if_neg c2]
   have hc:=u.cx (e:=p.1) (by lia)
   by_cases d:R e=R p.1^^^1
   ·rw [if_pos ((h.2 _ _ he (by lia)).mpr (by rw [hc];exact d)),if_pos d.symm,one_sub h2]
   ·have c3:¬Ls.getD e 0=Ls.getD (p.1^^^1) 0:=fun q=>d (by rw [<-hc];exact (h.2 _ _ he (by lia)).mp q)
    have c4:¬R p.1^^^1=R e:=fun q=>d q.symm
    rw [if_neg c3,if_neg c4]
def stL(ls:List Nat)(r:Nat):List (Nat×Nat):=(0,0)::ls.zip (rwB ls.length r)
theorem rwB_le{m r w:Nat}(h:w∈rwB m r):w<=1:=by
 unfold rwB at h
 obtain ⟨k,_,rfl⟩:=List.mem_map.mp h
 have:=bt_lt r k
 lia
theorem stL_ok{ls:List Nat}{r:Nat}(h0:0<n)(hl:∀ e∈ls,e<2*n):∀ p∈stL ls r,p.1<2*n/\p.2<=1:=fun p hp=>by
 unfold stL at hp
 rcases List.mem_cons.mp hp with rfl | hp
 ·exact ⟨by show 0<2*n;lia,Nat.zero_le _⟩
 ·obtain ⟨a,b⟩:=p
  obtain ⟨h1,h2⟩:=List.of_mem_zip hp
  exact ⟨hl _ h1,rwB_le h2⟩
theorem gkL_lane{hi r:Nat}(hh:bt hi r=1)(zs:List (Nat×Nat)):(gkL R hi zs).map (fun p=>(p.1,bt p.2 r))=gkL R 1 (zs.map fun p=>(p.1,bt p.2 r)):=by
 unfold gkL
 rw [List.map_cons,List.map_cons,List.map_flatMap,List.flatMap_map]
 refine congr (congrArg _ ?_) (congr (congrArg _ ?_) ?_)
 ·show (0,bt 0 r)=(0,0)
  rw [bt_zero']
 ·show (1,bt hi r)=(1,1)
  rw [hh]
 ·congr 1
  funext p
  show [(R p.1,bt p.2 r),(R p.1^^^1,bt (hi^^^p.2) r)]=[(R p.1,bt p.2 r),(R p.1^^^1,1^^^bt p.2 r)]
  rw [bt_xor,hh]
  have:=bt_lt p.2 r
  rcases (show bt p.2 r=0\/bt p.2 r=1 by lia) with h | h<;>rw [h]<;>rfl
theorem gst_lane(u:Uf n L R)(h:Lb n Ls R)(h0:0<n){ls:List Nat}(hl:∀ e∈ls,e<2*n){r:Nat}(hr:r<2^ls.length){e:Nat}(he:e<2*n):gst Ls (stL ls r) e=(givS R ls e).map (bt · r):=by
 rw [gst_lk u h he (stL_ok h0 hl)]
 unfold givS
 have ez:(ls.zip (sdL ls.length)).map (fun p=>(p.1,bt p.2 r))=ls.zip (rwB ls.length r):=by
  rw [<-lane_sdL' ls.length r hr,List.zip_map_right]
  rfl
 rw [lkN_map,gkL_lane (show bt (hiW ls.length) r=1 from bt_ones hr),ez]
 unfold stL gkL
 rw [List.flatMap_cons]
 show lkN ((R 0,0)::(R 0^^^1,1^^^0)::(ls.zip (rwB ls.length r)).flatMap fun p=>[(R p.1,p.2),(R p.1^^^1,1^^^p.2)]) (R e)=_
 rw [u.z0 h0]
 rfl
theorem givS_lt{ls:List Nat}{e w:Nat}(h:givS R ls e=some w):w<2^2^ls.length:=by
 have hp:=Nat.one_le_two_pow (n:=2^ls.length)
 have hm:=lkN_mem h
 unfold gkL at hm
 have hhi:hiW ls.length<2^2^ls.length:=by unfold hiW;lia
 rcases List.mem_cons.mp hm with e1 | hm
 ·have e2:w=0:=congrArg Prod.snd e1
  lia
 rcases List.mem_cons.mp hm with e1 | hm
 ·have e2:w=hiW ls.length:=congrArg Prod.snd e1
  rw [e2];exact hhi
 ·obtain ⟨p,hp,hm⟩:=List.mem_flatMap.mp hm
  obtain ⟨a,b⟩:=p
  have hb:=sdL_low ls.length b (List.of_mem_zip hp).2
  simp only [List.mem_cons,List.not_mem_nil,or_false] at hm
  rcases hm with e1 | e1
  ·have e2:w=b:=congrArg Prod.snd e1
   rw [e2];exact hb
  ·have e2:w=hiW ls.length^^^b:=congrArg Prod.snd e1
   rw [e2];exact Nat.xor_lt_two_pow hhi hb
end
theorem gvW_congr{giv giv':Nat->Option Nat}{L:Nat}{gs:List (Nat×Nat)}{hi:Nat}(hg:GtO L gs):∀ e,(∀ d,d<=e->giv d=giv' d)->gvW giv L gs hi e=gvW giv' L gs hi e:=by
 intro e
 induction e using Nat.strongRecOn with
 | ind e ih =>
  intro h
  rw [gvW_eq hg,gvW_eq hg (giv:=giv'),rhs_congr (giv:=giv) hg (V':=gvW giv' L gs hi) fun d hd=>ih d hd fun c hc=>h c (by lia)]
  unfold rhsV
  rw [h e (Nat.le_refl _)]
def lval(Ls:List Nat)(L:Nat)(gs st:List (Nat×Nat))(e:Nat):Option Nat:=gvW (gst Ls st) L gs 1 e
section
variable {n L a b:Nat} {L0 Ls ls:List Nat} {gs:List (Nat×Nat)} {R:Nat->Nat}
theorem lval_lane(u:Uf n L0 R)(h:Lb n Ls R)(h0:0<n)(hg:GtO L gs)(hl:∀ e∈ls,e<2*n){r:Nat}(hr:r<2^ls.length){e:Nat}(he:e<2*n):lval Ls L gs (stL ls r) e=(valS R L gs ls e).map (bt · r):=by
 unfold lval valS
 rw [<-(gvW_lane hg hr (show hiW ls.length=2^2^ls.length-1 from rfl) (fun e w=>givS_lt) e).2]
 exact gvW_congr hg e fun d hd=>gst_lane u h h0 hl hr (by lia)
theorem valS_lt(hg:GtO L gs){e w:Nat}(h:valS R L gs ls e=some w):w<2^2^ls.length :=
 (gvW_lane hg (Nat.two_pow_pos ls.length) (show hiW ls.length=2^2^ls.length-1 from rfl) (fun e w=>givS_lt) e).1 w h
theorem good_yes(u:Uf n L0 R)(h:Lb n Ls R)(h0:0<n)(hg:GtO L gs)(hl:∀ e∈ls,e<2*n)(ha:a<2*n)(hb:b<2*n)(h6:ls.length<=6)(hd:Dst R ls)
  (hv:∀ r,r<2^ls.length->lval Ls L gs (stL ls r) a≠none/\lval Ls L gs (stL ls r) a=lval Ls L gs (stL ls r) b):goodS R L gs a b ls=true:=by
 have hv':∀ r,r<2^ls.length->(valS R L gs ls a).map (bt · r)≠none/\(valS R L gs ls a).map (bt · r)=(valS R L gs ls b).map (bt · r):=fun r hr=>by
  have:=hv r hr
  rw [lval_lane u h h0 hg hl hr ha,lval_lane u h h0 hg hl hr hb] at this
  exact this
 have z:=hv' 0 (Nat.two_pow_pos _)
 refine decide_eq_true ⟨h6,hd,fun e=>z.1 (by rw [e];rfl),?_⟩
 cases hx:valS R L gs ls a with
 | none=>rw [hx] at z;exact absurd rfl z.1
 | some x =>
  cases hy:valS R L gs ls b with
  | none=>rw [hx,hy] at z;exact absurd z.2 nofun
  | some y =>
   congr 1
   refine bt_ext (valS_lt hg hx) (valS_lt hg hy) fun r hr=>?_
   have:=(hv' r hr).2
   rw [hx,hy] at this
   exact Option.some.inj this
theorem good_no(u:Uf n L0 R)(h:Lb n Ls R)(h0:0<n)(hg:GtO L gs)(hl:∀ e∈ls,e<2*n)(ha:a<2*n)(hb:b<2*n){r:Nat}(hr:r<2^ls.length)
  (hv:lval Ls L gs (stL ls r) a=none\/lval Ls L gs (stL ls r) a≠lval Ls L gs (stL ls r) b):goodS R L gs a b ls=false:=by
 rw [lval_lane u h h0 hg hl hr ha,lval_lane u h h0 hg hl hr hb] at hv
 refine decide_eq_false fun q=>?_
 rcases hv with hv | hv
 ·rw [Option.map_eq_none_iff] at hv
  exact q.2.2.1 hv
 ·exact hv (by rw [q.2.2.2])
def snL(Ls ls:List Nat)(i:Nat):List Nat:=[Ls.getD 0 0,Ls.getD 1 0]++(ls.take i).flatMap fun e=>[Ls.getD e 0,Ls.getD (e^^^1) 0]
theorem half_cx{x y:Nat}:x/2=y/2↔x=y\/x=y^^^1:=by
 have h1:=y_z y
 have h2:=cx_ne y
 constructor
 ·intro h;lia
 ·rintro (rfl | rfl)
  ·rfl
  ·exact h1
theorem snL_iff(u:Uf n L0 R)(h:Lb n Ls R)(h0:0<n)(hl:∀ e∈ls,e<2*n){i x:Nat}(hx:x<2*n):Ls.getD x 0∈snL Ls ls i↔R x/2=0\/∃ y∈ls.take i,R y/2=R x/2:=by
 have z0:=u.z0 h0
 have z1:R 1=1:=by have:=u.cx (e:=0) h0;rw [z0] at this;exact this
 unfold snL
 rw [List.mem_append]
 refine or_congr ?_ ?_
 ·simp only [List.mem_cons,List.not_mem_nil,or_false]
  rw [h.2 _ _ hx (show 0<2*n by lia),h.2 _ _ hx (show 1<2*n by lia),z0,z1]
  lia
 ·rw [List.mem_flatMap]
  refine exists_congr fun y=>and_congr_right fun hy=>?_
  have hy2:=hl y (List.mem_of_mem_take hy)
  have d:=y_z y
  simp only [List.mem_cons,List.not_mem_nil,or_false]
  rw [h.2 _ _ hx hy2,h.2 _ _ hx (show y^^^1<2*n by lia),u.cx (e:=y) (by lia),<-half_cx]
  exact eq_comm
theorem dst_no(u:Uf n L0 R)(h:Lb n Ls R)(h0:0<n)(hl:∀ e∈ls,e<2*n){i x:Nat}(hi:ls[i]? = some x)(hm:Ls.getD x 0∈snL Ls ls i):¬Dst R ls:=fun d=>by
 have hxl:=List.mem_of_getElem? hi
 rcases (snL_iff u h h0 hl (hl x hxl)).mp hm with q | ⟨y,hy,q⟩
 ·exact d.1 x hxl q
 ·obtain ⟨j,hj,e⟩:=List.mem_take_iff_getElem.mp hy
  have hil:=(List.getElem?_eq_some_iff.mp hi).1
  have e1:(ls.map fun e=>R e/2)[j]? = some (R x/2):=by rw [List.getElem?_map,List.getElem?_eq_getElem (by lia),e];show some (R y/2)=_;rw [q]
  have e2:(ls.map fun e=>R e/2)[i]? = some (R x/2):=by rw [List.getElem?_map,hi];rfl
  have:=(List.getElem?_inj (by rw [List.length_map];lia) d.2).mp (e1.trans e2.symm)
  lia
theorem dst_go(u:Uf n L0 R)(h:Lb n Ls R)(h0:0<n)(hl:∀ e∈ls,e<2*n){i x:Nat}(hi:ls[i]? = some x)(hm:Ls.getD x 0∉snL Ls ls i)(d:Dst R (ls.take i)):Dst R (ls.take (i+1)):=by
 have hxl:=List.mem_of_getElem? hi
 have hn:=fun q=>hm ((snL_iff u h h0 hl (hl x hxl)).mpr q)
 rw [take_get hi]
 refine ⟨fun e he=>?_,?_⟩
 ·rcases List.mem_append.mp he with he | he
  ·exact d.1 e he
  ·rw [List.mem_singleton.mp he]
   exact fun q=>hn (.inl q)
 ·rw [List.map_append]
  refine List.pairwise_append.mpr ⟨d.2,List.pairwise_singleton _ _,fun p hp q hq e=>?_⟩
  obtain ⟨y,hy,rfl⟩:=List.mem_map.mp hp
  have hq':q=R x/2:=List.mem_singleton.mp hq
  exact hn (.inr ⟨y,hy,e.trans hq'⟩)
theorem snL_snoc{i x:Nat}(hi:ls[i]? = some x):snL Ls ls (i+1)=snL Ls ls i++[Ls.getD x 0,Ls.getD (x^^^1) 0]:=by
 unfold snL
 rw [take_get hi,List.flatMap_append,List.append_assoc]
 simp
def bsK(V:Nat->Option Nat)(L:Nat)(gs:List (Nat×Nat))(k:Nat):List (Option Nat):=List.replicate (1+L) none++(gs.take k).map fun p=>bothO (V p.1) (V p.2)
theorem lval_lt{st:List (Nat×Nat)}(hg:GtO L gs)(hp:∀ p∈st,p.2<=1){e w:Nat}(h:lval Ls L gs st e=some w):w<=1:=by
 have:=(gvW_lane (r:=0) (m:=1) (hi:=1) hg (by decide) rfl (fun e w=>gst_le hp) e).1 w h
 lia
theorem bsK_len{V:Nat->Option Nat}{k:Nat}(hk:k<=gs.length):(bsK V L gs k).length=1+L+k:=by
 unfold bsK
 rw [List.length_append,List.length_replicate,List.length_map,List.length_take]
 lia
theorem lbit_is{st:List (Nat×Nat)}{k e:Nat}(hg:GtO L gs)(hp:∀ p∈st,p.2<=1)(hk:k<=gs.length)(he:e/2<1+L+k)(hc:e%2=1->gst Ls st e=none->gst Ls st (e-1)=none):lbit Ls (bsK (lval Ls L gs st) L gs k) st e=lval Ls L gs st e:=by
 unfold lbit
 cases hq:gst Ls st e with
 | some w=>exact (gvW_giv hg hq).symm
 | none =>
  by_cases hl:L<e/2
  ·have hj:e/2-L-1<k:=by lia
   have hp':gs[e/2-L-1]? = some gs[e/2-L-1]:=List.getElem?_eq_getElem (by lia)
   have hb:(bsK (lval Ls L gs st) L gs k).getD (e/2) none=bothO (lval Ls L gs st gs[e/2-L-1].1) (lval Ls L gs st gs[e/2-L-1].2):=by
    unfold bsK
    rw [List.getD_eq_getElem?_getD,List.getElem?_append_right (by rw [List.length_replicate];lia),List.length_replicate,show e/2-(1+L)=e/2-L-1 by lia,List.getElem?_map,List.getElem?_take,if_pos hj,hp']
    rfl
   rw [hb]
   by_cases ho:e%2=1
   ·have hv:lval Ls L gs st (e-1)=bothO (lval Ls L gs st gs[e/2-L-1].1) (lval Ls L gs st gs[e/2-L-1].2) :=
     gvW_even hg (hc ho hq) (by lia) (by lia) (by rw [show (e-1)/2=e/2 by lia];exact hp')
    have h1:lval Ls L gs st e=(lval Ls L gs st (e-1)).map (1 ^^^ ·):=gvW_odd hg hq hl ho
    rw [h1,<-hv]
    cases hw:lval Ls L gs st (e-1) with
    | none=>rfl
    | some w =>
     show (if e%2=0 then some w else some (1-w))=some (1^^^w)
     rw [if_neg (by lia),one_sub (lval_lt hg hp hw)]
   ·have hv:lval Ls L gs st e=bothO (lval Ls L gs st gs[e/2-L-1].1) (lval Ls L gs st gs[e/2-L-1].2):=gvW_even hg hq hl ho hp'
    rw [<-hv]
    cases lval Ls L gs st e with
    | none=>rfl
    | some w =>
     show (if e%2=0 then some w else some (1-w))=some w
     rw [if_pos (by lia)]
  ·have hb:(bsK (lval Ls L gs st) L gs k).getD (e/2) none=none:=by
    unfold bsK
    rw [List.getD_eq_getElem?_getD,List.getElem?_append_left (by rw [List.length_replicate];lia),List.getElem?_replicate,if_pos (by lia)]
    rfl
   rw [hb]
   exact (gvW_low hg hq hl).symm
theorem stL_cx(u:Uf n L0 R)(h:Lb n Ls R){st:List (Nat×Nat)}(hp:∀ p∈st,p.1<2*n/\p.2<=1){e:Nat}(he:e<2*n)(ho:e%2=1)(hq:gst Ls st e=none):gst Ls st (e-1)=none:=by
 have e1:e-1=e^^^1:=by
  have:=y_z e
  have:=cx_ne e
  lia
 rw [gst_lk u h he hp,lkN_none] at hq
 rw [gst_lk u h (by lia) hp,lkN_none,e1,u.cx (by lia)]
 intro p hpm z
 obtain ⟨q,hq1,hq2⟩:=List.mem_flatMap.mp hpm
 have hx:=(xor1 (R e)).2.2
 simp only [List.mem_cons,List.not_mem_nil,or_false] at hq2
 rcases hq2 with rfl | rfl
 ·refine hq (R q.1^^^1,1^^^q.2) (List.mem_flatMap.mpr ⟨q,hq1,by simp⟩) ?_
  show R q.1^^^1=R e
  have z':R q.1=R e^^^1:=z
  rw [z',hx]
 ·refine hq (R q.1,q.2) (List.mem_flatMap.mpr ⟨q,hq1,by simp⟩) ?_
  show R q.1=R e
  have z':R q.1^^^1=R e^^^1:=z
  have:=congrArg (· ^^^ 1) z'
  simp only [(xor1 _).2.2] at this
  exact this
theorem both_mul{x y:Nat}(hx:x<=1)(hy:y<=1):x*y=x&&&y:=by
 rcases (show x=0\/x=1 by lia) with rfl | rfl<;>rcases (show y=0\/y=1 by lia) with rfl | rfl<;>rfl
theorem bsK_le{st:List (Nat×Nat)}{k w:Nat}(hg:GtO L gs)(hp:∀ p∈st,p.2<=1)(h:some w∈bsK (lval Ls L gs st) L gs k):w<=1:=by
 unfold bsK at h
 rcases List.mem_append.mp h with h | h
 ·cases (List.mem_replicate.mp h).2
 ·obtain ⟨p,_,e⟩:=List.mem_map.mp h
  cases hx:lval Ls L gs st p.1 with
  | none=>rw [hx] at e;cases e
  | some x =>
   cases hy:lval Ls L gs st p.2 with
   | none=>rw [hx,hy] at e;cases e
   | some y =>
    rw [hx,hy] at e
    have h1:=lval_lt hg hp hx
    cases e
    exact Nat.le_trans Nat.and_le_left h1
end
def sp_L_bitS:Sp:=fun vs H Q _=>∃ (pl pb ps:Addr) (rs:List Addr) (Ls:List Nat) (bs:List (Option Nat)) (st:List (Nat×Nat)) (e:Nat),vs=[.ref pl,.ref pb,.ref ps,.int (e:Int)]/\H pl=some (.lst (natsV Ls))/\H pb=some (.lst (bs.map oV))/\PrsR H ps rs (gI st) /\
 e<Ls.length/\e/2<bs.length/\(∀ p∈st,p.1<Ls.length/\p.1^^^1<Ls.length/\p.2<=1)/\(∀ w,some w∈bs->w<=1)/\∀ H',Same H H'->Q (oV (lbit Ls bs st e)) H'
def sp_L_toldS:Sp:=fun vs H Q _=>∃ (net g pl ps:Addr) (rs ss:List Addr) (L n a b:Nat) (gs st:List (Nat×Nat)) (Ls L0:List Nat) (R:Nat->Nat),vs=[.ref net,.ref pl,.ref ps,.int (a:Int),.int (b:Int)]/\IsNet H net g rs (L:Int) (gI gs)/\GtO L gs/\n=1+L+gs.length/\n<=30/\H pl=some (.lst (natsV Ls))/\Uf n L0 R/\Lb n Ls R/\PrsR H ps ss (gI st) /\
 (∀ p∈st,p.1<2*n/\p.2<=1)/\a<2*n/\b<2*n/\∀ t H',Same H H'->H' t=some (.tup [oV (lval Ls L gs st a),oV (lval Ls L gs st b)])->Q (.ref t) H'
def sp_L_dueS(C:Addr):Sp:=fun vs H Q _=>∃ (net g o l st lt pl:Addr) (rs:List Addr) (L n a b:Nat) (gs:List (Nat×Nat)) (R:Nat->Nat) (ls Ls:List Nat),vs=[.ref net,.ref pl,.ref st]/\StpA C H net g o l st lt rs L n a b gs R ls/\H pl=some (.lst (natsV Ls))/\Lb n Ls R /\
 ∀ H',Same H H'->Q (.bl (goodS R L gs a b ls)) H'
def sp_L_netS:Sp:=fun vs H Q _=>∃ (r z:Addr) (rw zs:List Int),vs=[.ref r,.ref z]/\H r=some (.lst (rw.map V.int))/\rw.length=20/\Drawn rw/\H z=some (.lst (zs.map V.int))/\2<=zs.length/\Drawn zs /\
 ∀ (p g:Addr) (rs:List Addr) (L:Nat) (gs:List (Nat×Nat)) H',Same H H'->IsNet H' p g rs (L:Int) (gI gs)->L<=4->gs.length<=10->GtO L gs->Q (.ref p) H'
def sp_L_twinS:Sp:=fun vs H Q _=>∃ (net g r:Addr) (rs:List Addr) (L:Nat) (gs:List (Nat×Nat)) (zs:List Int),vs=[.ref net,.ref r]/\IsNet H net g rs (L:Int) (gI gs)/\gs.length<=10/\GtO L gs/\H r=some (.lst (zs.map V.int))/\1<=zs.length/\Drawn zs /\
 ∀ (p g':Addr) (rs':List Addr) (gs':List (Nat×Nat)) H',Same H H'->IsNet H' p g' rs' (L:Int) (gI gs')->gs'.length<=11->GtO L gs'->(gs'=[]\/2<=gs'.length)->Q (.ref p) H'
def sp_L_stepS:Sp:=fun vs H Q _=>∃ (net g r:Addr) (rs:List Addr) (L n:Nat) (gs:List (Nat×Nat)) (rw:List Int),vs=[.ref net,.ref r]/\IsNet H net g rs (L:Int) (gI gs)/\n=1+L+gs.length/\L<=4/\gs.length<=11/\GtO L gs/\H r=some (.lst (rw.map V.int))/\rw.length=10/\Drawn rw /\
 ∀ (st lt:Addr) (a b:Nat) (ls:List Nat) H',Same H H'->H' st=some (.tup [.str "stands",.int (a:Int),.int (b:Int),.ref lt])->H' lt=some (.tup (natsV ls))->a<2*n->b<2*n->(∀ e∈ls,e<2*n)->ls.length<=7->Q (.ref st) H'
theorem gI_snoc(gs:List (Nat×Nat))(p:Nat×Nat):gI (gs++[p])=gI gs++[((p.1:Int),(p.2:Int))]:=by unfold gI;rw [List.map_append];rfl
theorem gI_len(gs:List (Nat×Nat)):(gI gs).length=gs.length:=List.length_map _
theorem gI_nil{gs:List (Nat×Nat)}:gI gs=[]↔gs=[]:=List.map_eq_nil_iff
theorem GtO.snoc{L:Nat}{gs:List (Nat×Nat)}{a b:Nat}(h:GtO L gs)(ha:a<2*(1+L+gs.length))(hb:b<2*(1+L+gs.length)):GtO L (gs++[(a,b)]):=fun k p hp=>by
 by_cases c:k<gs.length
 ·rw [List.getElem?_append_left c] at hp
  exact h k p hp
 ·rw [List.getElem?_append_right (by lia)] at hp
  have hk:k-gs.length=0:=by
   have:=(List.getElem?_eq_some_iff.mp hp).1
   have:[(a,b)].length=1:=rfl
   lia
  rw [hk] at hp
  cases hp
  exact ⟨by show a<_;lia,by show b<_;lia⟩
theorem PrsR.getS{H:Hp}{g:Addr}{rs:List Addr}{gs:List (Nat×Nat)}(h:PrsR H g rs (gI gs)){k:Nat}{p:Nat×Nat}(hk:gs[k]? = some p):∃ r,rs[k]? = some r/\H r=some (.tup [.int (p.1:Int),.int (p.2:Int)]):=by
 have e:(gI gs)[k]? = some ((p.1:Int),(p.2:Int)):=by unfold gI;rw [List.getElem?_map,hk];rfl
 exact pairedGet' (R:=fun r (p:Int×Int)=>H r=some (.tup [.int p.1,.int p.2])) h.2 e
theorem PrsR.lenS{H:Hp}{g:Addr}{rs:List Addr}{gs:List (Nat×Nat)}(h:PrsR H g rs (gI gs)):rs.length=gs.length:=by rw [Paired.length h.2,gI_len]
theorem PrsR.pushS{H H1:Hp}{b t:Addr}{rs:List Addr}{gs:List (Nat×Nat)}{p:Nat×Nat}(h:PrsR H b rs (gI gs))(s:Same H H1)(ht:H1 t=some (.tup [.int (p.1:Int),.int (p.2:Int)])):PrsR (upd H1 b (.lst (rs.map V.ref++[.ref t]))) b (rs++[t]) (gI (gs++[p])):=by
 have hb:=s _ _ h.1
 have ne:∀ {r:Addr} {xs:List V},H1 r=some (.tup xs)->r≠b:=fun e z=>by rw [z,hb] at e;cases e
 refine ⟨by rw [z_d,List.map_append];rfl,?_⟩
 rw [gI_snoc]
 refine pairedSnoc (by rw [z_n (ne ht)];exact ht) (pairedMono (fun r p e=>?_) h.2)
 have e1:=s _ _ e
 rw [z_n (ne e1)]
 exact e1
theorem PrsR.oneS{H:Hp}{b t:Addr}{p:Nat×Nat}(h:H b=some (.lst [.ref t]))(ht:H t=some (.tup [.int (p.1:Int),.int (p.2:Int)])):PrsR H b [t] (gI [p]):=⟨h,.cons ht .nil⟩
theorem eqv_nilS(ds:List PyData):PyData.eqv (.list ds) (.list [])=decide (ds=[]):=by
 rw [PyData.eqv]
 cases ds with
 | nil=>simp [PyData.eqvAll]
 | cons d ds=>simp [PyData.eqvAll]
theorem IsNet.rd{K:PySem.W.Frag}{H:Hp}{net g:Addr}{rs:List Addr}{n:Int}{ps:List (Int×Int)}(h:IsNet H net g rs n ps):RdD K H (dPs ps) (.ref g):=RdD.lst (SqL.of h.g.1) (Dats.rd (PrsR.dats h.g.2))
theorem net_nil{K:PySem.W.Frag}{no:Bool}{H:Hp}{Q:VK}{net g e:Addr}{rs:List Addr}{n:Int}{gs:List (Nat×Nat)}(h:IsNet H net g rs n (gI gs))(he:H e=some (.lst []))(q:Q (.bl (no ^^ decide (gs=[]))) H):rEqD K no (.ref g) (.ref e) H Q:=by
 refine ⟨dPs (gI gs),.list [],h.rd,RdD.lst (SqL.of he) .nil,(dPs_cmp _).mono (by decide),(Cmp.list (n:=0) fun d hd=>by cases hd).mono (by decide),?_⟩
 have e:PyData.eqv (dPs (gI gs)) (.list [])=decide (gs=[]):=by
  unfold dPs
  rw [eqv_nilS]
  refine decide_eq_decide.mpr ?_
  rw [List.map_eq_nil_iff,gI_nil]
 rw [e]
 exact q
theorem at_ref{rs:List Addr}{k:Nat}{r:Addr}(h:rs[k]? = some r):atI (rs.map V.ref) (k:Int)=some (.ref r):=atI_nat (by rw [List.getElem?_map,h];rfl)
theorem flat2_len{f g:Nat->Nat}:∀ l:List Nat,(l.flatMap fun e=>[f e,g e]).length=2*l.length
 | []=>rfl
 | a::l=>by
  rw [List.flatMap_cons,List.length_append,flat2_len l,List.length_cons]
  show 2+2*l.length=2*(l.length+1)
  lia
theorem snL_len(Ls ls:List Nat)(i:Nat):(snL Ls ls i).length<=2+2*i:=by
 unfold snL
 rw [List.length_append,flat2_len,List.length_take]
 show 2+_<=_
 lia
theorem shr6:∀ {m:Nat},m<=6->(2:Int)^(6:Int).toNat/2^((6:Int)-(m:Int)).toNat=((2^m:Nat):Int)
 | 0,_=>by decide
 | 1,_=>by decide
 | 2,_=>by decide
 | 3,_=>by decide
 | 4,_=>by decide
 | 5,_=>by decide
 | 6,_=>by decide
 | m+7,h=>by lia
theorem pow6:∀ {m:Nat},m<=6->2^m<=64
 | 0,_=>by decide
 | 1,_=>by decide
 | 2,_=>by decide
 | 3,_=>by decide
 | 4,_=>by decide
 | 5,_=>by decide
 | 6,_=>by decide
 | m+7,h=>by lia
theorem bt_int(r k:Nat):((0:Int)+(r:Int))/2^((0:Int)+(k:Int)).toNat%2=((bt r k:Nat):Int):=by
 unfold bt
 rw [Int.zero_add,Int.zero_add,Int.toNat_natCast,Int.natCast_emod,Int.natCast_ediv,Int.natCast_pow]
 rfl
theorem rwB_get{m r k:Nat}(h:k<m):(rwB m r)[k]? = some (bt r k):=by
 unfold rwB
 rw [List.getElem?_map,List.getElem?_range h]
 rfl
theorem rwB_len(m r:Nat):(rwB m r).length=m:=by unfold rwB;rw [List.length_map,List.length_range]
theorem seq_mid{s rest:TS}{D:Ends}{σ:St}{H:Hp}(M:St->Hp->Prop)(h:∀ R:Ends,(∀ σ J,M σ J->R.nx σ J)->s R σ H)(h2:∀ σ J,M σ J->rest D σ J):tSeq s rest D σ H:=h { D with nx:=rest D } h2
theorem modN(r:Int){m:Nat}(h:0<m):∃ a:Nat,r%(m:Int)=(a:Int)/\a<m :=
 ⟨(r%(m:Int)).toNat,by have:=Int.emod_nonneg r (show (m:Int)≠0 by lia);lia,by have:=Int.emod_lt_of_pos r (show 0<(m:Int) by lia);lia⟩
theorem nats_push{ys:List V}{n i a:Nat}(h:∃ ls:List Nat,ys=natsV ls/\ls.length=i/\∀ e∈ls,e<n)(ha:a<n):∃ ls:List Nat,ys++[.int (a:Int)]=natsV ls/\ls.length=i+1/\∀ e∈ls,e<n:=by
 obtain ⟨ls,rfl,h1,h2⟩:=h
 refine ⟨ls++[a],(natsV_snoc _ _).symm,by rw [List.length_append,h1];rfl,fun e he=>?_⟩
 rcases List.mem_append.mp he with he | he
 ·exact h2 e he
 ·rw [List.mem_singleton.mp he];exact ha
open PySem PySem.Spec PyProof.Rows
section
variable {prog:Program} {w:World}
structure Wkr(prog:Program)(w:World)(it l:Addr)(n:Nat)(P:Nat->Value->Prop)(St:Nat->Heap->Prop):Prop where
 obj:∀ i h,St i h->∃ o,h.get? it=some o/\∀ v,o.data ≠ .cell v
 keep:∀ i h h',St i h->(∀ o,h.get? it=some o->h'.get? it=some o)->(∀ o,h.get? l=some o->h'.get? l=some o)->St i h'
 item:∀ (A:Around) (E:Value->Shared->Prop) (s:Shared) (Q:Value->Shared->Prop) (i:Nat),i<n->St i s.heap->(∀ x h',P i x->St (i+1) h'->Heap.SameBut it s.heap h'->Q x { s with heap:=h' })->wpAny (model prog w) A (Builtin.SmallTypes.nextOf (.ref it)) Q E s
 stop:∀ (A:Around) (E:Value->Shared->Prop) (s:Shared) (Q:Value->Shared->Prop),A.handled=none->St n s.heap->(∀ h' e,Heap.ExtBut it s.heap h'->(∃ o,h'.get? e=some o/\o.cls = .type "StopIteration")->E (.ref e) { s with heap:=h' })->wpAny (model prog w) A (Builtin.SmallTypes.nextOf (.ref it)) Q E s
theorem wkr_tup(it t:Addr)(hne:t≠it)(vs:Array Value):Wkr prog w it t vs.size (fun i v=>vs[i]? = some v) (fun i h=>h.IsTupleIter it t i/\h.IsTuple t vs) where
 obj:=fun i h ⟨⟨o,ho,_,hd⟩,_⟩=>⟨o,ho,fun v q=>by rw [hd] at q;cases q⟩
 keep:=fun i h h' ⟨⟨o,ho,r⟩,⟨o2,ho2,r2⟩⟩ k1 k2=>⟨⟨o,k1 o ho,r⟩,⟨o2,k2 o2 ho2,r2⟩⟩
 item:=fun A E s Q i hi ⟨ci,ct⟩ q=>by
  have ct':=ct
  obtain ⟨o,ho,hc,hd⟩:=id ci
  obtain ⟨ot,hot,_,nt,hdt⟩:=ct
  have hx:vs[i]? = some vs[i]:=by simp [hi]
  unfold Builtin.SmallTypes.nextOf
  refine wpAny_bind (wpAny_callSpecial?_slot (name:=Str.ofString "__next__") ci.typeIs F.slot_tuple_iterator_next (wpAny_call_entry F.slot_tuple_iterator_next ci.typeIs F.entry_tuple_iterator_next ?_ (F.args_tuple_iterator_next_1 _)))
  change wpAny _ _ (field (.ref it) 0 >>= _) _ _ s
  refine wpAny_bind (wpAny_field ho hd (x:=Value.ref t) rfl ?_)
  change wpAny _ _ (if (Value.ref t == Value.none)=true then _ else _) _ _ s
  rw [if_neg (show ¬((Value.ref t == Value.none)=true) from fun y=>Bool.false_ne_true y)]
  change wpAny _ _ (field (.ref it) 1 >>= _) _ _ s
  refine wpAny_bind (wpAny_field ho hd (x:=Value.int i 0) rfl ?_)
  change wpAny _ _ (seqItems? (.ref t) >>= _) _ _ s
  refine wpAny_bind (wpAny_seqItems hot hdt ?_)
  simp only [hx,Int.toNat_natCast]
  refine wpAny_bind (wpAny_setField ho hd (by simp) (wpAny_pure ⟨vs[i],rfl,wpAny_pure (q _ _ hx ⟨?_,ct'.extBut (Heap.SameBut.update ..).extBut hne⟩ (Heap.SameBut.update ..))⟩))
  exact ⟨_,Heap.get?_update_self _ ho (Obj.isFreed_of_fields (Obj.data_mapFields hd _)),(Obj.cls_mapFields ..).trans hc,by rw [Obj.data_mapFields hd];simp [rawInt]⟩
 stop:=fun A E s Q hh ⟨ci,ct⟩ q=>by
  obtain ⟨o,ho,hc,hd⟩:=id ci
  obtain ⟨ot,hot,_,nt,hdt⟩:=ct
  have hx:vs[vs.size]? = none:=by simp
  unfold Builtin.SmallTypes.nextOf
  refine wpAny_bind (wpAny_callSpecial?_slot (name:=Str.ofString "__next__") ci.typeIs F.slot_tuple_iterator_next (wpAny_call_entry F.slot_tuple_iterator_next ci.typeIs F.entry_tuple_iterator_next ?_ (F.args_tuple_iterator_next_1 _)))
  change wpAny _ _ (field (.ref it) 0 >>= _) _ _ s
  refine wpAny_bind (wpAny_field ho hd (x:=Value.ref t) rfl ?_)
  change wpAny _ _ (if (Value.ref t == Value.none)=true then _ else _) _ _ s
  rw [if_neg (show ¬((Value.ref t == Value.none)=true) from fun y=>Bool.false_ne_true y)]
  change wpAny _ _ (field (.ref it) 1 >>= _) _ _ s
  refine wpAny_bind (wpAny_field ho hd (x:=Value.int vs.size 0) rfl ?_)
  change wpAny _ _ (seqItems? (.ref t) >>= _) _ _ s
  refine wpAny_bind (wpAny_seqItems hot hdt ?_)
  simp only [hx,Int.toNat_natCast]
  refine wpAny_bind (wpAny_rule (wpAny_bind (wpAny_setField ho hd (by simp) ?_)))
  change wpAny _ _ (newExc (.type "StopIteration") [] >>= _) _ _ _
  refine wpAny_bind ?_
  simp only [newTuple,newExc]
  refine wpAny_bind (wpAny_newObj_type ?_ (by size_fits))
  refine wpAny_bind (m:=firstArgMember _ _) (wpAny_of_eq (a:=Value.none) (by first | rfl | (simp only [firstArgMember];rfl)) (wpAny_newObj_type ?_ (by size_fits)))
  simp only [raiseNew]
  refine wpAny_bind (wpAny_handled ?_)
  first | rw [show A.in1.handled=none from hh] | rw [hh]
  exact wpAny_bind (wpAny_pure (wpAny_throw (q _ _ (((Heap.SameBut.update ..).extBut.push _).push _) ⟨_,Heap.get?_push_size _ rfl,rfl⟩)))
theorem zipw_item{A:Around}{E:Value->Shared->Prop}{s:Shared}{z TI TO i1 i2 l1 l2:Addr}{n1 n2 k:Nat}{P1 P2:Nat->Value->Prop}{S1 S2:Nat->Heap->Prop}{a b:Value}{Q:Value->Shared->Prop}(D:ZipApart z TI TO i1 i2 l1 l2)
  (W1:Wkr prog w i1 l1 n1 P1 S1) (W2:Wkr prog w i2 l2 n2 P2 S2) (zz:IsZip s.heap z TI TO .none) (zi:IsPair s.heap TI (.ref i1) (.ref i2)) (zo:IsPair s.heap TO a b)
  (c1:S1 k s.heap) (c2:S2 k s.heap) (lt1:k<n1) (lt2:k<n2)
  (q:∀ x y h',P1 k x->P2 k y->IsZip h' z TI TO (rawInt s.heap.objs.size)->IsPair h' TO x y->S1 (k+1) h'->S2 (k+1) h'->IsPair h' s.heap.objs.size x y->(∀ c o,c∉[z,TO,i1,i2]->s.heap.get? c=some o->h'.get? c=some o)->Q (.ref s.heap.objs.size) { s with heap:=h' }) :
  wpAny (model prog w) A (Builtin.«zip.__next__» ⟨[.ref z],[]⟩) (fun fin s'=>∃ v,fin = .done (.ret v)/\Q v s') E s:=by
 change wpAny _ _ (field (.ref z) 2 >>= _) _ _ _
 refine wpAny_bind (wpAny_field zz rfl (x:=.bool false) rfl ?_)
 change wpAny _ _ (field (.ref z) 3 >>= _) _ _ _
 refine wpAny_bind (wpAny_field zz rfl (x:=.ref TI) rfl ?_)
 refine wpAny_bind (wpAny_seqItems zi rfl ?_)
 change wpAny _ _ (Builtin.SmallTypes.ownedTupleIsFree (.ref z) >>= _) _ _ _
 refine wpAny_bind ?_
 unfold Builtin.SmallTypes.ownedTupleIsFree;refine wpAny_bind (wpAny_field zz rfl (x:=.none) rfl (wpAny_pure ?_))
 simp only [if_true]
 refine wpAny_bind (wpAny_rule ?_)
 refine wpAny_bind (wpAny_field zz rfl (x:=.ref TO) rfl ?_)
 refine wpAny_bind (wpAny_setField_rec zz (by simp) fun g1 zz1 t1=>?_)
 replace zz1:IsZip g1 z TI TO .ellipsis:=zz1
 refine wpAny_bind ?_
 simp only [List.forIn_cons,List.forIn_nil,List.zipIdx_cons,List.zipIdx_nil]
 refine wpAny_bind (wpAny_bind (wpAny_onRaise ?_))
 change wpAny _ _ (Builtin.SmallTypes.nextOf (.ref i1) >>= _) _ _ _
 have up1:∀ c o,c≠z->s.heap.get? c=some o->g1.get? c=some o:=fun c o hc e=>t1.extBut _ _ hc e
 refine wpAny_bind (W1.item _ _ _ _ k lt1 (W1.keep _ _ _ c1 (fun o e=>up1 _ o D.i1z e) fun o e=>up1 _ o D.l1z e) fun x g2 px d1 t2=>wpAny_pure ?_)
 have up2:∀ c o,c≠z->c≠i1->s.heap.get? c=some o->g2.get? c=some o:=fun c o h1 h2 e=>t2.extBut _ _ h2 (up1 c o h1 e)
 have zo2:IsPair g2 TO a b:=up2 _ _ D.TOz D.TOi1 zo
 refine wpAny_bind (wpAny_seqItems zo2 rfl ?_)
 refine wpAny_bind (wpAny_updateSeq_pair zo2 fun g3 zo3 t3=>?_)
 replace zo3:IsPair g3 TO x b:=zo3
 refine wpAny_bind (wpAny_letGo (wpAny_pure ?_));refine wpAny_bind (wpAny_bind (wpAny_onRaise ?_))
 change wpAny _ _ (Builtin.SmallTypes.nextOf (.ref i2) >>= _) _ _ _
 have up3:∀ c o,c≠z->c≠i1->c≠TO->s.heap.get? c=some o->g3.get? c=some o:=fun c o h1 h2 h3 e=>t3.extBut _ _ h3 (up2 c o h1 h2 e)
 refine wpAny_bind (W2.item _ _ _ _ k lt2 (W2.keep _ _ _ c2 (fun o e=>up3 _ o D.i2z D.i12.symm D.TOi2.symm e) fun o e=>up3 _ o D.l2z D.l2i1 D.l2TO e) fun y g4 py d2 t4=>wpAny_pure ?_)
 have zo4:IsPair g4 TO x b:=t4.extBut _ _ D.TOi2 zo3
 refine wpAny_bind (wpAny_seqItems zo4 rfl ?_)
 refine wpAny_bind (wpAny_updateSeq_pair zo4 fun g5 zo5 t5=>?_)
 replace zo5:IsPair g5 TO x y:=zo5
 refine wpAny_bind (wpAny_letGo (wpAny_pure (wpAny_pure ?_)));refine wpAny_bind (wpAny_seqItems zo5 rfl ?_)
 refine wpAny_bind (wpAny_newTuple ?_)
 have sz:g5.objs.size=s.heap.objs.size:=by rw [t5.1,t4.1,t3.1,t2.1,t1.1]
 have zz5:IsZip g5 z TI TO .ellipsis:=t5.extBut _ _ D.TOz.symm (t4.extBut _ _ D.i2z.symm (t3.extBut _ _ D.TOz.symm (t2.extBut _ _ D.i1z.symm zz1)))
 have up5:∀ c o,c∉[z,TO,i1,i2]->s.heap.get? c=some o->g5.get? c=some o:=fun c o hc e=>by
  simp only [List.mem_cons,List.not_mem_nil,or_false,not_or] at hc
  exact t5.extBut _ _ hc.2.1 (t4.extBut _ _ hc.2.2.2 (up3 c o hc.1 hc.2.2.1 hc.2.1 e))
 have d15:S1 (k+1) g5:=W1.keep _ _ _ d1 (fun o e=>t5.extBut _ _ D.TOi1.symm (t4.extBut _ _ D.i12 (t3.extBut _ _ D.TOi1.symm e))) fun o e=>t5.extBut _ _ D.l1TO (t4.extBut _ _ D.l1i2 (t3.extBut _ _ D.l1TO e))
 have d25:S2 (k+1) g5:=W2.keep _ _ _ d2 (fun o e=>t5.extBut _ _ D.TOi2.symm e) fun o e=>t5.extBut _ _ D.l2TO e
 have zlt:z<g5.objs.size:=Heap.lt_size zz5
 change wpAny _ _ (Builtin.SmallTypes.ownedTupleHandOut (.ref z) (.ref g5.objs.size) >>= _) _ _ _
 refine wpAny_bind ?_
 unfold Builtin.SmallTypes.ownedTupleHandOut;have zz6:IsZip (g5.push { cls:=.type "tuple",data:=.seq #[x,y] }) z TI TO .ellipsis:=Heap.get?_push_of_some _ zz5
 refine wpAny_bind (wpAny_setField_rec zz6 (by simp) fun g7 zz7 t7=>?_)
 replace zz7:IsZip g7 z TI TO (rawInt g5.objs.size):=zz7
 refine wpAny_setField_rec zz7 (by simp) fun g8 zz8 t8=>?_
 replace zz8:IsZip g8 z TI TO (rawInt g5.objs.size):=zz8
 have up:∀ c o,c≠z->g5.get? c=some o->g8.get? c=some o:=fun c o hc e=>t8.extBut _ _ hc (t7.extBut _ _ hc (Heap.get?_push_of_some _ e))
 have pr8:IsPair g8 g5.objs.size x y:=t8.extBut _ _ (Nat.ne_of_gt zlt) (t7.extBut _ _ (Nat.ne_of_gt zlt) (Heap.get?_push_size _ rfl))
 rw [sz] at zz8 pr8
 refine wpAny_pure ⟨_,rfl,?_⟩
 change Q (.ref g5.objs.size) _
 rw [sz]
 exact q x y g8 px py zz8 (up _ _ D.TOz zo5) (W1.keep _ _ _ d15 (fun o e=>up _ o D.i1z e) fun o e=>up _ o D.l1z e) (W2.keep _ _ _ d25 (fun o e=>up _ o D.i2z e) fun o e=>up _ o D.l2z e) pr8 fun c o hc e=>up c o (fun h=>hc (by simp [h])) (up5 c o hc e)
theorem zipw_end{A:Around}{E:Value->Shared->Prop}{s:Shared}{z TI TO i1 i2 l1 l2:Addr}{n1:Nat}{P1:Nat->Value->Prop}{S1:Nat->Heap->Prop}{Q:Fin->Shared->Prop}(hh:A.handled=none)(D:ZipApart z TI TO i1 i2 l1 l2)
  (W1:Wkr prog w i1 l1 n1 P1 S1) (zz:IsZip s.heap z TI TO .none) (zi:IsPair s.heap TI (.ref i1) (.ref i2)) (c1:S1 n1 s.heap)
  (q:∀ h' e,(∀ c o,c∉[z,TO,i1,i2]->s.heap.get? c=some o->h'.get? c=some o)->(∃ o,h'.get? e=some o/\o.cls = .type "StopIteration")->E (.ref e) { s with heap:=h' }) :
  wpAny (model prog w) A (Builtin.«zip.__next__» ⟨[.ref z],[]⟩) Q E s:=by
 change wpAny _ _ (field (.ref z) 2 >>= _) _ _ _
 refine wpAny_bind (wpAny_field zz rfl (x:=.bool false) rfl ?_)
 change wpAny _ _ (field (.ref z) 3 >>= _) _ _ _
 refine wpAny_bind (wpAny_field zz rfl (x:=.ref TI) rfl ?_)
 refine wpAny_bind (wpAny_seqItems zi rfl ?_)
 change wpAny _ _ (Builtin.SmallTypes.ownedTupleIsFree (.ref z) >>= _) _ _ _
 refine wpAny_bind ?_
 unfold Builtin.SmallTypes.ownedTupleIsFree;refine wpAny_bind (wpAny_field zz rfl (x:=.none) rfl (wpAny_pure ?_))
 simp only [if_true]
 refine wpAny_bind (wpAny_rule ?_)
 refine wpAny_bind (wpAny_field zz rfl (x:=.ref TO) rfl ?_)
 refine wpAny_bind (wpAny_setField_rec zz (by simp) fun g1 zz1 t1=>?_)
 replace zz1:IsZip g1 z TI TO .ellipsis:=zz1
 refine wpAny_bind ?_
 simp only [List.forIn_cons,List.forIn_nil,List.zipIdx_cons,List.zipIdx_nil]
 refine wpAny_bind (wpAny_bind (wpAny_onRaise ?_))
 change wpAny _ _ (Builtin.SmallTypes.nextOf (.ref i1) >>= _) _ _ _
 have up1:∀ c o,c≠z->s.heap.get? c=some o->g1.get? c=some o:=fun c o hc e=>t1.extBut _ _ hc e
 refine wpAny_bind (W1.stop _ _ _ _ hh (W1.keep _ _ _ c1 (fun o e=>up1 _ o D.i1z e) fun o e=>up1 _ o D.l1z e) fun g2 e t2 ⟨oe,e1,e2⟩=>?_)
 have zz2:IsZip g2 z TI TO .ellipsis:=t2 _ _ D.i1z.symm zz1
 have ez:e≠z:=fun x=>by subst x;rw [zz2] at e1;cases e1;simp at e2
 refine wpAny_setField_rec zz2 (by simp) fun g3 _ t3=>q g3 e (fun c o hc x=>?_) ⟨oe,t3.extBut _ _ ez e1,e2⟩
 simp only [List.mem_cons,List.not_mem_nil,or_false,not_or] at hc
 exact t3.extBut _ _ hc.1 (t2 _ _ hc.2.2.1 (up1 c o hc.1 x))
end
open PySem PySem.Spec PyProof.Rows
section
variable {prog:Program} {w:World}
theorem wkr_lst(it t:Addr)(hne:t≠it)(vs:Array Value):Wkr prog w it t vs.size (fun i v=>vs[i]? = some v) (fun i h=>h.IsListIter it t i/\h.IsList t vs) where
 obj:=fun i h ⟨⟨o,ho,_,hd⟩,_⟩=>⟨o,ho,fun v q=>by rw [hd] at q;cases q⟩
 keep:=fun i h h' ⟨⟨o,ho,r⟩,⟨o2,ho2,r2⟩⟩ k1 k2=>⟨⟨o,k1 o ho,r⟩,⟨o2,k2 o2 ho2,r2⟩⟩
 item:=fun A E s Q i hi ⟨ci,ct⟩ q=>by
  have ct':=ct
  obtain ⟨o,ho,hc,hd⟩:=id ci
  obtain ⟨ot,hot,_,nt,hdt⟩:=ct
  have hx:vs[i]? = some vs[i]:=by simp [hi]
  unfold Builtin.SmallTypes.nextOf
  refine wpAny_bind (wpAny_callSpecial?_slot (name:=Str.ofString "__next__") ci.typeIs slot_listiter_next (wpAny_call_entry slot_listiter_next ci.typeIs entry_listiter_next ?_ (args_listiter_next _)))
  change wpAny _ _ (field (.ref it) 0 >>= _) _ _ s
  refine wpAny_bind (wpAny_field ho hd (x:=Value.ref t) rfl ?_)
  change wpAny _ _ (if (Value.ref t == Value.none)=true then _ else _) _ _ s
  rw [if_neg (show ¬((Value.ref t == Value.none)=true) from fun y=>Bool.false_ne_true y)]
  change wpAny _ _ (field (.ref it) 1 >>= _) _ _ s
  refine wpAny_bind (wpAny_field ho hd (x:=Value.int i 0) rfl ?_)
  change wpAny _ _ (seqItems? (.ref t) >>= _) _ _ s
  refine wpAny_bind (wpAny_seqItems hot hdt ?_)
  simp only [hx,Int.toNat_natCast]
  refine wpAny_bind (wpAny_setField ho hd (by simp) (wpAny_pure ⟨vs[i],rfl,wpAny_pure (q _ _ hx ⟨?_,ct'.extBut (Heap.SameBut.update ..).extBut hne⟩ (Heap.SameBut.update ..))⟩))
  exact ⟨_,Heap.get?_update_self _ ho (Obj.isFreed_of_fields (Obj.data_mapFields hd _)),(Obj.cls_mapFields ..).trans hc,by rw [Obj.data_mapFields hd];simp [rawInt]⟩
 stop:=fun A E s Q hh ⟨ci,ct⟩ q=>by
  obtain ⟨o,ho,hc,hd⟩:=id ci
  obtain ⟨ot,hot,_,nt,hdt⟩:=ct
  have hx:vs[vs.size]? = none:=by simp
  unfold Builtin.SmallTypes.nextOf
  refine wpAny_bind (wpAny_callSpecial?_slot (name:=Str.ofString "__next__") ci.typeIs slot_listiter_next (wpAny_call_entry slot_listiter_next ci.typeIs entry_listiter_next ?_ (args_listiter_next _)))
  change wpAny _ _ (field (.ref it) 0 >>= _) _ _ s
  refine wpAny_bind (wpAny_field ho hd (x:=Value.ref t) rfl ?_)
  change wpAny _ _ (if (Value.ref t == Value.none)=true then _ else _) _ _ s
  rw [if_neg (show ¬((Value.ref t == Value.none)=true) from fun y=>Bool.false_ne_true y)]
  change wpAny _ _ (field (.ref it) 1 >>= _) _ _ s
  refine wpAny_bind (wpAny_field ho hd (x:=Value.int vs.size 0) rfl ?_)
  change wpAny _ _ (seqItems? (.ref t) >>= _) _ _ s
  refine wpAny_bind (wpAny_seqItems hot hdt ?_)
  simp only [hx,Int.toNat_natCast]
  refine wpAny_bind (wpAny_rule (wpAny_bind (wpAny_setField ho hd (by simp) ?_)))
  change wpAny _ _ (newExc (.type "StopIteration") [] >>= _) _ _ _
  refine wpAny_bind ?_
  simp only [newTuple,newExc]
  refine wpAny_bind (wpAny_newObj_type ?_ (by size_fits))
  refine wpAny_bind (m:=firstArgMember _ _) (wpAny_of_eq (a:=Value.none) (by first | rfl | (simp only [firstArgMember];rfl)) (wpAny_newObj_type ?_ (by size_fits)))
  simp only [raiseNew]
  refine wpAny_bind (wpAny_handled ?_)
  first | rw [show A.in1.handled=none from hh] | rw [hh]
  exact wpAny_bind (wpAny_pure (wpAny_throw (q _ _ (((Heap.SameBut.update ..).extBut.push _).push _) ⟨_,Heap.get?_push_size _ rfl,rfl⟩)))
def zm1(h:Heap)(l1:Addr):Heap:=h.push { cls:=.type "tuple_iterator",data:=.fields #[.ref l1,.int 0 0] }
def zm2(h:Heap)(l1 l2:Addr):Heap:=(zm1 h l1).push { cls:=.type "list_iterator",data:=.fields #[.ref l2,.int 0 0] }
def zm3(h:Heap)(l1 l2:Addr):Heap:=(zm2 h l1 l2).push { cls:=.type "tuple",data:=.seq #[.ref h.objs.size,.ref (zm1 h l1).objs.size] }
def zm4(h:Heap)(l1 l2:Addr):Heap:=(zm3 h l1 l2).push { cls:=.type "tuple",data:=.seq #[.none,.none] }
def zm5(h:Heap)(l1 l2:Addr):Heap:=(zm4 h l1 l2).push { cls:=.type "zip",data:=.fields #[.none,.bool false,.bool false,.ref (zm2 h l1 l2).objs.size,.ref (zm3 h l1 l2).objs.size] }
theorem zipm_new(l1 l2:Addr)(xs ys:Array Value):Meets (Builtin.«zip.__new__» ⟨[.type "zip",.ref l1,.ref l2],[]⟩) (fun _ R s=>s.heap.IsTuple l1 xs/\s.heap.IsList l2 ys/\R (.ok (.ret (.ref (zm4 s.heap l1 l2).objs.size))) { s with heap:=zm5 s.heap l1 l2 }) :=
 .of_wp fun prog w A R s ⟨c1,c2,q⟩=>by
  obtain ⟨hp,g,d,tk,os⟩:=s
  have hsub:=sub_zip
  have d1:Heap.IsTuple (Shared.heap ⟨hp,g,d,tk,os⟩) l1 xs:=c1
  have d2:Heap.IsList (Shared.heap ⟨zm1 hp l1,g,d,tk,os⟩) l2 ys:=Heap.IsList.push c2 _
  unfold zm5 zm4 zm3 zm2 zm1 at q
  unfold zm1 at d2
  wp_walk using wpAny_pyIter_tuple d1,wpAny_pyIter_list d2
  exact ⟨_,rfl,q⟩
theorem zipm_call{A:Around}{E:Value->Shared->Prop}{s:Shared}{l1 l2:Addr}{xs ys:Array Value}{Q:Value->Shared->Prop}(c1:s.heap.IsTuple l1 xs)(c2:s.heap.IsList l2 ys)
  (q:∀ h',IsZip h' (s.heap.objs.size+4) (s.heap.objs.size+2) (s.heap.objs.size+3) .none->IsPair h' (s.heap.objs.size+2) (.ref s.heap.objs.size) (.ref (s.heap.objs.size+1))->IsPair h' (s.heap.objs.size+3) .none .none ->
   h'.IsTupleIter s.heap.objs.size l1 0->h'.IsListIter (s.heap.objs.size+1) l2 0->(∀ c o,s.heap.get? c=some o->h'.get? c=some o)->Q (.ref (s.heap.objs.size+4)) { s with heap:=h' }):wpAny (model prog w) A (call (.type "zip") [.ref l1,.ref l2]) Q E s:=by
 refine callType_new F.called_zip (by decide) (F.typeCall_zip_2 _ _) (F.newCall_zip_2 _ _) (fun obj=>F.args_object_init_3 obj _ _) F.entry_zip_new (zipm_new l1 l2 xs ys) ⟨c1,c2,?_⟩
 have e1:(zm1 s.heap l1).objs.size=s.heap.objs.size+1:=Heap.size_push ..
 have e2:(zm2 s.heap l1 l2).objs.size=s.heap.objs.size+2:=by unfold zm2;rw [Heap.size_push,e1]
 have e3:(zm3 s.heap l1 l2).objs.size=s.heap.objs.size+3:=by unfold zm3;rw [Heap.size_push,e2]
 have e4:(zm4 s.heap l1 l2).objs.size=s.heap.objs.size+4:=by unfold zm4;rw [Heap.size_push,e3]
 have g5:(zm5 s.heap l1 l2).get? (zm4 s.heap l1 l2).objs.size=some { cls:=.type "zip",data:=.fields #[.none,.bool false,.bool false,.ref (zm2 s.heap l1 l2).objs.size,.ref (zm3 s.heap l1 l2).objs.size] }:=Heap.get?_push_size _ rfl
 have g4:(zm5 s.heap l1 l2).get? (zm3 s.heap l1 l2).objs.size=some { cls:=.type "tuple",data:=.seq #[.none,.none] }:=Heap.get?_push_of_some _ (Heap.get?_push_size _ rfl)
 have g3:(zm5 s.heap l1 l2).get? (zm2 s.heap l1 l2).objs.size=some { cls:=.type "tuple",data:=.seq #[.ref s.heap.objs.size,.ref (zm1 s.heap l1).objs.size] }:=Heap.get?_push_of_some _ (Heap.get?_push_of_some _ (Heap.get?_push_size _ rfl))
 have g2:(zm5 s.heap l1 l2).get? (zm1 s.heap l1).objs.size=some { cls:=.type "list_iterator",data:=.fields #[.ref l2,.int 0 0] }:=Heap.get?_push_of_some _ (Heap.get?_push_of_some _ (Heap.get?_push_of_some _ (Heap.get?_push_size _ rfl)))
 have g1:(zm5 s.heap l1 l2).get? s.heap.objs.size=some { cls:=.type "tuple_iterator",data:=.fields #[.ref l1,.int 0 0] }:=Heap.get?_push_of_some _ (Heap.get?_push_of_some _ (Heap.get?_push_of_some _ (Heap.get?_push_of_some _ (Heap.get?_push_size _ rfl))))
 rw [e4,e3,e2] at g5
 rw [e3] at g4
 rw [e2,e1] at g3
 rw [e1] at g2
 have q':=q (zm5 s.heap l1 l2) g5 g3 g4 ⟨_,g1,rfl,rfl⟩ ⟨_,g2,rfl,rfl⟩ fun c o e=>Heap.get?_push_of_some _ (Heap.get?_push_of_some _ (Heap.get?_push_of_some _ (Heap.get?_push_of_some _ (Heap.get?_push_of_some _ e))))
 rw [e4]
 exact ⟨⟨_,g5,rfl⟩,q'⟩
end
def Itzm(K : PySem.W.Frag)(a b : Addr) : It :=
  ⟨fun i H => ∃ xs ys x y, SqT K H a xs /\ SqL K H b ys /\ xs.length = ys.length /\ xs[i]? = some x /\ ys[i]? = some y,
   fun i H v H' => ∃ p x y, v = .ref p /\ H p = none /\ H' = upd H p (.tup [x, y]) /\ (∀ xs, SqT K H a xs -> xs[i]? = some x) /\ ∀ ys, SqL K H b ys -> ys[i]? = some y,
   fun i H => ∃ xs ys, SqT K H a xs /\ SqL K H b ys /\ xs.length = i⟩
theorem turn_zipm{P:Program}{w:World}{K:PySem.W.Frag}{elts:List Expr}{kk:Nat}{pos:Pos}(a b z TI TO i1 i2:Addr)(D:ZipApart z TI TO i1 i2 a b) :
  Turn P w K (.Tuple elts kk pos) (Itzm K a b) [z,TI,TO,i1,i2] z (fun i h=>IsZip h z TI TO .none/\IsPair h TI (.ref i1) (.ref i2)/\(∃ c d,IsPair h TO c d)/\h.IsTupleIter i1 a i/\h.IsListIter i2 b i) where
 mem:=by simp
 obj:=fun i h st c hc=>by
  obtain ⟨h1,h2,⟨x,y,h3⟩,⟨o4,e4,c4,d4⟩,⟨o5,e5,c5,d5⟩⟩:=st
  have hc':c=z\/c=TI\/c=TO\/c=i1\/c=i2:=by simpa using hc
  rcases hc' with rfl | rfl | rfl | rfl | rfl
  ·exact ⟨_,h1,fun v q=>by cases q⟩
  ·exact ⟨_,h2,fun v q=>by cases q⟩
  ·exact ⟨_,h3,fun v q=>by cases q⟩
  ·exact ⟨o4,e4,fun v q=>by rw [d4] at q;cases q⟩
  ·exact ⟨o5,e5,fun v q=>by rw [d5] at q;cases q⟩
 keep:=fun i h h' st k=>by
  obtain ⟨h1,h2,⟨x,y,h3⟩,⟨o4,e4,r4⟩,⟨o5,e5,r5⟩⟩:=st
  exact ⟨k z (by simp) _ h1,k TI (by simp) _ h2,⟨x,y,k TO (by simp) _ h3⟩,⟨o4,k i1 (by simp) _ e4,r4⟩,⟨o5,k i2 (by simp) _ e5,r5⟩⟩
 item:=by
  intro X hP hw hK hc i pins s σ H E I hf st hg
  subst hP hw hK
  obtain ⟨xs,ys,x,y,hq1,hq2,hll,hx,hy⟩:=hg
  obtain ⟨its1,rv1,p1,hz1⟩:=I.tuple hq1
  obtain ⟨its2,rv2,p2,hz2⟩:=I.list hq2
  obtain ⟨u1,hu1,ru1⟩:=rv1.get hx
  obtain ⟨u2,hu2,ru2⟩:=rv2.get hy
  obtain ⟨sz,sTI,⟨c,d,sTO⟩,s1,s2⟩:=st
  have hT:s.TypeIs (.ref z) "zip" := ⟨_,sz,rfl⟩
  have W1:=wkr_tup (prog:=X.prog) (w:=X.w) i1 a D.l1i1 its1.toArray
  have W2:=wkr_lst (prog:=X.prog) (w:=X.w) i2 b D.l2i2 its2.toArray
  unfold pyNext;refine wpAny_bind (wpAny_attempt (wpAny_callSpecial?_slot (name:=Str.ofString "__next__") hT F.slot_zip_next (wpAny_call_entry F.slot_zip_next hT F.entry_zip_next (zipw_item D W1 W2 sz sTI sTO ⟨s1,p1⟩ ⟨s2,p2.isList⟩ (by have:=(List.getElem?_eq_some_iff.mp hu1).1;simpa using this) (by have:=(List.getElem?_eq_some_iff.mp hu2).1;simpa using this) fun v1 v2 h' px py b1 b2 b3 b4 b5 hk=>wpAny_pure ?_) (F.args_zip_next_1 _))))
  obtain rfl:v1=u1:=by have px':its1[i]? = some v1:=(by simpa using px);rw [hu1] at px';exact (Option.some.inj px').symm
  obtain rfl:v2=u2:=by have py':its2[i]? = some v2:=(by simpa using py);rw [hu2] at py';exact (Option.some.inj py').symm
  have lt:∀ {c o},s.heap.get? c=some o->c≠s.heap.objs.size:=fun e=>Nat.ne_of_lt (Heap.lt_size e)
  have I0:Inv X pins σ (upd H s.heap.objs.size (.tup [x,y])) { s with heap:=s.heap.push { cls:=.type "tuple",data:=.seq #[v1,v2] },toks:=s.toks } :=
   I.laid (a:=s.heap.objs.size) (o:=.tup [x,y]) (t':=s.toks) (fun b u e=>Heap.get?_push_of_some _ e) (Nat.le_refl _) ⟨(by show 2<=sizeLine;decide),[v1,v2],.cons ru1 (.cons ru2 .nil),_,Heap.get?_push_size _ rfl,rfl,_,rfl⟩
  have hnone:∀ c∈[z,TI,TO,i1,i2],(upd H s.heap.objs.size (.tup [x,y])) c=none:=fun c hc'=>by
   have hne:c≠s.heap.objs.size:=by
    have hc'':c=z\/c=TI\/c=TO\/c=i1\/c=i2:=by simpa using hc'
    rcases hc'' with rfl | rfl | rfl | rfl | rfl
    ·exact lt sz
    ·exact lt sTI
    ·exact lt sTO
    ·obtain ⟨_,e,_⟩:=s1;exact lt e
    ·obtain ⟨_,e,_⟩:=s2;exact lt e
   rw [z_n hne]
   exact (hf c hc').1
  have hf':∀ c∈[z,TI,TO,i1,i2],FpOk X pins (upd H s.heap.objs.size (.tup [x,y])) c:=fun c hc'=>⟨hnone c hc',(hf c hc').2⟩
  have kk1:∀ c o,c∉[z,TO,i1,i2]->(s.heap.push { cls:=.type "tuple",data:=.seq #[v1,v2] }).get? c=some o->h'.get? c=some o:=fun c o hn e=>by
   rcases Heap.get?_push_cases e with ⟨rfl,rfl⟩ | e'
   ·exact b5
   ·exact hk c o hn e'
  have kk2:∀ c∈[z,TO,i1,i2],FpOk X pins (upd H s.heap.objs.size (.tup [x,y])) c:=fun c hc'=>hf' c (by
   have hc'':c=z\/c=TO\/c=i1\/c=i2:=by simpa using hc'
   rcases hc'' with rfl | rfl | rfl | rfl<;>simp)
  have I1:=I0.turnedL (h':=h') (t':=s.toks) (ch:=[z,TO,i1,i2]) kk1 kk2
  refine ⟨_,rfl,wpAny_letOwnedTupleGo_zip b1 fun h2 c1 c2=>?_⟩
  have I2:=I1.turnedL (h':=h2) (t':=s.toks) (ch:=[z]) (fun c o hn e=>(c2.2 c (fun q=>hn (by simp [q]))).trans e) (fun c hc'=>hf' c (by rw [List.mem_singleton.mp hc'];simp))
  refine ⟨.ref s.heap.objs.size,_,I2,rfl,⟨_,x,y,rfl,I.hok.fresh (Nat.le_refl _),rfl,fun xs' q=>by rw [I.tuple_inj q hq1];exact hx,fun ys' q=>by rw [I.list_inj q hq2];exact hy⟩,?_,hnone⟩
  have mv:∀ c o,c≠z->h'.get? c=some o->h2.get? c=some o:=fun c o hn e=>(c2.2 c hn).trans e
  obtain ⟨⟨o3,e3,r3⟩,_⟩:=b3
  obtain ⟨⟨o4,e4,r4⟩,_⟩:=b4
  exact ⟨c1,mv _ _ D.TIz (hk _ _ (by simp [D.TIz,D.TITO,D.TIi1,D.TIi2]) sTI),⟨_,_,mv _ _ D.TOz b2⟩,⟨o3,mv _ _ D.i1z e3,r3⟩,⟨o4,mv _ _ D.i2z e4,r4⟩⟩
 done:=by
  intro X hP hw hK hc i pins s σ H E I hf st hg
  subst hP hw hK
  obtain ⟨xs,ys,hq1,hq2,hx⟩:=hg
  obtain ⟨its1,rv1,p1,hz1⟩:=I.tuple hq1
  have l1:=rv1.length
  obtain ⟨sz,sTI,⟨c,d,sTO⟩,s1,s2⟩:=st
  have hT:s.TypeIs (.ref z) "zip" := ⟨_,sz,rfl⟩
  have W1:=wkr_tup (prog:=X.prog) (w:=X.w) i1 a D.l1i1 its1.toArray
  have ei:its1.toArray.size=i:=by simp;lia
  unfold pyNext;refine wpAny_bind (wpAny_attempt (wpAny_callSpecial?_slot (name:=Str.ofString "__next__") hT F.slot_zip_next (wpAny_call_entry F.slot_zip_next hT F.entry_zip_next (zipw_end (I.ok.hd hc) D W1 sz sTI (by rw [ei];exact ⟨s1,p1⟩) fun h' e hk ⟨oe,e1,e2⟩=>?_) (F.args_zip_next_1 _))))
  refine wpAny_bind (wpAny_isInstance (T := "StopIteration") (b:=true) ⟨oe,e1,e2⟩ isSubtype_stop (wpAny_pure ⟨rfl,I.turnedL (t':=s.toks) (ch:=[z,TO,i1,i2]) hk fun c hc'=>hf c ?_⟩))
  have hc'':c=z\/c=TO\/c=i1\/c=i2:=by simpa using hc'
  rcases hc'' with rfl | rfl | rfl | rfl<;>simp
 self:=fun _ _ _ _ _ st h=>wpAny_pyIter_zip st.1 h
def iZipm(K:PySem.W.Frag)(ta:TA):TI:=fun σ H R=>ta σ H fun vs H1=>∃ a b,vs=[.ref a,.ref b]/\(∃ xs,SqT K H1 a xs)/\(∃ ys,SqL K H1 b ys)/\R (Itzm K a b) H1
theorem pi_zipm{X:Cx}{elts:List Expr}{kk:Nat}{tpos:Pos}{a b:Expr}{ta:TA}{p pos:Pos}(hg:Gl X "zip")(hm:X.mg "zip" = none)(ha:PA X [a,b] ta)(hs:starEach [a,b] X.env=[(false,eval a X.env),(false,eval b X.env)]:=by rfl)(hs2:starEach [b] X.env=[(false,eval b X.env)]:=by rfl) :
  PI X (.Tuple elts kk tpos) (.Call (.Name "zip" p) [a,b] [] pos) (iZipm X.K ta):=by
 intro pins s σ H R I h
 refine Call_ (ld_blt I hg hm PyProof.Rows.boot_zip (PyProof.Rows.callWith_type1 (thn (ha pos pins s σ H _ I h) fun us s1 ⟨vs,H1,I1,r1,q1⟩=>?_) (by rw [hs,hs2]) (by rw [hs2];rfl)))
 obtain ⟨l1,l2,e,⟨xs,hq1⟩,⟨ys,hq2⟩,q⟩:=q1
 subst e
 cases r1 with
 | cons r rr =>
  cases rr with
  | cons r' rr =>
   cases rr
   cases r
   cases r'
   obtain ⟨its1,rv1,p1,hz1⟩:=I1.tuple hq1
   obtain ⟨its2,rv2,p2,hz2⟩:=I1.list hq2
   have hlt1 : @LT.lt Nat _ l1 s1.heap.objs.size:=by obtain ⟨o,e,_⟩:=p1;exact Heap.lt_size e
   have hlt2 : @LT.lt Nat _ l2 s1.heap.objs.size:=by obtain ⟨o,e,_⟩:=p2.isList;exact Heap.lt_size e
   refine zipm_call p1 p2.isList fun h' hz hTI hTO hi1 hi2 hk=>wpAny_pyIter_zip hz ?_
   have D:ZipApart (s1.heap.objs.size+4) (s1.heap.objs.size+2) (s1.heap.objs.size+3) s1.heap.objs.size (s1.heap.objs.size+1) l1 l2:=PySem.W.ktu_apart _ _ _ hlt1 hlt2
   refine ⟨_,[s1.heap.objs.size+4,s1.heap.objs.size+2,s1.heap.objs.size+3,s1.heap.objs.size,s1.heap.objs.size+1],_,_,H1,rfl,I1.kept (t':=s1.toks) hk,turn_zipm l1 l2 _ _ _ _ _ D,⟨hz,hTI,⟨_,_,hTO⟩,hi1,hi2⟩,fun c hc=>?_,q⟩
   have hc':c=s1.heap.objs.size+4\/c=s1.heap.objs.size+2\/c=s1.heap.objs.size+3\/c=s1.heap.objs.size\/c=s1.heap.objs.size+1:=by simpa using hc
   have hle : @LE.le Nat _ s1.heap.objs.size c:=by
    rcases hc' with rfl | rfl | rfl | rfl | rfl
    ·exact Nat.le_add_right _ _
    ·exact Nat.le_add_right _ _
    ·exact Nat.le_add_right _ _
    ·exact Nat.le_refl _
    ·exact Nat.le_add_right _ _
   exact I1.fpOk hle (I1.hok.fresh hle)
theorem for_zipm{K:PySem.W.Frag}{a b:Addr}{xs ys:List V}{g:TG}{tb:TS}{D:Ends}{σ:St}{H:Hp}(Pv:Nat->St->Hp->Prop)(h0:Pv 0 σ H)(hl:∀ i σ H,Pv i σ H->SqT K H a xs/\SqL K H b ys)(he:xs.length=ys.length)
  (hs:∀ i x y p σ H,xs[i]? = some x->ys[i]? = some y->Pv i σ H->H p=none->g (.ref p) σ (upd H p (.tup [x,y])) fun σ2 H2=>tb { D with nx:=Pv (i+1),ct:=Pv (i+1),bk:=D.nx } σ2 H2) (hd:∀ σ H,Pv xs.length σ H->D.nx σ H) :
  ∃ W:Nat->Nat->St->Hp->Prop,(∃ m,W 0 m σ H)/\∀ i m σ H,W i m σ H ->
   ((Itzm K a b).stop i H/\D.nx σ H)\/((Itzm K a b).go i H/\∃ N:St->Hp->Prop,(∀ σ' H',N σ' H'->∃ m',m'<m/\W (i+1) m' σ' H')/\∀ x H',(Itzm K a b).yld i H x H'->g x σ H' fun σ2 H2=>tb { D with nx:=N,ct:=N,bk:=D.nx } σ2 H2):=by
 refine ⟨fun i m σ H=>m=xs.length-i/\i<=xs.length/\Pv i σ H,⟨xs.length,by simp,Nat.zero_le _,h0⟩,?_⟩
 rintro i m σ H ⟨rfl,hi,p⟩
 obtain ⟨q1,q2⟩:=hl i σ H p
 by_cases hlt:i<xs.length
 ·have hlt2:i<ys.length:=by lia
  refine .inr ⟨⟨xs,ys,xs[i],ys[i],q1,q2,he,by simp [hlt],by simp [hlt2]⟩,Pv (i+1),fun σ' H' p'=>⟨xs.length-(i+1),by lia,rfl,hlt,p'⟩,fun v H' y=>?_⟩
  obtain ⟨r,x,y,rfl,hn,rfl,e1,e2⟩:=y
  exact hs i x y r σ H (e1 xs q1) (e2 ys q2) p hn
 ·have e:i=xs.length:=by lia
  subst e
  exact .inl ⟨⟨xs,ys,q1,q2,rfl⟩,hd σ H p⟩
end L2
set_option maxHeartbeats 4000000
namespace K36
open PySem L2
def top(i:Nat):Stmt:=PySem.Challenge.pw_lampforge_k36_stands_good_or_not.main.body.getD i (.Pass ⟨0,0,0,0⟩)
abbrev y_y:Stmt:=top 1
abbrev y_i:Stmt:=top 2
abbrev y_h:Stmt:=top 4
abbrev s_is_end:Stmt:=top 6
abbrev x_e:Stmt:=top 10
abbrev x_f:Stmt:=top 11
abbrev y_a:Stmt:=top 12
abbrev y_l:Stmt:=top 13
abbrev y_c:Stmt:=top 14
abbrev y_u:Stmt:=top 15
abbrev y_x:Stmt:=top 16
abbrev s_below:Stmt:=top 17
abbrev z_y:Stmt:=inClass (top 19) 0
abbrev z_x:Stmt:=inClass (top 19) 1
abbrev z_w:Stmt:=inClass (top 19) 2
abbrev z_z:Stmt:=inClass (top 19) 3
abbrev s_L_row:Stmt:=top 21
abbrev s_L_net:Stmt:=top 22
abbrev y_w:Stmt:=top 23
abbrev s_L_bit:Stmt:=top 24
abbrev s_L_told:Stmt:=top 25
abbrev s_L_due:Stmt:=top 26
abbrev s_L_step:Stmt:=top 27
abbrev s_L_twin:Stmt:=top 28
abbrev s_law:Stmt:=top 29
theorem sc_is_whole:FnScope ["thing"] ["thing"] (z_e y_y):=⟨rfl,rfl,rfl,by decide +kernel,rfl,by decide +kernel,by decide +kernel⟩
theorem sc_is_between:FnScope ["thing", "low", "high"] ["thing", "low", "high"] (z_e y_i):=⟨rfl,rfl,rfl,by decide +kernel,rfl,by decide +kernel,by decide +kernel⟩
theorem sc_all_stands:FnScope ["many", "numbers", "high", "beyond", "place"] ["many"] (z_e y_h):=⟨rfl,rfl,rfl,by decide +kernel,rfl,by decide +kernel,by decide +kernel⟩
theorem sc_is_end:FnScope ["thing", "knots"] ["thing", "knots"] (z_e s_is_end):=⟨rfl,rfl,rfl,by decide +kernel,rfl,by decide +kernel,by decide +kernel⟩
theorem sc_is_good:FnScope ["net", "classes", "step", "found"] ["net", "classes", "step"] (z_e x_e):=⟨rfl,rfl,rfl,by decide +kernel,rfl,by decide +kernel,by decide +kernel⟩
theorem sc_is_step:FnScope ["net", "classes", "thing", "knots", "knots_of_leaves"] ["net", "classes", "thing"] (z_e x_f):=⟨rfl,rfl,rfl,by decide +kernel,rfl,by decide +kernel,by decide +kernel⟩
theorem sc_bits_of_both:FnScope ["net", "classes", "step", "stands", "high", "given", "leaf", "bits", "turned"] ["net", "classes", "step"] (z_e y_a):=⟨rfl,rfl,rfl,by decide +kernel,rfl,by decide +kernel,by decide +kernel⟩
theorem sc_both_bits:FnScope ["one", "other"] ["one", "other"] (z_e y_l):=⟨rfl,rfl,rfl,by decide +kernel,rfl,by decide +kernel,by decide +kernel⟩
theorem sc_found_of:FnScope ["net", "classes", "given", "ends", "turned", "both", "found", "gates", "waiting", "end", "things"] ["net", "classes", "given", "ends", "turned", "both"] (z_e y_x):=⟨rfl,rfl,rfl,by decide +kernel,rfl,by decide +kernel,by decide +kernel⟩
theorem sc_below:FnScope ["net", "end"] ["net", "end"] (z_e s_below):=⟨rfl,rfl,rfl,by decide +kernel,rfl,by decide +kernel,by decide +kernel⟩
theorem sc_Classes_init:FnScope ["self", "knots"] ["self", "knots"] (z_e z_y):=⟨rfl,rfl,rfl,by decide +kernel,rfl,by decide +kernel,by decide +kernel⟩
theorem sc_Classes_least:FnScope ["self", "end", "lesser", "way", "passed"] ["self", "end"] (z_e z_x):=⟨rfl,rfl,rfl,by decide +kernel,rfl,by decide +kernel,by decide +kernel⟩
theorem sc_Classes_alike:FnScope ["self", "one", "other"] ["self", "one", "other"] (z_e z_w):=⟨rfl,rfl,rfl,by decide +kernel,rfl,by decide +kernel,by decide +kernel⟩
theorem sc_Classes_join:FnScope ["self", "one", "other", "low", "high"] ["self", "one", "other"] (z_e z_z):=⟨rfl,rfl,rfl,by decide +kernel,rfl,by decide +kernel,by decide +kernel⟩
theorem sc_L_row:FnScope ["_law_script", "_law_at", "_law_many", "_law_cell", "_law_rest", "_law_great", "_law_row_here", "_law_k", "_law_one"] ["_law_script", "_law_at", "_law_many"] (z_e s_L_row):=⟨rfl,rfl,rfl,by decide +kernel,rfl,by decide +kernel,by decide +kernel⟩
theorem sc_L_net:FnScope ["_law_row_here", "_law_sizes", "_law_leaves", "_law_gates", "_law_k"] ["_law_row_here", "_law_sizes"] (z_e s_L_net):=⟨rfl,rfl,rfl,by decide +kernel,rfl,by decide +kernel,by decide +kernel⟩
theorem sc_L_joined:FnScope ["_law_labels", "_law_one", "_law_other", "_law_pairs"] ["_law_labels", "_law_one", "_law_other"] (z_e y_w):=⟨rfl,rfl,rfl,by decide +kernel,rfl,by decide +kernel,by decide +kernel⟩
theorem sc_L_bit:FnScope ["_law_labels", "_law_bits", "_law_stand", "_law_end", "_law_leaf", "_law_bit_here"] ["_law_labels", "_law_bits", "_law_stand", "_law_end"] (z_e s_L_bit):=⟨rfl,rfl,rfl,by decide +kernel,rfl,by decide +kernel,by decide +kernel⟩
theorem sc_L_told:FnScope ["_law_net_here", "_law_labels", "_law_stand", "_law_one", "_law_other", "_law_bits", "_law_a", "_law_b", "_law_mine", "_law_yours"] ["_law_net_here", "_law_labels", "_law_stand", "_law_one", "_law_other"] (z_e s_L_told):=⟨rfl,rfl,rfl,by decide +kernel,rfl,by decide +kernel,by decide +kernel⟩
theorem sc_L_due:FnScope ["_law_net_here", "_law_labels", "_law_step_here", "_law_leaves", "_law_seen", "_law_leaf", "_law_number", "_law_stand", "_law_k", "_law_mine", "_law_yours"] ["_law_net_here", "_law_labels", "_law_step_here"] (z_e s_L_due):=⟨rfl,rfl,rfl,by decide +kernel,rfl,by decide +kernel,by decide +kernel⟩
theorem sc_L_step:FnScope ["_law_net_here", "_law_row_here", "_law_ends", "_law_one", "_law_other", "_law_leaves", "_law_at"] ["_law_net_here", "_law_row_here"] (z_e s_L_step):=⟨rfl,rfl,rfl,by decide +kernel,rfl,by decide +kernel,by decide +kernel⟩
theorem sc_L_twin:FnScope ["_law_net_here", "_law_row_here", "_law_a", "_law_b"] ["_law_net_here", "_law_row_here"] (z_e s_L_twin):=⟨rfl,rfl,rfl,by decide +kernel,rfl,by decide +kernel,by decide +kernel⟩
theorem sc_law:FnScope ["_law_script", "_law_sizes", "_law_net_here", "_law_knots", "_law_some", "_law_labels", "_law_row_here", "_law_k", "_law_one", "_law_other", "_law_kept", "_law_step_here", "_law_at", "_law_said"] ["_law_script"] (z_e s_law):=⟨rfl,rfl,rfl,by decide +kernel,rfl,by decide +kernel,by decide +kernel⟩
abbrev z_v:Pos:=⟨49,4,50,52⟩
abbrev z_t:Str := "bits_of_both.<locals>.turned"
abbrev y_q:Pos:=⟨61,52,61,72⟩
abbrev y_r:Str := "sets_of_both.<locals>.<lambda>"
set_option genInjectivity false in
set_option genSizeOfSpec false in
structure Ad where
 a_is_whole:Addr
 d_is_whole:FuncData
 a_is_between:Addr
 d_is_between:FuncData
 a_all_stands:Addr
 d_all_stands:FuncData
 a_is_end:Addr
 d_is_end:FuncData
 a_is_good:Addr
 d_is_good:FuncData
 a_is_step:Addr
 d_is_step:FuncData
 a_bits_of_both:Addr
 d_bits_of_both:FuncData
 a_both_bits:Addr
 d_both_bits:FuncData
 a_sets_of_both:Addr
 d_sets_of_both:FuncData
 a_both_sets:Addr
 d_both_sets:FuncData
 a_found_of:Addr
 d_found_of:FuncData
 a_below:Addr
 d_below:FuncData
 a_Classes_init:Addr
 d_Classes_init:FuncData
 a_Classes_least:Addr
 d_Classes_least:FuncData
 a_Classes_alike:Addr
 d_Classes_alike:FuncData
 a_Classes_join:Addr
 d_Classes_join:FuncData
 a_L_row:Addr
 d_L_row:FuncData
 a_L_net:Addr
 d_L_net:FuncData
 a_L_joined:Addr
 d_L_joined:FuncData
 a_L_bit:Addr
 d_L_bit:FuncData
 a_L_told:Addr
 d_L_told:FuncData
 a_L_due:Addr
 d_L_due:FuncData
 a_L_step:Addr
 d_L_step:FuncData
 a_L_twin:Addr
 d_L_twin:FuncData
 a_law:Addr
 d_law:FuncData
 a_MOST_LEAVES:Addr
 c_Classes:Addr
 tc_bits_of_both:Addr
 tp_bits_of_both:Addr
 tc_sets_of_both:Addr
 tp_sets_of_both:Addr
def sp_wholeI:Sp:=fun vs H Q _=>∃ i:Int,vs=[.int i]/\Q (.bl true) H
def sp_betI:Sp:=fun vs H Q _=>∃ i lo hi:Int,vs=[.int i,.int lo,.int hi]/\Q (.bl (decide (lo<=i)&&decide (i<=hi))) H
def sp_endI:Sp:=fun vs H Q _=>∃ i k:Int,vs=[.int i,.int k]/\Q (.bl (decide (0<=i)&&decide (i<=2*k-1))) H
def nv_any:Sp:=fun _ _ _ _=>False
theorem no_fn{P:Program}{w:World}{K:PySem.W.Frag}{mg:Str->Option Value}{base:Heap}{k:Nat}{f:Addr}{fd:FuncData}{ps:List Str}:FnOk P w K mg base CX0 k f fd ps nv_any:=⟨fun vs H Q E q=>(show False from q).elim,fun _ _ _ _ _ _ _ _ _ _ _ _ _ q=>(show False from q).elim⟩
def sp_law(K:PySem.W.Frag)(P:Addr)(lp:Pos)(lq:Str)(P2:Addr)(lp2:Pos)(lq2:Str):Sp:=fun vs H Q _=>∃ (a:Addr) (ns:List Int),vs=[.ref a]/\SqL K H a (ns.map V.int)/\ns.length<=63/\H P=some (.tbl lp lq)/\H P2=some (.tbl lp2 lq2)/\∀ H',Q (.bl true) H'
structure Tx(w:World)(K:PySem.W.Frag)(mg:Str->Option Value)(A:Ad):Prop where
 abs:mg "abs" = none
 all:mg "all" = none
 bool:mg "bool" = none
 int:mg "int" = none
 isinstance:mg "isinstance" = none
 len:mg "len" = none
 list:mg "list" = none
 max:mg "max" = none
 min:mg "min" = none
 range:mg "range" = none
 set:mg "set" = none
 sorted:mg "sorted" = none
 str:mg "str" = none
 tuple:mg "tuple" = none
 zip:mg "zip" = none
 g_MOST_LEAVES:mg "MOST_LEAVES" = some (.ref A.a_MOST_LEAVES)
 D_MOST_LEAVES:∃ kvs,TopD w K A.a_MOST_LEAVES kvs/\kvs.lookup ("stands" : Str)=some (V.int 6)
 g_LOW:∃ t,mg "LOW" = some (.str "low" t)
 F_is_whole:Fun K "is_whole" "is_whole" y_y A.a_is_whole A.d_is_whole
 B_is_whole:Binds K A.d_is_whole ["thing"] []
 M_is_whole:mg "is_whole" = some (.ref A.a_is_whole)
 F_is_between:Fun K "is_between" "is_between" y_i A.a_is_between A.d_is_between
 B_is_between:Binds K A.d_is_between ["thing", "low", "high"] []
 M_is_between:mg "is_between" = some (.ref A.a_is_between)
 F_all_stands:Fun K "all_stands" "all_stands" y_h A.a_all_stands A.d_all_stands
 B_all_stands:Binds K A.d_all_stands ["many"] []
 M_all_stands:mg "all_stands" = some (.ref A.a_all_stands)
 F_is_end:Fun K "is_end" "is_end" s_is_end A.a_is_end A.d_is_end
 B_is_end:Binds K A.d_is_end ["thing", "knots"] []
 M_is_end:mg "is_end" = some (.ref A.a_is_end)
 F_is_good:Fun K "is_good" "is_good" x_e A.a_is_good A.d_is_good
 B_is_good:Binds K A.d_is_good ["net", "classes", "step"] []
 M_is_good:mg "is_good" = some (.ref A.a_is_good)
 F_is_step:Fun K "is_step" "is_step" x_f A.a_is_step A.d_is_step
 B_is_step:Binds K A.d_is_step ["net", "classes", "thing"] []
 M_is_step:mg "is_step" = some (.ref A.a_is_step)
 F_bits_of_both:Fun K "bits_of_both" "bits_of_both" y_a A.a_bits_of_both A.d_bits_of_both
 B_bits_of_both:Binds K A.d_bits_of_both ["net", "classes", "step"] []
 M_bits_of_both:mg "bits_of_both" = some (.ref A.a_bits_of_both)
 F_both_bits:Fun K "both_bits" "both_bits" y_l A.a_both_bits A.d_both_bits
 B_both_bits:Binds K A.d_both_bits ["one", "other"] []
 M_both_bits:mg "both_bits" = some (.ref A.a_both_bits)
 F_sets_of_both:Fun K "sets_of_both" "sets_of_both" y_c A.a_sets_of_both A.d_sets_of_both
 B_sets_of_both:Binds K A.d_sets_of_both ["net", "classes", "step"] []
 M_sets_of_both:mg "sets_of_both" = some (.ref A.a_sets_of_both)
 F_both_sets:Fun K "both_sets" "both_sets" y_u A.a_both_sets A.d_both_sets
 B_both_sets:Binds K A.d_both_sets ["one", "other"] []
 M_both_sets:mg "both_sets" = some (.ref A.a_both_sets)
 F_found_of:Fun K "found_of" "found_of" y_x A.a_found_of A.d_found_of
 B_found_of:Binds K A.d_found_of ["net", "classes", "given", "ends", "turned", "both"] []
 M_found_of:mg "found_of" = some (.ref A.a_found_of)
 F_below:Fun K "below" "below" s_below A.a_below A.d_below
 B_below:Binds K A.d_below ["net", "end"] []
 M_below:mg "below" = some (.ref A.a_below)
 F_Classes_init:Fun K "__init__" "Classes.__init__" z_y A.a_Classes_init A.d_Classes_init
 B_Classes_init:Binds K A.d_Classes_init ["self", "knots"] []
 mk_Classes:Mk K A.c_Classes A.a_Classes_init
 F_Classes_least:Fun K "least" "Classes.least" z_x A.a_Classes_least A.d_Classes_least
 B_Classes_least:Binds K A.d_Classes_least ["self", "end"] []
 me_Classes_least:Meth K A.c_Classes "least" A.a_Classes_least
 F_Classes_alike:Fun K "alike" "Classes.alike" z_w A.a_Classes_alike A.d_Classes_alike
 B_Classes_alike:Binds K A.d_Classes_alike ["self", "one", "other"] []
 me_Classes_alike:Meth K A.c_Classes "alike" A.a_Classes_alike
 F_Classes_join:Fun K "join" "Classes.join" z_z A.a_Classes_join A.d_Classes_join
 B_Classes_join:Binds K A.d_Classes_join ["self", "one", "other"] []
 me_Classes_join:Meth K A.c_Classes "join" A.a_Classes_join
 F_L_row:Fun K "_law_row" "_law_row" s_L_row A.a_L_row A.d_L_row
 B_L_row:Binds K A.d_L_row ["_law_script", "_law_at", "_law_many"] []
 M_L_row:mg "_law_row" = some (.ref A.a_L_row)
 F_L_net:Fun K "_law_net" "_law_net" s_L_net A.a_L_net A.d_L_net
 B_L_net:Binds K A.d_L_net ["_law_row_here", "_law_sizes"] []
 M_L_net:mg "_law_net" = some (.ref A.a_L_net)
 F_L_joined:Fun K "_law_joined" "_law_joined" y_w A.a_L_joined A.d_L_joined
 B_L_joined:Binds K A.d_L_joined ["_law_labels", "_law_one", "_law_other"] []
 M_L_joined:mg "_law_joined" = some (.ref A.a_L_joined)
 F_L_bit:Fun K "_law_bit" "_law_bit" s_L_bit A.a_L_bit A.d_L_bit
 B_L_bit:Binds K A.d_L_bit ["_law_labels", "_law_bits", "_law_stand", "_law_end"] []
 M_L_bit:mg "_law_bit" = some (.ref A.a_L_bit)
 F_L_told:Fun K "_law_told" "_law_told" s_L_told A.a_L_told A.d_L_told
 B_L_told:Binds K A.d_L_told ["_law_net_here", "_law_labels", "_law_stand", "_law_one", "_law_other"] []
 M_L_told:mg "_law_told" = some (.ref A.a_L_told)
 F_L_due:Fun K "_law_due" "_law_due" s_L_due A.a_L_due A.d_L_due
 B_L_due:Binds K A.d_L_due ["_law_net_here", "_law_labels", "_law_step_here"] []
 M_L_due:mg "_law_due" = some (.ref A.a_L_due)
 F_L_step:Fun K "_law_step" "_law_step" s_L_step A.a_L_step A.d_L_step
 B_L_step:Binds K A.d_L_step ["_law_net_here", "_law_row_here"] []
 M_L_step:mg "_law_step" = some (.ref A.a_L_step)
 F_L_twin:Fun K "_law_twin" "_law_twin" s_L_twin A.a_L_twin A.d_L_twin
 B_L_twin:Binds K A.d_L_twin ["_law_net_here", "_law_row_here"] []
 M_L_twin:mg "_law_twin" = some (.ref A.a_L_twin)
 F_law:Fun K "law" "law" s_law A.a_law A.d_law
 B_law:Binds K A.d_law ["_law_script"] []
 M_law:mg "law" = some (.ref A.a_law)
 cl_Classes:Cls K A.c_Classes
 M_Classes:mg "Classes" = some (.ref A.c_Classes)
 n_Classes_lesser:NoAttr K A.c_Classes "lesser"
 L_bits_of_both:A.d_bits_of_both.code = .ref A.tc_bits_of_both
 L_sets_of_both:A.d_sets_of_both.code = .ref A.tc_sets_of_both
section
variable {P:Program} {w:World} {K:PySem.W.Frag} {mg:Str->Option Value} {base:Heap} {A:Ad}
seal L2.PE L2.PA L2.PT L2.PS L2.PSs
theorem ok_is_whole(T:Tx w K mg A):FnOk P w K mg base CX0 1 A.a_is_whole A.d_is_whole ["thing"] sp_wholeI:=by
 refine T.F_is_whole.ok sc_is_whole (fun vs H Q E h=>?_) (fun cdv A' outer s H vs Q E hr h=>?_)
 ·obtain ⟨i,rfl,q⟩:=h
  rfl
 obtain ⟨i,rfl,q⟩:=h
 refine ⟨_,(z_j (y_b (pe_and (z_r (call_isinst (T := "int")) rfl T.isinstance PyProof.Rows.boot_isinstance (z_a (pv 0) (z_a (pe_bltn (v:=.ty "int") rfl T.int PyProof.Rows.boot_int rfl) z_f))) (pe_one (pe_not (z_r (call_isinst (T := "bool")) rfl T.isinstance PyProof.Rows.boot_isinstance (z_a (pv 0) (z_a (pe_bltn (v:=.ty "bool") rfl T.bool PyProof.Rows.boot_bool rfl) z_f)))))))),?_⟩
 refine ⟨_,rfl,_,_,true,rfl,TyOf.int _,rfl,_,rfl,?_⟩
 exact iteT ⟨_,rfl,_,_,false,rfl,TyOf.int _,rfl,_,rfl,q⟩
theorem ok_is_between(T:Tx w K mg A)(G_is_whole:FnOk P w K mg base CX0 1 A.a_is_whole A.d_is_whole ["thing"] sp_wholeI):FnOk P w K mg base CX0 2 A.a_is_between A.d_is_between ["thing", "low", "high"] sp_betI:=by
 refine T.F_is_between.ok sc_is_between (fun vs H Q E h=>?_) (fun cdv A' outer s H vs Q E hr h=>?_)
 ·obtain ⟨i,lo,hi,rfl,q⟩:=h
  rfl
 obtain ⟨i,lo,hi,rfl,q⟩:=h
 refine ⟨_,(z_j (y_b (pe_and (y_e G_is_whole (hr.mono (by first | decide | lia)) rfl T.M_is_whole T.F_is_whole.kp T.B_is_whole .nil pass0 (z_a (pv 0) z_f)) (pe_one (pe_chain op_le op_le (pv 1) (pv 0) (pv 2)))))),?_⟩
 refine ⟨_,rfl,i,rfl,_,rfl,?_⟩
 refine iteT ⟨_,rfl,_,rfl,_,_,rfl,rfl,_,rfl,?_⟩
 by_cases h:lo<=i
 ·rw [decide_eq_true h,Bool.true_and] at q
  exact x_d (decide_eq_true h) ⟨_,rfl,_,_,rfl,rfl,q⟩
 ·rw [decide_eq_false h,Bool.false_and] at q
  exact y_s (decide_eq_false h) q
theorem ok_all_stands(T:Tx w K mg A):FnOk P w K mg base CX0 1 A.a_all_stands A.d_all_stands ["many"] sp_all_stands:=by
 refine T.F_all_stands.ok sc_all_stands (fun vs H Q E h=>?_) (fun cdv A' outer s H vs Q E hr h=>?_)
 ·obtain ⟨n,rfl,hn,q⟩:=h
  rfl
 obtain ⟨n,rfl,hn,q⟩:=h
 refine ⟨_,(z_c (z_q (i:=1) sc_all_stands.nd rfl (Or.inl rfl) (pe_lst z_f))
  (z_c (z_q (i:=2) sc_all_stands.nd rfl (Or.inl rfl) z_b)
  (z_c (z_q (i:=3) sc_all_stands.nd rfl (Or.inr rfl) z_b)
  (z_c (ps_for PassesOwn.never rfl (x_b rfl T.range (z_a (pv 0) z_f)) (y_j (i:=4) sc_all_stands.nd rfl (Or.inl rfl))
    (z_c (ps_comp [3] sc_all_stands.nd (i:=1) rfl (Or.inl rfl) (fun _ _ h=>h) rfl (pi_list (pv 1)) (fun _ _ _ _=>x_i) (fun _ _ _ _=>(z_i y_m (pv 0) (z_i y_k (pv 1) z_b))) rfl (show ∀ j∈([3]:List Nat),j<5 by decide) (show (["number", "beyond"]:List Str).Nodup by decide +kernel) (by with_unfolding_all rfl))
  (z_c (ps_expr (pe_bm PySem.F.plainAttrs_list PySem.F.slot_list_append PySem.F.type_list_append x_h (pv 1) (z_a (z_i y_m (pv 2) (pv 3)) z_f)))
  (z_c (z_q (i:=2) sc_all_stands.nd rfl (Or.inl rfl) (z_i y_m (pv 2) (z_i y_k (pv 3) z_b)))
  (z_j (z_q (i:=3) sc_all_stands.nd rfl (Or.inr rfl) (z_i y_m (pv 3) (pv 3))))))))
  (z_j (y_b (pe_tup (z_a (pv 1) (z_a (pv 2) z_f))))))))),?_⟩
 refine ⟨(by show 0<=sizeLine;decide),fun z hz=>?_⟩
 have s0:=z_h hz (.lst [])
 refine ⟨_,rfl,_,rfl,by lia,by lia,for_range (lo:=0) (fun i σ H'=>∃ (x:Option V) (a:Addr),σ=[some (.int (n:Int)),some (.ref a),some (.int ((2^2^i-1:Nat):Int)),some (.int ((2^2^i:Nat):Int)),x]/\Same H H'/\H a=none/\H' a=some (.lst ((sdL i).map fun x=>.int ((x:Nat):Int)))) ⟨_,_,rfl,s0,hz,z_d⟩ ?_ ?_⟩
 ·rintro i σ H3 hi ⟨x,a,rfl,s3,ha,fa⟩
  have hi6:i<6:=by lia
  have p32:2^2^i<=2^32:=Nat.pow_le_pow_right (by decide) (Nat.le_trans (Nat.pow_le_pow_right (by decide) (show i<=5 by lia)) (by decide))
  have p1:=Nat.one_le_two_pow (n:=2^i)
  have e1:=ones_succ i
  have e2:=sq_succ i
  have e3:=sdL_succ i
  have hl:=sdL_len (n:=i)
  generalize 2^2^i=b at p32 p1 e1 e2 e3 ⊢
  generalize 2^2^(i+1)=b' at e1 e2 ⊢
  refine ⟨_,rfl,a,rfl,⟨_,SqL.of fa⟩,comp_list_map (xs:=(sdL i).map fun x=>V.int ((x:Nat):Int)) (onI (· * ((b:Int)+1))) (SqL.of fa) (by rw [List.length_map,hl];lia) (fun x hx N hN=>?_) ?_⟩
  ·obtain ⟨v,_,rfl⟩:=List.mem_map.mp hx
   exact ⟨_,rfl,_,rfl,_,_,rfl,rfl,_,_,rfl,rfl,.inr ⟨by lia,by lia⟩,hN⟩
  intro y hy
  have hm:((sdL i).map fun x=>V.int ((x:Nat):Int)).map (onI (· * ((b:Int)+1)))=((sdL i).map fun x=>x*(b+1)).map fun x=>V.int ((x:Nat):Int):=by
   rw [List.map_map,List.map_map]
   refine List.map_congr_left fun x _=>?_
   show V.int (((x:Nat):Int)*((b:Int)+1))=V.int ((x*(b+1):Nat):Int)
   rw [Int.natCast_mul,Int.natCast_add]
   rfl
  rw [hm]
  refine ⟨_,rfl,.inl ⟨rfl,_,SqL.of z_d⟩,_,rfl,_,rfl,_,_,rfl,rfl,.inr ⟨by lia,by lia⟩,y,_,_,rfl,rfl,z_d,y_n (by rw [List.length_map,List.length_map,hl];lia),?_⟩
  refine ⟨_,rfl,_,rfl,_,_,rfl,rfl,_,_,rfl,rfl,.inr ⟨by lia,by lia⟩,?_⟩
  refine ⟨_,rfl,_,rfl,_,_,rfl,rfl,.inr ⟨by lia,by lia⟩,?_⟩
  refine ⟨some (.int (0+(i:Int))),y,?_,sameUpd (sameUpd s3 (s3.free hy) _) (s3.free hy) _,s3.free hy,?_⟩
  ·have a1:((b-1:Nat):Int)*((b:Int)+1)=((b'-1:Nat):Int):=by rw [<-e1,Int.natCast_mul,Int.natCast_add];rfl
   have a2:(b:Int)*(b:Int)=(b':Int):=by rw [<-e2,Int.natCast_mul]
   rw [<-a1,<-a2]
   rfl
  ·rw [z_d,e3,List.map_append]
   show _=some (HO.lst (_++[V.int (((b-1)*b:Nat):Int)]))
   rw [Int.natCast_mul]
 ·rintro σ H3 ⟨x,a,rfl,s3,ha,fa⟩
  refine ⟨_,rfl,_,rfl,(by show 2<=sizeLine;decide),fun p hp=>?_⟩
  exact q p a _ (s3.free hp) ha (s3.trans (z_h hp _)) z_d (z_h hp _ _ _ fa)
theorem ok_is_end(T:Tx w K mg A)(G_is_between:FnOk P w K mg base CX0 2 A.a_is_between A.d_is_between ["thing", "low", "high"] sp_betI):FnOk P w K mg base CX0 3 A.a_is_end A.d_is_end ["thing", "knots"] sp_endI:=by
 refine T.F_is_end.ok sc_is_end (fun vs H Q E h=>?_) (fun cdv A' outer s H vs Q E hr h=>?_)
 ·obtain ⟨i,k,rfl,q⟩:=h
  rfl
 obtain ⟨i,k,rfl,q⟩:=h
 refine ⟨_,(z_j (y_b (y_e G_is_between (hr.mono (by first | decide | lia)) rfl T.M_is_between T.F_is_between.kp T.B_is_between .nil pass0 (z_a (pv 0) (z_a z_b (z_a (z_i op_sub (z_i y_m z_b (pv 1)) z_b) z_f)))))),?_⟩
 exact ⟨_,rfl,_,rfl,_,_,rfl,rfl,.inl ⟨by decide,by decide⟩,_,_,rfl,rfl,i,_,_,rfl,q⟩
theorem ok_Classes_least(T:Tx w K mg A):FnOk P w K mg base CX0 1 A.a_Classes_least A.d_Classes_least ["self", "end"] (sp_C_least A.c_Classes):=by
 refine T.F_Classes_least.ok sc_Classes_least (fun vs H Q E h=>?_) (fun cdv A' outer s H vs Q E hr h=>?_)
 ·obtain ⟨o,l,n,R,e,rfl,⟨⟨dx,ho⟩,L,hl,u,hn⟩,he,q⟩:=h
  rfl
 obtain ⟨o,l,n,R,e,rfl,⟨⟨dx,ho⟩,L,hl,u,hn⟩,he,q⟩:=h
 refine ⟨_,(z_c (z_q (i:=2) sc_Classes_least.nd rfl (Or.inl rfl) (pe_fld (pv 0) rfl))
  (z_c (z_q (i:=3) sc_Classes_least.nd rfl (Or.inl rfl) (pe_lst z_f))
  (z_c (ps_while PassesOwn.never (z_s op_ne (z_i y_p (z_p z_o (pv 2) (z_i y_p (pv 1) z_b) (fun _ _=>rfl)) z_b) (z_i y_p (pv 1) z_b) (nomark _))
    (z_c (ps_expr (pe_bm PySem.F.plainAttrs_list PySem.F.slot_list_append PySem.F.type_list_append x_h (pv 3) (z_a (pv 1) z_f)))
  (z_j (z_q (i:=1) sc_Classes_least.nd rfl (Or.inl rfl) (z_i op_xor (z_p z_o (pv 2) (z_i y_p (pv 1) z_b) (fun _ _=>rfl)) (z_i y_d (pv 1) z_b))))))
  (z_c (ps_for PassesOwn.never rfl (pi_list (pv 3)) (y_j (i:=4) sc_Classes_least.nd rfl (Or.inl rfl))
    (z_j (ps_asg (z_i op_xor (pv 1) (z_i y_d (pv 4) z_b)) (pg_sub (pv 2) (z_i y_p (pv 4) z_b) set_list))))
  (z_j (y_b (pv 1))))))),?_⟩
 have nol:o≠l:=ClsAt.ne (C:=A.c_Classes) ⟨⟨dx,ho⟩,L,hl,u,hn⟩
 refine ⟨_,rfl,o,A.c_Classes,dx,_,_,rfl,ho,T.cl_Classes,T.n_Classes_lesser,lk_lesser,?_⟩
 refine ⟨(by show 0<=sizeLine;decide),fun pw hpw=>?_⟩
 have nlw:l≠pw:=z_g hl hpw
 have now:o≠pw:=z_g ho hpw
 let WI:Nat->St->Hp->Prop:=fun m σ H1=>∃ (c:Nat) (ws:List Nat),σ=[some (.ref o),some (.int (c:Int)),some (.ref l),some (.ref pw),none]/\m=c/\Same H H1/\H1 pw=some (.lst (natsV ws))/\c/2<n/\R c=R e/\ws.length+c/2<=e/2/\∀ w∈ws,w/2<n/\R w=R e/\R w/2<w/2
 refine ⟨WI,⟨e,e,[],rfl,rfl,z_h hpw _,z_d,he,rfl,by simp,fun _ h=>nomatch h⟩,?_⟩
 rintro m σ H1 ⟨c,ws,rfl,rfl,s1,hw1,hc,hR,hlen,hall⟩
 have hl1:=s1 _ _ hl
 have hat:=at_nats (L:=L) (c:=m) (by rw [u.len];exact hc)
 refine ⟨_,rfl,_,rfl,_,_,rfl,rfl,⟨by decide,by decide⟩,l,_,_,_,rfl,rfl,SqL.of hl1,hat,_,_,rfl,rfl,⟨by decide,by decide⟩,_,rfl,_,_,rfl,rfl,⟨by decide,by decide⟩,rfl,_,rfl,?_⟩
 by_cases hroot:L.getD (m/2) 0/2=m/2
 ·refine y_s (by rw [decide_eq_true (congrArg V.int (show ((L.getD (m/2) 0:Nat):Int)/2=(m:Int)/2 by lia))];rfl) ?_
  have hRm:=u.here hc hroot
  rw [hR] at hRm
  refine ⟨_,rfl,pw,rfl,⟨_,SqL.of hw1⟩,for_list (xs:=natsV ws) (fun i σ H'=>∃ (z:Option V) (L':List Nat),σ=[some (.ref o),some (.int (m:Int)),some (.ref l),some (.ref pw),z]/\Ch l H1 H'/\H' l=some (.lst (natsV L'))/\Uf n L' R) ⟨_,L,rfl,Ch.refl,hl1,u⟩ ?_ ?_ ?_⟩
  ·rintro i σ H' _ ⟨z,L',rfl,ch,_,_⟩
   exact SqL.of (ch _ _ (Ne.symm nlw) hw1)
  ·rintro i v σ H' hv ⟨z,L',rfl,ch,hl',u'⟩
   have hv':∃ w∈ws,v = .int ((w:Nat):Int):=by
    have:=List.mem_of_getElem? hv
    unfold natsV at this
    obtain ⟨w,hw,e⟩:=List.mem_map.mp this
    exact ⟨w,hw,e.symm⟩
   obtain ⟨w,hw,rfl⟩:=hv'
   obtain ⟨a1,a2,a3⟩:=hall w hw
   have hx:Builtin.bitXor (m:Int) ((w:Int)%2)=((m^^^(w%2):Nat):Int):=by
    rw [show (w:Int)%2=((w%2:Nat):Int) by lia]
    exact xor_nat m (w%2)
   refine ⟨_,rfl,_,rfl,_,_,rfl,rfl,(by show (0:Int)<2;decide),_,_,rfl,rfl,_,rfl,_,rfl,_,_,rfl,rfl,⟨by decide,by decide⟩,l,_,_,w/2,rfl,rfl,hl',?_,?_⟩
   ·exact ixN_half (by rw [u'.len];exact a1)
   ·dsimp only
    rw [hx,natsV_set]
    refine ⟨_,_,rfl,ch.trans (Ch.put _),z_d,?_⟩
    have:=u'.press a1 a3
    rw [a2,hRm] at this
    exact this
  ·rintro σ H' ⟨z,L',rfl,ch,hl',u'⟩
   refine ⟨_,rfl,?_⟩
   rw [<-hRm]
   exact q H' ((s1.ch).trans ch) ⟨⟨dx,ch _ _ nol (s1 _ _ ho)⟩,L',hl',u',hn⟩
 ·refine x_d (by rw [decide_eq_false (by intro h;injection h with h;lia)];rfl) ?_
  obtain ⟨b1,b2,b3⟩:=u.lt hc hroot
  have hx:Builtin.bitXor ((L.getD (m/2) 0:Nat):Int) ((m:Int)%2)=((L.getD (m/2) 0^^^(m%2):Nat):Int):=by
   rw [show (m:Int)%2=((m%2:Nat):Int) by lia]
   exact xor_nat _ _
  have hd:=sx_div (L.getD (m/2) 0) (m%2) (by lia)
  refine ⟨fun σ' H'=>∃ m',m'<m/\WI m' σ' H',fun _ _ h=>h,?_⟩
  refine ⟨_,rfl,.inl ⟨rfl,_,SqL.of hw1⟩,_,rfl,pw,_,_,rfl,rfl,hw1,y_n (by rw [z_l];lia),?_⟩
  refine ⟨_,rfl,_,rfl,_,_,rfl,rfl,⟨by decide,by decide⟩,l,_,_,_,rfl,rfl,SqL.of (by rw [z_n nlw];exact hl1),hat,_,rfl,_,_,rfl,rfl,(by show (0:Int)<2;decide),_,_,rfl,rfl,?_⟩
  dsimp only
  rw [hx]
  refine ⟨_,?_,_,ws++[m],rfl,rfl,sameUpd s1 hpw _,?_,?_,?_,?_,?_⟩
  ·lia
  ·rw [z_d];unfold natsV;rw [List.map_append];rfl
  ·lia
  ·rw [<-b3];exact hR
  ·rw [List.length_append,List.length_singleton];lia
  ·intro w hw
   rcases List.mem_append.mp hw with h | h
   ·exact hall w h
   ·rw [List.mem_singleton.mp h]
    exact ⟨hc,hR,b1⟩
theorem ok_is_step(T:Tx w K mg A)(G_Classes_least:FnOk P w K mg base CX0 1 A.a_Classes_least A.d_Classes_least ["self", "end"] (sp_C_least A.c_Classes))(G_is_end:FnOk P w K mg base CX0 3 A.a_is_end A.d_is_end ["thing", "knots"] sp_endI):FnOk P w K mg base CX0 4 A.a_is_step A.d_is_step ["net", "classes", "thing"] (sp_step A.c_Classes):=by
 refine T.F_is_step.ok sc_is_step (fun vs H Q E h=>?_) (fun cdv A' outer s H vs Q E hr h=>?_)
 ·obtain ⟨net,g,o,l,st,lt,rs,L,n,a,b,gs,R,ls,rfl,hS,q⟩:=h
  rfl
 obtain ⟨net,g,o,l,st,lt,rs,L,n,a,b,gs,R,ls,rfl,hS,q⟩:=h
 obtain ⟨kvsT,D_MOST_LEAVES,hkvs⟩:=T.D_MOST_LEAVES
 have hu64:=hr.units
 refine ⟨_,(z_c (ps_if (PW.pt (pw_or (pt_not (pt_truth (z_r (call_isinst (T := "tuple")) rfl T.isinstance PyProof.Rows.boot_isinstance (z_a (pv 2) (z_a (pe_bltn (v:=.ty "tuple") rfl T.tuple PyProof.Rows.boot_tuple rfl) z_f))) (fun _=>rfl))) (pw_or (z_s op_ne (z_r y_o rfl T.len PySem.boot_len (z_a (pv 2) z_f)) z_b (nomark _)) (pw_or1 (pt_not (pt_truth (z_r (call_isinst (T := "tuple")) rfl T.isinstance PyProof.Rows.boot_isinstance (z_a (z_p z_u (pv 2) z_b (fun _ _=>rfl)) (z_a (pe_bltn (v:=.ty "tuple") rfl T.tuple PyProof.Rows.boot_tuple rfl) z_f))) (fun _=>rfl))))))) (z_j (y_b pe_bl)) y_f)
  (z_c (ps_if (PW.pt (pw_or (pt_not (pt_truth (z_r (call_isinst (T := "str")) rfl T.isinstance PyProof.Rows.boot_isinstance (z_a (z_p z_u (pv 2) z_b (fun _ _=>rfl)) (z_a (pe_bltn (v:=.ty "str") rfl T.str PyProof.Rows.boot_str rfl) z_f))) (fun _=>rfl))) (pw_or (z_s (op_notIn_top D_MOST_LEAVES) (z_p z_u (pv 2) z_b (fun _ _=>rfl)) (pe_glob (v:=.ref A.a_MOST_LEAVES) rfl T.g_MOST_LEAVES rfl) rfl) (pw_or1 (z_s op_gt (z_r y_o rfl T.len PySem.boot_len (z_a (z_p z_u (pv 2) z_b (fun _ _=>rfl)) z_f)) (z_p (ix_top D_MOST_LEAVES) (pe_glob (v:=.ref A.a_MOST_LEAVES) rfl T.g_MOST_LEAVES rfl) (z_p z_u (pv 2) z_b (fun _ _=>rfl)) (fun _ _=>rfl)) (nomark _)))))) (z_j (y_b pe_bl)) y_f)
  (z_c (z_q (i:=3) sc_is_step.nd rfl (Or.inr rfl) (z_i y_k (z_i y_k z_b (z_p z_u (pv 0) z_b (fun _ _=>rfl))) (z_r y_o rfl T.len PySem.boot_len (z_a (z_p z_u (pv 0) z_b (fun _ _=>rfl)) z_f))))
  (z_c (ps_if (pt_not (pt_truth (z_r call_all rfl T.all PyProof.Rows.boot_all (z_a (pe_comp [3] (fun _ _ h=>h) rfl (pi_tup (z_i op_catE (pe_slice sl_tupE (pv 2) (po_some z_b) (po_some z_b)) (z_p z_u (pv 2) z_b (fun _ _=>rfl)))) (fun _ _ _ _=>x_i) (fun _ _ _ _=>(y_e G_is_end (hr.mono (by first | decide | lia)) rfl T.M_is_end T.F_is_end.kp T.B_is_end .nil pass0 (z_a (pv 0) (z_a (pv 1) z_f)))) rfl (show ∀ j∈([3]:List Nat),j<5 by decide) (show (["end", "knots"]:List Str).Nodup by decide +kernel)) z_f)) (fun _=>rfl))) (z_j (y_b pe_bl)) y_f)
  (z_c (ps_comp [1] sc_is_step.nd (i:=4) rfl (Or.inl rfl) (fun _ _ h=>h) rfl (pi_tup (z_p z_u (pv 2) z_b (fun _ _=>rfl))) (fun _ _ _ _=>x_i) (fun _ _ _ _=>(z_i y_p (pe_meth (pv 1) T.cl_Classes T.me_Classes_least G_Classes_least (hr.mono (by first | decide | lia)) T.B_Classes_least .nil pass0 (z_a (pv 0) z_f)) z_b)) rfl (show ∀ j∈([1]:List Nat),j<5 by decide) (show (["leaf", "classes"]:List Str).Nodup by decide +kernel) (by with_unfolding_all rfl))
  (z_j (y_b (pe_and (pe_cmpR op_notIn_seq z_b (pv 4) rfl) (pe_one (pe_cmpR op_eq (z_r call_lenT2 rfl T.len PySem.boot_len (z_a (pe_callTy (call_setI rfl hu64) rfl T.set PyProof.Rows.boot_set (z_a (pv 4) z_f)) z_f)) (z_r y_o rfl T.len PySem.boot_len (z_a (pv 4) z_f)) (nomark _))))))))))),?_⟩
 obtain ⟨⟨L0,hl0⟩,x0,ho0⟩:=hS.cls.lst
 have nol:o≠l:=hS.cls.ne
 have nst:st≠l:=tup_nel hS.st hl0
 have nlt:lt≠l:=tup_nel hS.lt hl0
 have l7:=hS.l7
 refine ⟨_,rfl,_,_,true,rfl,TyOf.tup hS.st,rfl,_,rfl,y_s rfl ?_⟩
 refine ⟨_,rfl,_,_,rfl,.inr ⟨_,SqT.of hS.st,rfl⟩,rfl,_,rfl,y_s (by show (!decide (V.int ((4:Nat):Int)=V.int 4))=false;decide) ?_⟩
 refine ⟨_,rfl,st,_,_,_,rfl,rfl,SqT.of hS.st,rfl,_,_,true,rfl,TyOf.tup hS.lt,rfl,_,rfl,y_s rfl ?_⟩
 refine ⟨_,rfl,st,_,_,_,rfl,rfl,SqT.of hS.st,rfl,_,_,true,rfl,TyOf.str _,rfl,_,rfl,y_s rfl ?_⟩
 refine ⟨_,rfl,st,_,_,_,rfl,rfl,SqT.of hS.st,rfl,_,rfl,rfl,_,rfl,y_s (by rw [hkvs];rfl) ?_⟩
 refine ⟨_,rfl,st,_,_,_,rfl,rfl,SqT.of hS.st,rfl,_,_,rfl,.inr ⟨_,SqT.of hS.lt,rfl⟩,_,rfl,st,_,_,_,rfl,rfl,SqT.of hS.st,rfl,_,_,rfl,rfl,hkvs,_,_,rfl,rfl,_,rfl,?_⟩
 rw [z_l]
 by_cases h6:ls.length<=6
 case neg =>
  have:=q H Ch.refl hS.cls
  rw [decide_eq_false (fun h=>h6 h.1)] at this
  exact x_d (decide_eq_true (by lia)) this
 refine y_s (decide_eq_false (by lia)) ?_
 refine ⟨_,rfl,net,_,_,_,rfl,rfl,SqT.of hS.net.p,rfl,_,_,rfl,rfl,_,rfl,net,_,_,_,rfl,rfl,SqT.of hS.net.p,rfl,_,_,rfl,.inl ⟨_,SqL.of hS.net.g.1,rfl⟩,_,_,rfl,rfl,?_⟩
 have hlen:=Paired.length hS.net.g.2
 unfold gI at hlen
 rw [List.length_map] at hlen
 refine ⟨_,rfl,_,rfl,_,rfl,st,_,rfl,hS.st,fun p1 H1 s1 e1=>⟨_,rfl,st,_,_,_,rfl,rfl,SqT.of (s1 _ _ hS.st),rfl,p1,lt,_,_,rfl,rfl,e1,s1 _ _ hS.lt,small (by rw [z_l];show 2+ls.length<=_;lia),fun p2 H2 s2 e2=>?_⟩⟩
 have e2':H2 p2=some (.tup (natsV (a::b::ls))):=e2
 have hall:∀ e∈a::b::ls,e<2*n:=fun e he=>by
  rcases List.mem_cons.mp he with rfl | he
  ·exact hS.ha
  rcases List.mem_cons.mp he with rfl | he
  ·exact hS.hb
  ·exact hS.hl e he
 have hn:=hS.hn
 refine ⟨p2,rfl,⟨_,SqT.of e2'⟩,comp_tup (xs:=natsV (a::b::ls)) (fun i ys J=>H2=J/\ys=List.replicate i (V.bl true)) ⟨rfl,rfl⟩ ?_ ?_ ?_ ?_⟩
 ·rintro i ys J _ ⟨rfl,_⟩
  exact SqT.of e2'
 ·rintro i ys J hi ⟨rfl,rfl⟩
  rw [List.length_replicate]
  rw [z_l] at hi
  exact y_n (by have:(a::b::ls).length=ls.length+2:=rfl;lia)
 ·rintro i v ys J hv ⟨rfl,rfl⟩
  obtain ⟨hi,rfl⟩:=x_c hv
  have hsi:(a::b::ls)[i]? = some ((a::b::ls).getD i 0):=by rw [List.getD_eq_getElem?_getD,List.getElem?_eq_getElem hi];rfl
  have he:=hall _ (List.mem_of_getElem? hsi)
  generalize (a::b::ls).getD i 0=e at he ⊢
  unfold tYes
  refine iteT ⟨_,rfl,_,rfl,_,_,rfl,rfl,?_⟩
  rw [List.replicate_succ']
  congr 2
  rw [List.length_map]
  simp only [Bool.and_eq_true,decide_eq_true_eq,V.bl.injEq]
  lia
 rintro ys J ⟨rfl,rfl⟩ pb hpb
 refine ⟨rfl,pb,List.replicate (natsV (a::b::ls)).length true,rfl,SqL.of (by rw [z_d,List.map_replicate]),_,rfl,y_s (by simp) ?_⟩
 have s3:=(s1.trans s2).trans (z_h hpb (.lst (List.replicate (natsV (a::b::ls)).length (V.bl true))))
 generalize upd H2 pb (.lst (List.replicate (natsV (a::b::ls)).length (V.bl true)))=H3 at s3 ⊢
 refine ⟨_,rfl,st,_,_,_,rfl,rfl,SqT.of (s3 _ _ hS.st),rfl,lt,rfl,⟨_,SqT.of (s3 _ _ hS.lt)⟩,comp_tup (xs:=natsV ls) (fun i ys J=>Ch l H J/\ClsAt A.c_Classes J o l n R/\ys=natsV ((ls.take i).map fun e=>R e/2)) ⟨s3.ch,hS.cls.same s3,rfl⟩ ?_ ?_ ?_ ?_⟩
 ·rintro i ys J _ ⟨cJ,_,_⟩
  exact SqT.of (cJ _ _ nlt hS.lt)
 ·rintro i ys J hi ⟨_,_,rfl⟩
  rw [z_l,List.length_map,List.length_take]
  exact y_n (by lia)
 ·rintro i v ys J hv ⟨cJ,CJ,rfl⟩
  obtain ⟨hi,rfl⟩:=x_c hv
  have hsi:ls[i]? = some (ls.getD i 0):=by rw [List.getD_eq_getElem?_getD,List.getElem?_eq_getElem hi];rfl
  have he:=hS.hl _ (List.mem_of_getElem? hsi)
  rw [take_get hsi]
  generalize ls.getD i 0=e at he ⊢
  obtain ⟨dx1,ho1⟩:=CJ.1
  unfold tYes
  refine iteT ⟨_,rfl,o,dx1,_,rfl,ho1,lk_no (by decide),_,rfl,o,l,n,R,e,rfl,CJ,by lia,fun J2 ch2 C2=>⟨_,_,rfl,rfl,⟨by decide,by decide⟩,cJ.trans ch2,C2,?_⟩⟩
  rw [List.map_append,List.map_cons,List.map_nil,natsV_snoc]
  rfl
 rintro ys J ⟨cJ,CJ,rfl⟩ pk hpk
 rw [z_l,List.take_length]
 have t1:=z_h hpk (.lst (natsV (ls.map fun e=>R e/2)))
 have c1:=cJ.trans t1.ch
 have C1:=CJ.same t1
 have k1:=z_d (H:=J) (a:=pk) (o:=.lst (natsV (ls.map fun e=>R e/2)))
 dsimp only [gName]
 generalize upd J pk (.lst (natsV (ls.map fun e=>R e/2)))=J1 at t1 c1 C1 k1 ⊢
 refine ⟨_,rfl,pk,_,rfl,.inl (SqL.of k1),rfl,flat_nats _,_,rfl,?_⟩
 have hin:=inV_nats 0 (ls.map fun e=>R e/2)
 by_cases h0:0∈ls.map fun e=>R e/2
 ·refine y_s (by show (!inV (V.int ((0:Nat):Int)) _)=false;rw [hin,decide_eq_true h0];rfl) ?_
  have:=q J1 c1 C1
  rw [decide_eq_false (fun h=>by
   obtain ⟨e,he,e0⟩:=List.mem_map.mp h0
   exact h.2.1 e he e0)] at this
  exact this
 ·refine x_d (by show (!inV (V.int ((0:Nat):Int)) _)=true;rw [hin,decide_eq_false h0];rfl) ?_
  refine ⟨_,rfl,pk,(ls.map fun e=>R e/2).map (fun k:Nat=>(k:Int)),rfl,by rw [<-natsV_cast];exact k1,by rw [List.length_map,List.length_map];lia,fun sa hsa=>?_⟩
  have t2:=z_h hsa (STO sa (ucI ((ls.map fun e=>R e/2).map (fun k:Nat=>(k:Int)))))
  refine ⟨sa,_,rfl,z_d,_,rfl,_,_,rfl,.inl ⟨_,SqL.of (t2 _ _ k1),rfl⟩,rfl,?_⟩
  have:=q _ (c1.trans t2.ch) (C1.same t2)
  have e:decide (V.int (ucI ((ls.map fun e=>R e/2).map (fun k:Nat=>(k:Int))):Nat)=V.int ((natsV (ls.map fun e=>R e/2)).length:Nat))=decide (ls.length<=6/\Dst R ls):=by
   have hu:=ucI_iff (ks:=ls.map fun e=>R e/2)
   rw [z_l]
   refine decide_eq_decide.mpr ⟨fun h=>?_,fun h=>?_⟩
   ·injection h with h
    exact ⟨h6,fun e he e0=>h0 (List.mem_map.mpr ⟨e,he,e0⟩),hu.mp (by lia)⟩
   ·rw [hu.mpr h.2.2]
  rw [e]
  exact this
theorem ok_below(T:Tx w K mg A):FnOk P w K mg base CX0 1 A.a_below A.d_below ["net", "end"] sp_below:=by
 refine T.F_below.ok sc_below (fun vs H Q E h=>?_) (fun cdv A' outer s H vs Q E hr h=>?_)
 ·obtain ⟨net,g,rs,L,gs,e,rfl,hN,hL,hn,h100,q⟩:=h
  rfl
 obtain ⟨net,g,rs,L,gs,e,rfl,hN,hL,hn,h100,q⟩:=h
 refine ⟨_,(z_j (y_b (pe_ifExp (z_s op_eq (z_i y_d (pv 1) z_b) z_b (nomark _)) (pe_tup (z_a (z_i op_sub (pv 1) z_b) z_f)) (z_p z_o (z_p z_u (pv 0) z_b (fun _ _=>rfl)) (z_i op_sub (z_i op_sub (z_i y_p (pv 1) z_b) (z_p z_u (pv 0) z_b (fun _ _=>rfl))) z_b) (fun _ _=>rfl))))),?_⟩
 by_cases ho:e%2=1
 ·refine ⟨_,rfl,_,_,rfl,rfl,(by show (0:Int)<2;decide),rfl,_,rfl,?_⟩
  refine x_d (decide_eq_true (by show V.int ((e:Int)%2)=V.int 1;congr 1;lia)) ?_
  refine ⟨_,rfl,_,_,rfl,rfl,(by show 1<=sizeLine;decide),fun t ht=>q t _ (z_h ht _) ?_⟩
  rw [z_d]
  unfold belN
  rw [if_pos ho]
  show some (HO.tup [V.int ((e:Int)-1)])=some (HO.tup [V.int ((e-1:Nat):Int)])
  rw [show (e:Int)-1=((e-1:Nat):Int) by lia]
 ·refine ⟨_,rfl,_,_,rfl,rfl,(by show (0:Int)<2;decide),rfl,_,rfl,?_⟩
  refine y_s (decide_eq_false (by show ¬V.int ((e:Int)%2)=V.int 1;intro h;injection h with h;lia)) ?_
  have hlen:=Paired.length hN.g.2
  unfold gI at hlen
  rw [List.length_map] at hlen
  have hk:e/2-L-1<rs.length:=by lia
  have hr:rs[e/2-L-1]? = some rs[e/2-L-1]:=List.getElem?_eq_getElem hk
  obtain ⟨p',hp',hrt⟩:=pairedGet hN.g.2 hr
  unfold gI at hp'
  rw [List.getElem?_map] at hp'
  obtain ⟨p,hp,rfl⟩:=Option.map_eq_some_iff.mp hp'
  have hat:atI (rs.map V.ref) ((e:Int)/2-(L:Int)-1)=some (.ref rs[e/2-L-1]):=by
   rw [show (e:Int)/2-(L:Int)-1=((e/2-L-1:Nat):Int) by lia]
   exact atI_nat (by rw [List.getElem?_map,hr];rfl)
  refine ⟨_,rfl,net,_,_,_,rfl,rfl,SqT.of hN.p,rfl,_,rfl,_,_,rfl,rfl,⟨by decide,by decide⟩,_,rfl,net,_,_,_,rfl,rfl,SqT.of hN.p,rfl,_,_,rfl,rfl,_,_,rfl,rfl,g,_,_,_,rfl,rfl,SqL.of hN.g.1,hat,q _ H (Same.refl H) ?_⟩
  rw [hrt]
  unfold belN
  rw [if_neg ho,hp]
  rfl
theorem ok_found_of(T:Tx w K mg A)(G_Classes_least:FnOk P w K mg base CX0 1 A.a_Classes_least A.d_Classes_least ["self", "end"] (sp_C_least A.c_Classes))(G_below:FnOk P w K mg base CX0 1 A.a_below A.d_below ["net", "end"] sp_below):FnOk P w K mg base CX0 2 A.a_found_of A.d_found_of ["net", "classes", "given", "ends", "turned", "both"] (sp_found A.c_Classes P w K mg base):=by
 refine T.F_found_of.ok sc_found_of (fun vs H Q E h=>?_) (fun cdv A' outer s H vs Q E hr h=>?_)
 ·obtain ⟨net,g,o,l,gd,et,f,ab,c,rs,L,n,hi,a,b,gs,R,kvs,gv,fo,ofb,qual,fdt,fdb,rfl,hN,hG,hn,h30,hC,hgd,hgv,het,ha,hb,ngl,hF,q⟩:=h
  rfl
 obtain ⟨net,g,o,l,gd,et,f,ab,c,rs,L,n,hi,a,b,gs,R,kvs,gv,fo,ofb,qual,fdt,fdb,rfl,hN,hG,hn,h30,hC,hgd,hgv,het,ha,hb,ngl,hF,q⟩:=h
 have hu:=hu_of hr
 refine ⟨_,(z_c (z_q (i:=6) sc_found_of.nd rfl (Or.inr rfl) pe_dnewK)
  (z_c (z_q (i:=7) sc_found_of.nd rfl (Or.inl rfl) (pe_lst z_f))
  (z_c (z_q (i:=8) sc_found_of.nd rfl (Or.inl rfl) (pe_callTy call_list_of rfl T.list PyProof.Rows.boot_list (z_a (pv 3) z_f)))
  (z_c (ps_while PassesOwn.never (z_s op_gt (z_r y_o rfl T.len PySem.boot_len (z_a (pv 8) z_f)) z_b (nomark _))
    (z_c (z_q (i:=9) sc_found_of.nd rfl (Or.inl rfl) (pe_bm0 PySem.F.plainAttrs_list PySem.F.slot_list_pop PySem.F.type_list_pop mt_pop (pv 8)))
  (z_c (ps_if (pt_cmp (pc_din hu (pv 9) (pv 6))) (z_j ps_continue) y_f)
  (z_c (ps_dput hu (pv 6) (pv 9) (pe_dget1 hu (pv 2) (pe_meth (pv 1) T.cl_Classes T.me_Classes_least G_Classes_least (hr.mono (by first | decide | lia)) T.B_Classes_least .nil pass0 (z_a (pv 9) z_f)) ⟨rfl,rfl,rfl,rfl⟩) rfl)
  (z_j (ps_if (PW.pt (pw_and (z_s op_isN (pe_dget hu (pv 6) (pv 9) (fun _ _=>rfl)) pe_non (nomark _)) (pw_and1 (z_s op_gt (z_i y_p (pv 9) z_b) (z_p z_u (pv 0) z_b (fun _ _=>rfl)) (nomark _))))) (z_c (ps_expr (pe_bm PySem.F.plainAttrs_list PySem.F.slot_list_append PySem.F.type_list_append x_h (pv 7) (z_a (pv 9) z_f)))
  (z_j (ps_expr (pe_bm PySem.F.plainAttrs_list PySem.F.slot_list_extend PySem.F.type_list_extend mt_extendT (pv 8) (z_a (y_e G_below (hr.mono (by first | decide | lia)) rfl T.M_below T.F_below.kp T.B_below .nil pass0 (z_a (pv 0) (z_a (pv 9) z_f))) z_f))))) y_f))))))
  (z_c (ps_for PassesOwn.never rfl (pi_list (z_r call_sortI rfl T.sorted PyProof.Rows.boot_sorted (z_a (pv 7) z_f))) (y_j (i:=9) sc_found_of.nd rfl (Or.inl rfl))
    (z_c (ps_comp [6] sc_found_of.nd (i:=10) rfl (Or.inl rfl) (fun _ _ h=>h) rfl (pi_tup (y_e G_below (hr.mono (by first | decide | lia)) rfl T.M_below T.F_below.kp T.B_below .nil pass0 (z_a (pv 0) (z_a (pv 9) z_f)))) (fun _ _ _ _=>x_i) (fun _ _ _ _=>(pe_dget hu (pv 1) (pv 0) (fun _ _=>rfl))) rfl (show ∀ j∈([6]:List Nat),j<11 by decide) (show (["lesser", "found"]:List Str).Nodup by decide +kernel) (by with_unfolding_all rfl))
  (z_j (ps_dput hu (pv 6) (pv 9) (pe_ifExp (z_s op_eq (z_i y_d (pv 9) z_b) z_b (nomark _)) (pe_callV (i:=4) rfl (Or.inl rfl) (z_a (z_p z_o (pv 10) z_b (fun _ _=>rfl)) z_f)) (pe_callV (i:=5) rfl (Or.inl rfl) (z_a (z_p z_o (pv 10) z_b (fun _ _=>rfl)) (z_a (z_p z_o (pv 10) z_b (fun _ _=>rfl)) z_f)))) rfl))))
  (z_j (y_b (pe_comp [6] (fun _ _ h=>h) rfl (pi_tup (pv 3)) (fun _ _ _ _=>x_i) (fun _ _ _ _=>(pe_dget hu (pv 1) (pv 0) (fun _ _=>rfl))) rfl (show ∀ j∈([6]:List Nat),j<11 by decide) (show (["end", "found"]:List Str).Nodup by decide +kernel))))))))),?_⟩
 obtain ⟨⟨L0,hl0⟩,x0,ho0⟩:=hC.lst
 have netl:et≠l:=tup_nel het hl0
 have ngdl:gd≠l:=fun e=>by rw [e,hl0] at hgd;cases hgd
 have nol:o≠l:=hC.ne
 intro fd hfd
 have s1:=z_h hfd (.dK [])
 have f1:=z_d (H:=H) (a:=fd) (o:=.dK [])
 dsimp only [gName]
 generalize upd H fd (.dK [])=H1 at s1 f1 ⊢
 refine ⟨(by show 0<=sizeLine;decide),fun pg hpg=>?_⟩
 have s2:=s1.trans (z_h hpg (.lst []))
 have f2:=(z_h hpg (.lst [])) _ _ f1
 have g2:=z_d (H:=H1) (a:=pg) (o:=.lst [])
 have hpgH:=s1.free hpg
 have nfg:fd≠pg:=z_g f1 hpg
 dsimp only [gName]
 generalize upd H1 pg (.lst [])=H2 at s2 f2 g2 ⊢
 refine ⟨_,rfl,et,_,rfl,.inr (SqT.of (s2 _ _ het)),fun pw hpw=>?_⟩
 have s3:=s2.trans (z_h hpw (.lst [.int (a:Int),.int (b:Int)]))
 have f3:=(z_h hpw (.lst [.int (a:Int),.int (b:Int)])) _ _ f2
 have g3:=(z_h hpw (.lst [.int (a:Int),.int (b:Int)])) _ _ g2
 have w3:=z_d (H:=H2) (a:=pw) (o:=.lst [.int (a:Int),.int (b:Int)])
 have hpwH:=s2.free hpw
 have nfw:fd≠pw:=z_g f2 hpw
 have ngw:pg≠pw:=z_g g2 hpw
 dsimp only [gName]
 generalize upd H2 pw (.lst [.int (a:Int),.int (b:Int)])=H3 at s3 f3 g3 w3 ⊢
 clear s1 f1 s2 f2 g2 hpg hpw
 have nfo:o≠fd:=z_g ho0 hfd
 have ngo:o≠pg:=z_g ho0 hpgH
 have nwo:o≠pw:=z_g ho0 hpwH
 have nfl:l≠fd:=z_g hl0 hfd
 have ngl':l≠pg:=z_g hl0 hpgH
 have nwl:l≠pw:=z_g hl0 hpwH
 refine ⟨fun m σ J=>∃ (x9:Option V) (S gts wt:List Nat) (kvF:List (Key×V)),σ=[some (.ref net),some (.ref o),some (.ref gd),some (.ref et),some (.ref f),some (.ref ab),some (.ref fd),some (.ref pg),some (.ref pw),x9,none]/\Ch l H J/\ClsAt A.c_Classes J o l n R/\J fd=some (.dK kvF)/\FdI kvF S (fun e=>gv (R e)) S.length/\J pg=some (.lst (natsV gts))/\J pw=some (.lst (natsV wt))/\FndI (fun e=>gv (R e)) L n a b gs S gts wt/\m+3*S.length=200+wt.length/\gts.length<=S.length,⟨202,_,[],[],[a,b],[],rfl,s3.ch,hC.same s3,f3,FdI.nil,g3,w3,⟨.nil,(fun _ h=>nomatch h),fun e he=>?_,.nil,fun e=>?_,(fun _ h=>nomatch h),.inr List.mem_cons_self,.inr (List.mem_cons_of_mem _ List.mem_cons_self),Nat.le_refl _⟩,rfl,Nat.le_refl _⟩,?_⟩
 ·simp only [List.mem_cons,List.not_mem_nil,or_false] at he
  rcases he with rfl | rfl<;>assumption
 ·constructor
  ·exact fun h=>nomatch h
  ·exact fun h=>nomatch h.1
 rintro m σ J ⟨x9,S,gts,wt,kvF,rfl,cJ,hCJ,fJ,hFd,gJ,wJ,hI,hm,hgl⟩
 have hS60:=nd_bound hI.nd hI.hs
 have hwl:=hI.wl
 refine ⟨_,rfl,_,_,rfl,.inl ⟨_,SqL.of wJ,rfl⟩,_,_,rfl,rfl,_,rfl,?_⟩
 by_cases hw0:wt=[]
 ·refine y_s (decide_eq_false (by rw [hw0];decide)) ?_
  subst hw0
  have hin:∀ d,d∈S\/d∈([]:List Nat)->d∈S:=fun d h=>h.elim id fun h=>nomatch h
  have hga:∀ e∈gts,e∈S/\gv (R e)=none/\L<e/2:=fun e h=>(hI.gi e).mp h
  have hV0:∀ d∈S,(fun e=>gv (R e)) d=(if d∈gts/\d∉([]:List Nat) then none else gvW (fun e=>gv (R e)) L gs hi d):=fun d hd=>by
   by_cases c:d∈gts
   ·rw [if_pos ⟨c,List.not_mem_nil⟩]
    exact (hga d c).2.1
   ·rw [if_neg (fun h=>c h.1)]
    cases hgd':gv (R d) with
    | some w=>show gv (R d)=_;rw [hgd'];exact (gvW_giv (giv:=fun e=>gv (R e)) hG (show (fun e=>gv (R e)) d=some w from hgd')).symm
    | none =>
     show gv (R d)=_
     rw [hgd']
     refine (gvW_low (giv:=fun e=>gv (R e)) (e:=d) hG (show (fun e=>gv (R e)) d=none from hgd') fun hl=>c ((hI.gi d).mpr ⟨hd,hgd',hl⟩)).symm
  dsimp only
  refine ⟨_,rfl,pg,gts.map (fun k:Nat=>(k:Int)),rfl,(by rw [<-natsV_cast];exact gJ),(by rw [List.length_map];lia),fun ps ns' hps hpm hpw=>?_⟩
  obtain ⟨sg,rfl,psg,hsort⟩:=sort_nat hpm hpw
  rw [<-natsV_cast]
  have ndg:=psg.nodup_iff.mpr hI.gn
  have lsg:=psg.length_eq
  have hpsH:H ps=none:=by
   cases e:H ps with
   | none=>rfl
   | some x =>
    by_cases c:ps=l
    ·rw [c] at hps
     obtain ⟨⟨L1,hl1⟩,_⟩:=hCJ.lst
     rw [hl1] at hps
     cases hps
    ·rw [cJ _ _ c e] at hps
     cases hps
  have v1:=z_h hps (.lst (natsV sg))
  have c1:=cJ.trans v1.ch
  have p1:=z_d (H:=J) (a:=ps) (o:=.lst (natsV sg))
  have f1:=v1 _ _ fJ
  have C1:=hCJ.same v1
  have nfp:ps≠fd:=(z_g fJ hps).symm
  generalize upd J ps (.lst (natsV sg))=J1 at v1 c1 p1 f1 C1 ⊢
  have npl:ps≠l:=fun e=>by rw [e,hl0] at hpsH;cases hpsH
  refine ⟨ps,rfl,⟨_,SqL.of p1⟩,for_list (xs:=natsV sg) (fun i σ J'=>∃ (y9 y10:Option V) (kvF:List (Key×V)),σ=[some (.ref net),some (.ref o),some (.ref gd),some (.ref et),some (.ref f),some (.ref ab),some (.ref fd),some (.ref pg),some (.ref pw),y9,y10]/\Ch l H J'/\ClsAt A.c_Classes J' o l n R/\J' ps=some (.lst (natsV sg))/\J' fd=some (.dK kvF)/\FdI kvF S (fun d=>if d∈gts/\d∉sg.take i then none else gvW (fun e=>gv (R e)) L gs hi d) (S.length+i)) ⟨_,_,kvF,rfl,c1,C1,p1,f1,hFd.congr hV0⟩ ?_ ?_ ?_⟩
  ·rintro i σ J' _ ⟨_,_,_,_,_,_,h,_⟩
   exact SqL.of h
  ·rintro i v σ J2 hv ⟨y9,y10,kv2,rfl,c2,C2,p2,f2,hF2⟩
   obtain ⟨hi',rfl⟩:=x_c hv
   have hsi:sg[i]? = some (sg.getD i 0):=by rw [List.getD_eq_getElem?_getD,List.getElem?_eq_getElem hi'];rfl
   generalize sg.getD i 0=e at hsi
   have heg:e∈gts:=psg.mem_iff.mp (List.mem_of_getElem? hsi)
   obtain ⟨heS,hegv,hel⟩:=hga e heg
   have he2:=hI.hs e heS
   obtain ⟨hb1,hb2⟩:=bel_lt hG hn he2 hel
   have hnot:=take_not ndg hsi
   have hcl:∀ d∈belN L gs e,d∈S/\(if d∈gts/\d∉sg.take i then none else gvW (fun e=>gv (R e)) L gs hi d)=gvW (fun e=>gv (R e)) L gs hi d:=fun d hd=>by
    refine ⟨hin d (hI.cl e heg d hd),if_neg fun h=>h.2 ?_⟩
    exact sorted_before hsort hsi (psg.mem_iff.mpr h.1) (hb1 d hd)
   have N2:=hN.chl c2 ngl hl0
   refine ⟨_,rfl,_,rfl,net,g,rs,L,gs,e,rfl,N2,hel,by lia,by lia,fun t J3 s3' ht=>?_⟩
   have f3':=s3' _ _ f2
   refine ⟨t,rfl,⟨_,SqT.of ht⟩,comp_tup (xs:=natsV (belN L gs e)) (fun j ys J'=>J3=J'/\ys=((belN L gs e).take j).map fun d=>oV (gvW (fun e=>gv (R e)) L gs hi d)) ⟨rfl,rfl⟩ ?_ ?_ ?_ ?_⟩
   ·rintro j ys J' _ ⟨rfl,_⟩
    exact SqT.of ht
   ·rintro j ys J' hj ⟨rfl,rfl⟩
    rw [List.length_map,List.length_take]
    exact y_n (by lia)
   ·rintro j y ys J' hy ⟨rfl,rfl⟩
    obtain ⟨hj,rfl⟩:=x_c hy
    have hdj:(belN L gs e)[j]? = some ((belN L gs e).getD j 0):=by rw [List.getD_eq_getElem?_getD,List.getElem?_eq_getElem hj];rfl
    generalize (belN L gs e).getD j 0=d at hdj
    obtain ⟨hdS,hdv⟩:=hcl d (List.mem_of_getElem? hdj)
    have hdg:=DGet.k (k:=.inl (d:Int)) f3'
    rw [hF2.2 d,if_pos hdS] at hdg
    dsimp only at hdg
    rw [hdv] at hdg
    unfold tYes
    refine iteT ⟨_,rfl,_,rfl,fd,_,rfl,hdg,rfl,?_⟩
    rw [take_get hdj,List.map_append]
    rfl
   rintro ys J' ⟨rfl,rfl⟩ pt hpt
   rw [z_l,List.take_length]
   have v4:=s3'.trans (z_h hpt (.lst ((belN L gs e).map fun d=>oV (gvW (fun e=>gv (R e)) L gs hi d))))
   have t4:=z_d (H:=J3) (a:=pt) (o:=.lst ((belN L gs e).map fun d=>oV (gvW (fun e=>gv (R e)) L gs hi d)))
   dsimp only [gName]
   generalize upd J3 pt (.lst ((belN L gs e).map fun d=>oV (gvW (fun e=>gv (R e)) L gs hi d)))=J4 at v4 t4 ⊢
   have f4:=v4 _ _ f2
   have c4:=c2.trans v4.ch
   have C4:=C2.same v4
   have p4:=v4 _ _ p2
   have kl:=hF2.1
   obtain ⟨uf,hff⟩:=hF.ft
   have nfl2:f≠l:=fun e=>by rw [e,hl0] at hff;cases hff
   have ff4:=c4 _ _ nfl2 hff
   have cd4:IsCd J4 c qual:=by
    obtain ⟨oc,u,ws,tq,e1,e2⟩:=hF.cd
    exact ⟨oc,u,ws,tq,c4 _ _ (fun e=>by rw [e,hl0] at e1;cases e1) e1,e2⟩
   have fin:∀ v,v=oV (gvW (fun e=>gv (R e)) L gs hi e)->∃ (y9 y10:Option V) (kvF:List (Key×V)),[some (.ref net),some (.ref o),some (.ref gd),some (.ref et),some (.ref f),some (.ref ab),some (.ref fd),some (.ref pg),some (.ref pw),some (.int (e:Int)),some (.ref pt)]=[some (.ref net),some (.ref o),some (.ref gd),some (.ref et),some (.ref f),some (.ref ab),some (.ref fd),some (.ref pg),some (.ref pw),y9,y10]/\Ch l H (upd J4 fd (.dK (putK kv2 (.inl (e:Int)) v)))/\ClsAt A.c_Classes (upd J4 fd (.dK (putK kv2 (.inl (e:Int)) v))) o l n R/\(upd J4 fd (.dK (putK kv2 (.inl (e:Int)) v))) ps=some (.lst (natsV sg))/\(upd J4 fd (.dK (putK kv2 (.inl (e:Int)) v))) fd=some (.dK kvF)/\FdI kvF S (fun d=>if d∈gts/\d∉sg.take (i+1) then none else gvW (fun e=>gv (R e)) L gs hi d) (S.length+(i+1)):=fun v hv=>by
    subst hv
    refine ⟨_,_,_,rfl,c4.fr hfd,C4.up nfo nfl _,by rw [z_n nfp];exact p4,z_d,?_⟩
    have hFe:(if e∈gts/\e∉sg.take (i+1) then none else gvW (fun e=>gv (R e)) L gs hi e)=gvW (fun e=>gv (R e)) L gs hi e:=if_neg fun h=>h.2 (by rw [take_get hsi];exact List.mem_append_right _ (List.mem_singleton.mpr rfl))
    have:=hF2.set (F':=fun d=>if d∈gts/\d∉sg.take (i+1) then none else gvW (fun e=>gv (R e)) L gs hi d) heS fun d hd hde=>by
     show (if d∈gts/\d∉sg.take i then none else gvW (fun e=>gv (R e)) L gs hi d)=if d∈gts/\d∉sg.take (i+1) then none else gvW (fun e=>gv (R e)) L gs hi d
     have hiff:d∉sg.take (i+1)↔d∉sg.take i:=by
      rw [take_get hsi,List.mem_append,List.mem_singleton]
      exact ⟨fun h q=>h (.inl q),fun h q=>q.elim h hde⟩
     simp only [hiff]
    simp only [hFe] at this
    exact this
   refine ⟨_,rfl,_,_,rfl,rfl,(by show (0:Int)<2;decide),rfl,_,rfl,?_⟩
   by_cases hodd:e%2=1
   ·refine x_d (decide_eq_true (by show V.int ((e:Int)%2)=V.int 1;congr 1;lia)) ?_
    have eb:belN L gs e=[e-1]:=by unfold belN;rw [if_pos hodd]
    rw [eb] at t4
    refine ⟨f,rfl,fo,.inr ⟨uf,ff4⟩,⟨_,hF.dt⟩,_,rfl,pt,_,_,_,rfl,rfl,SqL.of t4,rfl,.inr ⟨uf,ff4⟩,1,fdt,_,_,hF.Ft,hr.mono (by first | decide | lia),hF.Bt,_,uf,rfl,ff4,cd4,?_⟩
    refine ⟨_,rfl,_,rfl,fd,_,rfl,DPut.k (k:=.inl (e:Int)) f4 (y_n (by lia)),fin _ ?_⟩
    rw [gvW_odd (giv:=fun e=>gv (R e)) (e:=e) hG hegv hel hodd]
   ·refine y_s (decide_eq_false (by show ¬V.int ((e:Int)%2)=V.int 1;intro h;injection h with h;lia)) ?_
    cases hp:gs[e/2-L-1]? with
    | none=>exact absurd (List.getElem?_eq_none_iff.mp hp) (by lia)
    | some p =>
    have eb:belN L gs e=[p.1,p.2]:=by unfold belN;rw [if_neg hodd,hp]
    rw [eb] at t4
    refine ⟨ab,rfl,ofb,.inl hF.lb,⟨_,hF.db⟩,_,rfl,pt,_,_,_,rfl,rfl,SqL.of t4,rfl,_,rfl,pt,_,_,_,rfl,rfl,SqL.of t4,rfl,.inl hF.lb,1,fdb,_,_,hF.Fb,hr.mono (by first | decide | lia),hF.Bb,_,_,rfl,?_⟩
    refine ⟨_,rfl,_,rfl,fd,_,rfl,DPut.k (k:=.inl (e:Int)) f4 (y_n (by lia)),fin _ ?_⟩
    rw [gvW_even (giv:=fun e=>gv (R e)) (e:=e) hG hegv hel hodd hp]
  rintro σ J2 ⟨y9,y10,kv2,rfl,c2,C2,p2,f2,hF2⟩
  rw [z_l,List.take_length] at hF2
  have e2:=c2 _ _ netl het
  have hval:∀ d∈S,valV kv2 (.inl (d:Int))=some (oV (gvW (fun e=>gv (R e)) L gs hi d)):=fun d hd=>by
   rw [hF2.2 d,if_pos hd]
   have:(if d∈gts/\d∉sg then none else gvW (fun e=>gv (R e)) L gs hi d)=gvW (fun e=>gv (R e)) L gs hi d:=if_neg fun h=>h.2 (psg.mem_iff.mpr h.1)
   dsimp only
   rw [this]
  refine ⟨_,rfl,et,rfl,⟨_,SqT.of e2⟩,comp_tup (xs:=[.int (a:Int),.int (b:Int)]) (fun j ys J'=>J2=J'/\ys=[oV (gvW (fun e=>gv (R e)) L gs hi a),oV (gvW (fun e=>gv (R e)) L gs hi b)].take j) ⟨rfl,rfl⟩ ?_ ?_ ?_ ?_⟩
  ·rintro j ys J' _ ⟨rfl,_⟩
   exact SqT.of e2
  ·rintro j ys J' hj ⟨rfl,rfl⟩
   rw [List.length_take]
   exact y_n (by have:j<2:=hj;lia)
  ·rintro j y ys J' hy ⟨rfl,rfl⟩
   have hj:j<2:=(List.getElem?_eq_some_iff.mp hy).1
   unfold tYes
   have h01:j=0\/j=1:=by lia
   rcases h01 with rfl | rfl
   ·cases hy
    have hdg:=DGet.k (k:=.inl (a:Int)) f2
    rw [hval a (hin a hI.ca)] at hdg
    exact iteT ⟨_,rfl,_,rfl,fd,_,rfl,hdg,rfl,rfl⟩
   ·cases hy
    have hdg:=DGet.k (k:=.inl (b:Int)) f2
    rw [hval b (hin b hI.cb)] at hdg
    exact iteT ⟨_,rfl,_,rfl,fd,_,rfl,hdg,rfl,rfl⟩
  rintro ys J' ⟨rfl,rfl⟩ p hp
  have hpH:H p=none:=by
   cases e:H p with
   | none=>rfl
   | some x =>
    by_cases c:p=l
    ·rw [c] at hp
     obtain ⟨⟨L1,hl1⟩,_⟩:=C2.lst
     rw [hl1] at hp
     cases hp
    ·rw [c2 _ _ c e] at hp
     cases hp
  exact q p _ hpH (c2.trans (z_h hp _).ch) (C2.same (z_h hp _)) z_d
 ·obtain ⟨wt',e,rfl⟩:=last_ex hw0
  refine x_d (decide_eq_true (by rw [z_l,List.length_append];show (0:Int)<((wt'.length+1:Nat):Int);lia)) ?_
  have he:=hI.hw e (List.mem_append_right _ (List.mem_singleton.mpr rfl))
  have hpop:∀ (A:List V) (x:V),(A++[x])[(A++[x]).length-1]? = some x:=fun A x=>by rw [List.length_append];simp
  rw [natsV_snoc] at wJ
  have hmW:wt'.length+1<=2+2*S.length:=by rw [List.length_append] at hwl;exact hwl
  rw [List.length_append] at hm
  have hm':m+3*S.length=200+(wt'.length+1):=hm
  refine ⟨fun σ' J'=>∃ m',m'<m/\∃ (x9:Option V) (S gts wt:List Nat) (kvF:List (Key×V)),σ'=[some (.ref net),some (.ref o),some (.ref gd),some (.ref et),some (.ref f),some (.ref ab),some (.ref fd),some (.ref pg),some (.ref pw),x9,none]/\Ch l H J'/\ClsAt A.c_Classes J' o l n R/\J' fd=some (.dK kvF)/\FdI kvF S (fun e=>gv (R e)) S.length/\J' pg=some (.lst (natsV gts))/\J' pw=some (.lst (natsV wt))/\FndI (fun e=>gv (R e)) L n a b gs S gts wt/\m'+3*S.length=200+wt.length/\gts.length<=S.length,fun _ _ h=>h,?_⟩
  refine ⟨_,rfl,.inl ⟨rfl,_,SqL.of wJ⟩,pw,_,_,rfl,rfl,wJ,hpop _ _,?_⟩
  rw [List.dropLast_concat]
  have c1:=cJ.fr (o:=.lst (natsV wt')) hpwH
  have C1:=hCJ.up nwo nwl (.lst (natsV wt'))
  have w1:=z_d (H:=J) (a:=pw) (o:=.lst (natsV wt'))
  have f1:(upd J pw (.lst (natsV wt'))) fd=some (.dK kvF):=by rw [z_n nfw];exact fJ
  have g1:(upd J pw (.lst (natsV wt'))) pg=some (.lst (natsV gts)):=by rw [z_n ngw];exact gJ
  dsimp only [gName]
  generalize upd J pw (.lst (natsV wt'))=J1 at c1 C1 w1 f1 g1 ⊢
  have hdg:=DGet.k (k:=.inl (e:Int)) f1
  rw [hFd.2 e] at hdg
  by_cases heS:e∈S
  ·rw [if_pos heS] at hdg
   refine ⟨_,rfl,_,rfl,fd,_,rfl,hdg,_,rfl,?_⟩
   refine iteT ?_
   exact ⟨m-1,by lia,_,S,gts,wt',kvF,rfl,c1,C1,f1,hFd,g1,w1,hI.old heS,by lia,hgl⟩
  ·rw [if_neg heS] at hdg
   refine ⟨_,rfl,_,rfl,fd,_,rfl,hdg,_,rfl,?_⟩
   refine iteF ?_
   have d1:J1 gd=some (.dK kvs):=c1 _ _ ngdl hgd
   obtain ⟨dx1,ho1⟩:=C1.1
   refine ⟨_,rfl,gd,rfl,.inl ⟨kvs,.inl d1⟩,_,rfl,o,dx1,_,rfl,ho1,lk_no (by decide),_,rfl,o,l,n,R,e,rfl,C1,by lia,fun J2 ch2 C2=>?_⟩
   have d2:=ch2 _ _ ngdl d1
   have f2:=ch2 _ _ nfl.symm f1
   have g2:=ch2 _ _ ngl'.symm g1
   have w2:=ch2 _ _ nwl.symm w1
   have c2:=c1.trans ch2
   have hdg2:=DGet.k (k:=.inl ((R e:Nat):Int)) d2
   rw [hgv (R e)] at hdg2
   refine ⟨_,hdg2,?_⟩
   dsimp only
   rw [oV_get]
   have kl:=hFd.1
   refine ⟨_,rfl,_,rfl,fd,_,rfl,DPut.k (k:=.inl (e:Int)) f2 (y_n (by lia)),?_⟩
   have hF3:FdI (putK kvF (.inl (e:Int)) (oV (gv (R e)))) (S++[e]) (fun e=>gv (R e)) (S++[e]).length:=by
    rw [List.length_append]
    exact hFd.new (e:=e)
   have c3:=c2.fr (o:=.dK (putK kvF (.inl (e:Int)) (oV (gv (R e))))) hfd
   have C3:=C2.up nfo nfl (.dK (putK kvF (.inl (e:Int)) (oV (gv (R e)))))
   have f3:=z_d (H:=J2) (a:=fd) (o:=.dK (putK kvF (.inl (e:Int)) (oV (gv (R e)))))
   have g3:(upd J2 fd (.dK (putK kvF (.inl (e:Int)) (oV (gv (R e)))))) pg=some (.lst (natsV gts)):=by rw [z_n nfg.symm];exact g2
   have w3:(upd J2 fd (.dK (putK kvF (.inl (e:Int)) (oV (gv (R e)))))) pw=some (.lst (natsV wt')):=by rw [z_n nfw.symm];exact w2
   generalize upd J2 fd (.dK (putK kvF (.inl (e:Int)) (oV (gv (R e)))))=J3 at c3 C3 f3 g3 w3 ⊢
   have hdg3:=DGet.k (k:=.inl (e:Int)) f3
   rw [hF3.2 e,if_pos (List.mem_append_right _ (List.mem_singleton.mpr rfl))] at hdg3
   have lS:(S++[e]).length=S.length+1:=by rw [List.length_append];rfl
   refine ⟨_,rfl,_,rfl,fd,_,rfl,hdg3,rfl,_,rfl,?_⟩
   cases hge:gv (R e) with
   | some w =>
    refine y_s (decide_eq_false (fun h=>by dsimp only at h;rw [hge] at h;cases h)) (iteF ?_)
    exact ⟨m-4,by lia,_,S++[e],gts,wt',_,rfl,c3,C3,f3,hF3,g3,w3,hI.plain heS (fun h=>by rw [hge] at h;cases h.1),by lia,by lia⟩
   | none =>
    refine x_d (decide_eq_true (by dsimp only;rw [hge];rfl)) ?_
    have N3:=hN.chl c3 ngl hl0
    refine ⟨_,rfl,_,_,rfl,rfl,⟨by decide,by decide⟩,_,rfl,net,_,_,_,rfl,rfl,SqT.of N3.p,rfl,_,_,rfl,rfl,_,rfl,?_⟩
    by_cases hel:L<e/2
    ·refine x_d (decide_eq_true (by lia)) ?_
     have hgts:gts.length<=60:=by lia
     refine ⟨_,rfl,.inl ⟨rfl,_,SqL.of g3⟩,_,rfl,pg,_,_,rfl,rfl,g3,y_n (by rw [z_l];lia),?_⟩
     rw [<-natsV_snoc]
     have c4:=c3.fr (o:=.lst (natsV (gts++[e]))) hpgH
     have C4:=C3.up ngo ngl' (.lst (natsV (gts++[e])))
     have g4:=z_d (H:=J3) (a:=pg) (o:=.lst (natsV (gts++[e])))
     have f4:(upd J3 pg (.lst (natsV (gts++[e])))) fd=some (.dK (putK kvF (.inl (e:Int)) (oV (gv (R e))))):=by rw [z_n nfg];exact f3
     have w4:(upd J3 pg (.lst (natsV (gts++[e])))) pw=some (.lst (natsV wt')):=by rw [z_n ngw.symm];exact w3
     generalize upd J3 pg (.lst (natsV (gts++[e])))=J4 at c4 C4 g4 f4 w4 ⊢
     have N4:=hN.chl c4 ngl hl0
     obtain ⟨hb1,hb2⟩:=bel_lt hG hn he hel
     refine ⟨_,rfl,.inl ⟨rfl,_,SqL.of w4⟩,_,rfl,_,rfl,net,g,rs,L,gs,e,rfl,N4,hel,by lia,by lia,fun t J5 s5 ht=>⟨pw,t,_,_,rfl,rfl,s5 _ _ w4,ht,small (by rw [z_l,z_l];lia),?_⟩⟩
     have c5:=(c4.trans s5.ch).fr (o:=.lst (natsV wt'++natsV (belN L gs e))) hpwH
     have C5:=(C4.same s5).up nwo nwl (.lst (natsV wt'++natsV (belN L gs e)))
     have ew:natsV wt'++natsV (belN L gs e)=natsV (wt'++belN L gs e):=by unfold natsV;rw [List.map_append]
     have hI5:=hI.gate hG hn heS hge hel
     refine ⟨m-4+(belN L gs e).length,by lia,_,S++[e],gts++[e],wt'++belN L gs e,_,rfl,c5,C5,by rw [z_n nfw];exact s5 _ _ f4,hF3,by rw [z_n ngw];exact s5 _ _ g4,by rw [z_d,ew],hI5,by rw [lS,List.length_append];lia,by rw [List.length_append,List.length_append];have:[e].length=1:=rfl;lia⟩
    ·refine y_s (decide_eq_false (by lia)) ?_
     exact ⟨m-4,by lia,_,S++[e],gts,wt',_,rfl,c3,C3,f3,hF3,g3,w3,hI.plain heS (fun h=>hel h.2),by lia,by lia⟩
theorem ok_both_bits(T:Tx w K mg A):FnOk P w K mg base CX0 1 A.a_both_bits A.d_both_bits ["one", "other"] sp_both:=by
 refine T.F_both_bits.ok sc_both_bits (fun vs H Q E h=>?_) (fun cdv A' outer s H vs Q E hr h=>?_)
 ·obtain ⟨x,y,rfl,q⟩:=h
  rfl
 obtain ⟨x,y,rfl,q⟩:=h
 refine ⟨_,(z_j (y_b (pe_ifExp (PW.pt (pw_or (z_s op_isN (pv 0) pe_non (nomark _)) (pw_or1 (z_s op_isN (pv 1) pe_non (nomark _))))) pe_non (z_i op_and (pv 0) (pv 1))))),?_⟩
 cases x with
 | none =>
  refine ⟨_,rfl,rfl,_,rfl,x_d (decide_eq_true rfl) (iteT ?_)⟩
  cases y<;>exact q
 | some x =>
  refine ⟨_,rfl,rfl,_,rfl,y_s (decide_eq_false (fun h=>by cases h)) ?_⟩
  cases y with
  | none=>exact ⟨_,rfl,rfl,_,rfl,x_d (decide_eq_true rfl) q⟩
  | some y=>exact ⟨_,rfl,rfl,_,rfl,y_s (decide_eq_false (fun h=>by cases h)) ⟨_,rfl,_,rfl,_,_,rfl,rfl,q⟩⟩
theorem ok_bits_of_both(T:Tx w K mg A)(C_bits_of_both:LamAt mg base A.tc_bits_of_both A.tp_bits_of_both)(G_all_stands:FnOk P w K mg base CX0 1 A.a_all_stands A.d_all_stands ["many"] sp_all_stands)(G_found_of:∀ base':Heap,FnOk P w K mg base' CX0 2 A.a_found_of A.d_found_of ["net", "classes", "given", "ends", "turned", "both"] (sp_found A.c_Classes P w K mg base'))(G_both_bits:∀ base':Heap,FnOk P w K mg base' CX0 1 A.a_both_bits A.d_both_bits ["one", "other"] sp_both)(G_Classes_least:FnOk P w K mg base CX0 1 A.a_Classes_least A.d_Classes_least ["self", "end"] (sp_C_least A.c_Classes)):FnOk P w K mg base CX0 3 A.a_bits_of_both A.d_bits_of_both ["net", "classes", "step"] (sp_bits A.c_Classes A.tp_bits_of_both z_v z_t):=by
 refine T.F_bits_of_both.okC T.L_bits_of_both sc_bits_of_both (fun vs H Q E h=>?_) (fun A' outer s H vs Q E hr h=>?_)
 ·obtain ⟨net,g,o,l,st,lt,rs,L,n,a,b,gs,R,ls,rfl,hS,h6,hd,hP,q⟩:=h
  rfl
 obtain ⟨net,g,o,l,st,lt,rs,L,n,a,b,gs,R,ls,rfl,hS,h6,hd,hP,q⟩:=h
 have hu:=hu_of hr
 refine ⟨_,(z_c (z_q (i:=3) sc_bits_of_both.nd rfl (Or.inl rfl) (y_e G_all_stands (hr.mono (by first | decide | lia)) rfl T.M_all_stands T.F_all_stands.kp T.B_all_stands .nil pass0 (z_a (z_r y_o rfl T.len PySem.boot_len (z_a (z_p z_u (pv 2) z_b (fun _ _=>rfl)) z_f)) z_f)))
  (z_c (z_q (i:=4) sc_bits_of_both.nd rfl (Or.inr rfl) (z_p z_u (pv 3) z_b (fun _ _=>rfl)))
  (z_c (z_q (i:=5) sc_bits_of_both.nd rfl (Or.inl rfl) (pe_disp (pps_cons z_b z_b (pps_cons z_b (pv 4) pps_nil)) rfl rfl (by simp) (by decide)))
  (z_c (ps_for PassesOwn.never rfl (pi_zipm rfl T.zip (z_a (z_p z_u (pv 2) z_b (fun _ _=>rfl)) (z_a (z_p z_u (pv 3) z_b (fun _ _=>rfl)) z_f))) (pg_tup rfl (pgs_cons (y_j (i:=6) sc_bits_of_both.nd rfl (Or.inl rfl)) (pgs_cons (y_j (i:=7) sc_bits_of_both.nd rfl (Or.inl rfl)) pgs_nil)))
    (z_c (ps_dput hu (pv 5) (pe_meth (pv 1) T.cl_Classes T.me_Classes_least G_Classes_least (hr.mono (by first | decide | lia)) T.B_Classes_least .nil pass0 (z_a (pv 6) z_f)) (pv 7) rfl)
  (z_j (ps_dput hu (pv 5) (z_i op_xor (pe_meth (pv 1) T.cl_Classes T.me_Classes_least G_Classes_least (hr.mono (by first | decide | lia)) T.B_Classes_least .nil pass0 (z_a (pv 6) z_f)) z_b) (z_i op_xor (pv 4) (pv 7)) rfl))))
  (z_c (ps_defC (qual:=z_t) (j:=8) C_bits_of_both rfl (by first | rfl | decide) rfl rfl rfl sc_bits_of_both.nd rfl (Or.inl rfl))
  (z_j (y_b (pe_callW (fr := "high") (i:=4) G_found_of (hr.mono (by first | decide | lia)) rfl T.M_found_of T.F_found_of.kp T.B_found_of rfl rfl rfl (z_a (pv 0) (z_a (pv 1) (z_a (pv 5) (z_a (pe_slice sl_tupE (pv 2) (po_some z_b) (po_some z_b)) (z_a (pv 8) (z_a (pe_fnV rfl T.M_both_bits) z_f)))))))))))))),?_⟩
 obtain ⟨⟨L0,hl0⟩,x0,ho0⟩:=hS.cls.lst
 have nol:o≠l:=hS.cls.ne
 have nst:st≠l:=tup_nel hS.st hl0
 have nlt:lt≠l:=tup_nel hS.lt hl0
 have ntp:A.tp_bits_of_both≠l:=fun e=>by rw [e,hl0] at hP;cases hP
 refine ⟨_,rfl,st,_,_,_,rfl,rfl,SqT.of hS.st,rfl,_,_,rfl,.inr ⟨_,SqT.of hS.lt,rfl⟩,ls.length,by rw [z_l];rfl,h6,fun ps pq H1 hps hpq s1 e1 e2=>?_⟩
 have npl:ps≠l:=tup_nel e1 (s1 _ _ hl0)
 have nql:pq≠l:=fun e=>by rw [e,hl0] at hpq;cases hpq
 refine ⟨_,rfl,ps,_,_,_,rfl,rfl,SqT.of e1,rfl,fun gd hgd=>?_⟩
 refine ⟨_,rfl,z_d,[(.inl ((0:Nat):Int),.int ((0:Nat):Int)),(.inl ((1:Nat):Int),.int ((hiW ls.length:Nat):Int))],rfl,(by show 2<=15;decide),?_⟩
 have k0:=DkI.two (hi:=hiW ls.length)
 generalize mergeK [] [((.inl ((0:Nat):Int):Key),V.int ((0:Nat):Int)),(.inl ((1:Nat):Int),.int ((hiW ls.length:Nat):Int))]=kv0 at k0 ⊢
 have hgdH:=s1.free hgd
 have s2:Same H1 (upd (upd H1 gd (.dK [])) gd (.dK kv0)):=sameUpd (z_h hgd _) hgd _
 have f2:=z_d (H:=upd H1 gd (.dK [])) (a:=gd) (o:=.dK kv0)
 dsimp only [gName]
 generalize upd (upd H1 gd (.dK [])) gd (.dK kv0)=H2 at s2 f2 ⊢
 have s2':=s1.trans s2
 have ngl:l≠gd:=z_g hl0 hgdH
 have ngo:o≠gd:=z_g ho0 hgdH
 have ngq:pq≠gd:=z_g e2 hgd
 have hlz:(sdL ls.length).length=ls.length:=sdL_len
 refine ⟨_,rfl,st,_,_,_,rfl,rfl,SqT.of (s2' _ _ hS.st),rfl,_,rfl,ps,_,_,_,rfl,rfl,SqT.of (s2 _ _ e1),rfl,lt,pq,rfl,⟨_,SqT.of (s2' _ _ hS.lt)⟩,⟨_,SqL.of (s2 _ _ e2)⟩,for_zipm (xs:=natsV ls) (ys:=natsV (sdL ls.length)) (fun i σ J=>∃ (x6 x7:Option V) (kvs:List (Key×V)),σ=[some (.ref net),some (.ref o),some (.ref st),some (.ref ps),some (.int ((hiW ls.length:Nat):Int)),some (.ref gd),x6,x7,none]/\Ch l H J/\ClsAt A.c_Classes J o l n R/\J gd=some (.dK kvs)/\J pq=some (.lst (natsV (sdL ls.length)))/\DkI kvs (gkL R (hiW ls.length) ((ls.zip (sdL ls.length)).take i)) (2+2*i)) ⟨_,_,kv0,rfl,s2'.ch,hS.cls.same s2',f2,s2 _ _ e2,k0⟩ ?_ (by rw [z_l,z_l,hlz]) ?_ ?_⟩
 ·rintro i σ J ⟨_,_,_,rfl,cJ,_,_,hq,_⟩
  exact ⟨SqT.of (cJ _ _ nlt hS.lt),SqL.of hq⟩
 ·rintro i x y p σ J hx hy ⟨x6,x7,kvs,rfl,cJ,CJ,dJ,qJ,hk⟩ hp
  obtain ⟨hi,rfl⟩:=x_c hx
  obtain ⟨hi2,rfl⟩:=x_c hy
  have hsi:ls[i]? = some (ls.getD i 0):=by rw [List.getD_eq_getElem?_getD,List.getElem?_eq_getElem hi];rfl
  have hwi:(sdL ls.length)[i]? = some ((sdL ls.length).getD i 0):=by rw [List.getD_eq_getElem?_getD,List.getElem?_eq_getElem hi2];rfl
  have hnew:=dst_new (hi:=hiW ls.length) hd hlz hsi
  have htk:=take_get (List.getElem?_zip_eq_some.mpr ⟨hsi,hwi⟩:(ls.zip (sdL ls.length))[i]? = some (ls.getD i 0,(sdL ls.length).getD i 0))
  have hel:=hS.hl _ (List.mem_of_getElem? hsi)
  generalize ls.getD i 0=e at hsi hnew htk hel ⊢
  generalize (sdL ls.length).getD i 0=w0 at hwi htk ⊢
  have t1:=z_h hp (.tup [.int (e:Int),.int (w0:Int)])
  refine ⟨p,_,rfl,SqT.of z_d,rfl,_,_,rfl,_,_,rfl,rfl,?_⟩
  have c1:=cJ.trans t1.ch
  have C1:=CJ.same t1
  have d1:=t1 _ _ dJ
  have q1:=t1 _ _ qJ
  dsimp only [gName]
  generalize upd J p (.tup [.int (e:Int),.int (w0:Int)])=J1 at t1 c1 C1 d1 q1 ⊢
  obtain ⟨dx1,ho1⟩:=C1.1
  refine ⟨_,rfl,_,rfl,_,rfl,o,dx1,_,rfl,ho1,lk_no (by decide),_,rfl,o,l,n,R,e,rfl,C1,by lia,fun J2 ch2 C2=>?_⟩
  have d2:=ch2 _ _ ngl.symm d1
  have q2:=ch2 _ _ nql q1
  have hkl:=hk.1
  refine ⟨gd,_,rfl,DPut.k (k:=.inl ((R e:Nat):Int)) d2 (y_n (by lia)),?_⟩
  have k2:=hk.new (w:=w0) (hnew (R e) rfl)
  have c3:=(c1.trans ch2).fr (o:=.dK (putK kvs (.inl ((R e:Nat):Int)) (.int (w0:Int)))) hgdH
  have C3:=C2.up ngo ngl (.dK (putK kvs (.inl ((R e:Nat):Int)) (.int (w0:Int))))
  have d3:=z_d (H:=J2) (a:=gd) (o:=.dK (putK kvs (.inl ((R e:Nat):Int)) (.int (w0:Int))))
  have q3:(upd J2 gd (.dK (putK kvs (.inl ((R e:Nat):Int)) (.int (w0:Int))))) pq=some (.lst (natsV (sdL ls.length))):=by rw [z_n ngq];exact q2
  generalize upd J2 gd (.dK (putK kvs (.inl ((R e:Nat):Int)) (.int (w0:Int))))=J3 at c3 C3 d3 q3 ⊢
  obtain ⟨dx3,ho3⟩:=C3.1
  refine ⟨_,rfl,_,rfl,_,_,rfl,rfl,_,rfl,_,rfl,o,dx3,_,rfl,ho3,lk_no (by decide),_,rfl,o,l,n,R,e,rfl,C3,by lia,fun J4 ch4 C4=>?_⟩
  have d4:=ch4 _ _ ngl.symm d3
  have q4:=ch4 _ _ nql q3
  have x1:Builtin.bitXor ((R e:Nat):Int) 1=((R e^^^1:Nat):Int):=xor_nat (R e) 1
  have x2:Builtin.bitXor ((hiW ls.length:Nat):Int) (w0:Int)=((hiW ls.length^^^w0:Nat):Int):=xor_nat _ _
  have k4:=k2.new (k:=R e^^^1) (w:=hiW ls.length^^^w0) (by
   rw [lkN_snoc,hnew (R e^^^1) (xor1 (R e)).1]
   exact if_neg fun h=>(xor1 (R e)).2.1 h.symm)
  have kl2:=k2.1
  refine ⟨_,_,rfl,rfl,gd,_,rfl,(by dsimp only;rw [x1,x2];exact DPut.k (k:=.inl ((R e^^^1:Nat):Int)) d4 (y_n (by lia))),?_⟩
  refine ⟨_,_,_,rfl,(c3.trans ch4).fr hgdH,C4.up ngo ngl _,z_d,by rw [z_n ngq];exact q4,?_⟩
  rw [htk,gkL_snoc]
  exact k4
 rintro σ J ⟨x6,x7,kvs,rfl,cJ,CJ,dJ,_,hk⟩
 rw [z_l,show (ls.zip (sdL ls.length)).take ls.length=ls.zip (sdL ls.length) from List.take_of_length_le (by rw [List.length_zip,hlz];lia)] at hk
 refine ⟨cJ _ _ ntp hP,fun f c' fo J1 sm hfn hff hcl hcd=>?_⟩
 have c1:=cJ.trans sm.ch
 refine ⟨_,rfl,_,rfl,_,rfl,_,rfl,_,rfl,_,rfl,st,_,rfl,c1 _ _ nst hS.st,fun et J2 sm2 het=>⟨_,rfl,.int ((hiW ls.length:Nat):Int),rfl,fun base' oce uy hc hv ry=>?_⟩⟩
 obtain ⟨fdt,Ft,Bt,dt⟩:=clo_ok (P:=P) (w:=w) (K:=K) (mg:=mg) hc hv ry hcl rfl rfl rfl rfl rfl (fun doc pm ctv u=>rfl) (fun A outer s H=>z_j (y_b (pe_ifExp (z_s op_isN (pv 1) pe_non (nomark _)) pe_non (z_i op_xor (pv 0) (pv 1)))))
 obtain ⟨oc,od,kV,doc,pm,an,cdv,ct,osl,eD,lk,hcd'⟩:=T.F_both_bits.ex
 have c2:=c1.trans sm2.ch
 refine ⟨net,g,o,l,gd,et,f,A.a_both_bits,c',rs,L,n,hiW ls.length,a,b,gs,R,kvs,lkN (gkL R (hiW ls.length) (ls.zip (sdL ls.length))),fo,_,_,fdt,A.d_both_bits,rfl,hS.net.chl c2 hS.gl hl0,hS.gt,hS.hn,hS.n30,(CJ.same sm).same sm2,sm2 _ _ (sm _ _ dJ),hk.2,het,hS.ha,hS.hb,hS.gl,⟨⟨_,sm2 _ _ hff⟩,dt,hcd.same sm2,?_,Bt,lk,rfl,G_both_bits base',T.B_both_bits⟩,fun p J3 hp ch3 C3 e3=>q p J3 (c2.trans ch3) C3 e3⟩
 refine Ft.imp fun vs H Q E h=>?_
 obtain ⟨x,u,rfl,hf,hcd,q⟩:=h
 refine ⟨oV x,u,rfl,hf,hcd,?_⟩
 cases x with
 | none=>exact ⟨_,rfl,rfl,_,rfl,x_d (decide_eq_true rfl) q⟩
 | some x =>
  refine ⟨_,rfl,rfl,_,rfl,y_s (decide_eq_false (fun h=>by cases h)) ⟨_,rfl,_,rfl,_,_,rfl,rfl,?_⟩⟩
  have x2:Builtin.bitXor ((hiW ls.length:Nat):Int) (x:Int)=((hiW ls.length^^^x:Nat):Int):=xor_nat _ _
  dsimp only
  rw [x2]
  exact q
theorem ok_is_good(T:Tx w K mg A)(G_is_step:FnOk P w K mg base CX0 4 A.a_is_step A.d_is_step ["net", "classes", "thing"] (sp_step A.c_Classes))(G_bits_of_both:FnOk P w K mg base CX0 3 A.a_bits_of_both A.d_bits_of_both ["net", "classes", "step"] (sp_bits A.c_Classes A.tp_bits_of_both z_v z_t))(G_sets_of_both:FnOk P w K mg base CX0 1 A.a_sets_of_both A.d_sets_of_both ["net", "classes", "step"] nv_any):FnOk P w K mg base CX0 5 A.a_is_good A.d_is_good ["net", "classes", "step"] (sp_goodS A.c_Classes A.tp_bits_of_both z_v z_t):=by
 refine T.F_is_good.ok sc_is_good (fun vs H Q E h=>?_) (fun cdv A' outer s H vs Q E hr h=>?_)
 ·obtain ⟨net,g,o,l,st,lt,rs,L,n,a,b,gs,R,ls,rfl,hS,hP,q⟩:=h
  rfl
 obtain ⟨net,g,o,l,st,lt,rs,L,n,a,b,gs,R,ls,rfl,hS,hP,q⟩:=h
 refine ⟨_,(z_c (ps_if (pt_not (pt_truth (y_e G_is_step (hr.mono (by first | decide | lia)) rfl T.M_is_step T.F_is_step.kp T.B_is_step .nil pass0 (z_a (pv 0) (z_a (pv 1) (z_a (pv 2) z_f)))) (fun _=>rfl))) (z_j (y_b pe_bl)) y_f)
  (z_c (ps_if (z_s op_eq (z_p z_u (pv 2) z_b (fun _ _=>rfl)) pe_str (nomark _)) (z_j (z_q (i:=3) sc_is_good.nd rfl (Or.inl rfl) (y_e G_bits_of_both (hr.mono (by first | decide | lia)) rfl T.M_bits_of_both T.F_bits_of_both.kp T.B_bits_of_both .nil pass0 (z_a (pv 0) (z_a (pv 1) (z_a (pv 2) z_f)))))) (z_j (z_q (i:=3) sc_is_good.nd rfl (Or.inl rfl) (y_e G_sets_of_both (hr.mono (by first | decide | lia)) rfl T.M_sets_of_both T.F_sets_of_both.kp T.B_sets_of_both .nil pass0 (z_a (pv 0) (z_a (pv 1) (z_a (pv 2) z_f)))))))
  (z_j (y_b (pe_and (pe_cmpR op_notN (z_p z_o (pv 3) z_b (fun _ _=>rfl)) pe_non (nomark _)) (pe_one (pe_cmpR op_eq (z_p z_o (pv 3) z_b (fun _ _=>rfl)) (z_p z_o (pv 3) z_b (fun _ _=>rfl)) (nomark _)))))))),?_⟩
 obtain ⟨⟨L0,hl0⟩,x0,ho0⟩:=hS.cls.lst
 have nst:st≠l:=tup_nel hS.st hl0
 have nlt:lt≠l:=tup_nel hS.lt hl0
 have ntp:A.tp_bits_of_both≠l:=fun e=>by rw [e,hl0] at hP;cases hP
 refine ⟨_,rfl,_,rfl,_,rfl,net,g,o,l,st,lt,rs,L,n,a,b,gs,R,ls,rfl,hS,fun H1 c1 C1=>⟨_,rfl,?_⟩⟩
 by_cases hst:ls.length<=6/\Dst R ls
 case neg =>
  have:=q H1 c1 C1
  unfold goodS at this
  rw [decide_eq_false (fun h=>hst ⟨h.1,h.2.1⟩)] at this
  exact x_d (by rw [decide_eq_false hst];rfl) this
 refine y_s (by rw [decide_eq_true hst];rfl) ?_
 have hS1:StpA A.c_Classes H1 net g o l st lt rs L n a b gs R ls:=⟨hS.net.chl c1 hS.gl hl0,hS.gt,hS.hn,hS.n30,C1,c1 _ _ nst hS.st,c1 _ _ nlt hS.lt,hS.ha,hS.hb,hS.hl,hS.l7,hS.gl⟩
 refine ⟨_,rfl,st,_,_,_,rfl,rfl,SqT.of hS1.st,rfl,rfl,_,rfl,x_d (decide_eq_true rfl) ?_⟩
 refine ⟨_,rfl,_,rfl,_,rfl,net,g,o,l,st,lt,rs,L,n,a,b,gs,R,ls,rfl,hS1,hst.1,hst.2,c1 _ _ ntp hP,fun p H2 c2 C2 fp=>?_⟩
 have hq:=q H2 (c1.trans c2) C2
 unfold goodS at hq
 refine ⟨_,rfl,p,_,_,_,rfl,rfl,SqL.of fp,rfl,rfl,_,rfl,?_⟩
 cases ha:valS R L gs ls a with
 | none =>
  rw [decide_eq_false (fun h=>h.2.2.1 ha)] at hq
  exact y_s rfl hq
 | some x =>
  rw [ha] at fp hq
  refine x_d rfl ⟨_,rfl,p,_,_,_,rfl,rfl,SqL.of fp,rfl,_,rfl,p,_,_,_,rfl,rfl,SqL.of fp,rfl,?_⟩
  cases hb:valS R L gs ls b with
  | none =>
   rw [hb] at hq
   rw [decide_eq_false (fun h=>by cases h.2.2.2)] at hq
   exact ⟨rfl,hq⟩
  | some y =>
   rw [hb] at hq
   refine ⟨rfl,?_⟩
   have e:decide (V.int (x:Int)=V.int (y:Int))=decide (ls.length<=6/\Dst R ls/\some x≠none/\some x=some y):=decide_eq_decide.mpr ⟨fun h=>by injection h with h;exact ⟨hst.1,hst.2,nofun,by rw [show x=y by lia]⟩,fun h=>by rw [Option.some.inj h.2.2.2]⟩
   exact (congrArg (fun b=>Q (V.bl b) H2) e).mpr hq
theorem ok_Classes_init(T:Tx w K mg A):FnOk P w K mg base CX0 1 A.a_Classes_init A.d_Classes_init ["self", "knots"] (sp_C_init A.c_Classes):=by
 refine T.F_Classes_init.ok sc_Classes_init (fun vs H Q E h=>?_) (fun cdv A' outer s H vs Q E hr h=>?_)
 ·obtain ⟨o,dx,n,rfl,ho,hn,q⟩:=h
  rfl
 obtain ⟨o,dx,n,rfl,ho,hn,q⟩:=h
 refine ⟨_,(z_j (ps_fld (pv 0) (pe_comp [] (fun _ _ h=>h) rfl (x_b rfl T.range (z_a (pv 1) z_f)) (fun _ _ _ _=>x_i) (fun _ _ _ _=>(z_i y_m z_b (pv 0))) rfl (show ∀ j∈([]:List Nat),j<2 by decide) (show (["knot"]:List Str).Nodup by decide +kernel)) rfl)),?_⟩
 refine ⟨_,rfl,_,rfl,by lia,by lia,comp_range (lo:=0) (fun i ys H'=>H=H'/\ys=natsV ((List.range i).map fun k=>2*k)) ⟨rfl,rfl⟩ ?_ ?_ ?_⟩
 ·rintro i ys H' hi ⟨rfl,rfl⟩
  rw [z_l,List.length_map,List.length_range]
  exact y_n (by lia)
 ·rintro i ys H' hi ⟨rfl,rfl⟩
  unfold tYes
  refine iteT ⟨_,rfl,_,_,rfl,rfl,.inl ⟨by decide,by decide⟩,?_⟩
  refine ⟨rfl,?_⟩
  rw [List.range_succ,List.map_append]
  unfold natsV
  rw [List.map_append]
  congr 1
  show [V.int (2*(0+(i:Int)))]=[V.int ((2*i:Nat):Int)]
  rw [Int.zero_add,Int.natCast_mul]
  rfl
 ·rintro ys H' ⟨rfl,rfl⟩ pl hpl
  have nol:o≠pl:=z_g ho hpl
  refine ⟨_,rfl,o,A.c_Classes,dx,[],rfl,(by rw [z_n nol];exact ho),T.cl_Classes,T.n_Classes_lesser,by decide,?_⟩
  refine q pl _ hpl (fun b o' nb e=>?_) ⟨⟨dx,z_d⟩,_,(by rw [z_n (Ne.symm nol),z_d]),?_,hn⟩
  ·rw [z_n nb,z_n (z_g e hpl)]
   exact e
  ·have:((n:Int)-0).toNat=n:=by lia
   simp only [Int.toNat_natCast,Int.sub_zero]
   exact Uf.init n
theorem ok_Classes_alike(T:Tx w K mg A)(G_Classes_least:FnOk P w K mg base CX0 1 A.a_Classes_least A.d_Classes_least ["self", "end"] (sp_C_least A.c_Classes)):FnOk P w K mg base CX0 2 A.a_Classes_alike A.d_Classes_alike ["self", "one", "other"] (sp_C_alike A.c_Classes):=by
 refine T.F_Classes_alike.ok sc_Classes_alike (fun vs H Q E h=>?_) (fun cdv A' outer s H vs Q E hr h=>?_)
 ·obtain ⟨o,l,n,R,a,b,rfl,hC,ha,hb,q⟩:=h
  rfl
 obtain ⟨o,l,n,R,a,b,rfl,hC,ha,hb,q⟩:=h
 refine ⟨_,(z_j (y_b (pe_cmpR op_eq (pe_meth (pv 0) T.cl_Classes T.me_Classes_least G_Classes_least (hr.mono (by first | decide | lia)) T.B_Classes_least .nil pass0 (z_a (pv 1) z_f)) (pe_meth (pv 0) T.cl_Classes T.me_Classes_least G_Classes_least (hr.mono (by first | decide | lia)) T.B_Classes_least .nil pass0 (z_a (pv 2) z_f)) (nomark _)))),?_⟩
 obtain ⟨dx,ho⟩:=hC.1
 refine ⟨_,rfl,o,dx,_,rfl,ho,lk_no (by decide),_,rfl,o,l,n,R,a,rfl,hC,ha,fun H1 ch1 hC1=>?_⟩
 obtain ⟨dx1,ho1⟩:=hC1.1
 refine ⟨_,rfl,o,dx1,_,rfl,ho1,lk_no (by decide),_,rfl,o,l,n,R,b,rfl,hC1,hb,fun H2 ch2 hC2=>?_⟩
 refine ⟨rfl,?_⟩
 have e:decide (V.int ((R a:Nat):Int)=V.int ((R b:Nat):Int))=decide (R a=R b):=by
  by_cases h:R a=R b
  ·rw [h,decide_eq_true rfl,decide_eq_true rfl]
  ·rw [decide_eq_false h,decide_eq_false (by intro e;injection e with e;lia)]
 rw [e]
 exact q H2 (ch1.trans ch2) hC2
theorem ok_Classes_join(T:Tx w K mg A)(G_Classes_least:FnOk P w K mg base CX0 1 A.a_Classes_least A.d_Classes_least ["self", "end"] (sp_C_least A.c_Classes)):FnOk P w K mg base CX0 2 A.a_Classes_join A.d_Classes_join ["self", "one", "other"] (sp_C_join A.c_Classes):=by
 refine T.F_Classes_join.ok sc_Classes_join (fun vs H Q E h=>?_) (fun cdv A' outer s H vs Q E hr h=>?_)
 ·obtain ⟨o,l,n,R,a,b,rfl,hC,ha,hb,q⟩:=h
  rfl
 obtain ⟨o,l,n,R,a,b,rfl,hC,ha,hb,q⟩:=h
 refine ⟨_,(z_c (z_q (i:=3) sc_Classes_join.nd rfl (Or.inl rfl) (z_r (call_min2 rfl) rfl T.min PyProof.Rows.boot_min (z_a (pe_meth (pv 0) T.cl_Classes T.me_Classes_least G_Classes_least (hr.mono (by first | decide | lia)) T.B_Classes_least .nil pass0 (z_a (pv 1) z_f)) (z_a (pe_meth (pv 0) T.cl_Classes T.me_Classes_least G_Classes_least (hr.mono (by first | decide | lia)) T.B_Classes_least .nil pass0 (z_a (pv 2) z_f)) z_f))))
  (z_c (z_q (i:=4) sc_Classes_join.nd rfl (Or.inl rfl) (z_r (call_max2 rfl) rfl T.max PyProof.Rows.boot_max (z_a (pe_meth (pv 0) T.cl_Classes T.me_Classes_least G_Classes_least (hr.mono (by first | decide | lia)) T.B_Classes_least .nil pass0 (z_a (pv 1) z_f)) (z_a (pe_meth (pv 0) T.cl_Classes T.me_Classes_least G_Classes_least (hr.mono (by first | decide | lia)) T.B_Classes_least .nil pass0 (z_a (pv 2) z_f)) z_f))))
  (z_c (ps_if (z_s op_eq (pv 3) (pv 4) (nomark _)) (z_j (y_b pe_bl)) y_f)
  (z_c (ps_if (z_s op_eq (z_i op_xor (pv 3) z_b) (pv 4) (nomark _)) (z_j (y_b pe_bl)) y_f)
  (z_c (ps_asg (z_i op_xor (pv 3) (z_i y_d (pv 4) z_b)) (pg_sub (pe_fld (pv 0) rfl) (z_i y_p (pv 4) z_b) set_list))
  (z_j (y_b pe_bl))))))),?_⟩
 obtain ⟨dx1,ho1⟩:=hC.1
 refine ⟨_,rfl,o,dx1,_,rfl,ho1,lk_no (by decide),_,rfl,o,l,n,R,a,rfl,hC,ha,fun H1 ch1 hC1=>?_⟩
 obtain ⟨dx2,ho2⟩:=hC1.1
 refine ⟨_,rfl,o,dx2,_,rfl,ho2,lk_no (by decide),_,rfl,o,l,n,R,b,rfl,hC1,hb,fun H2 ch2 hC2=>?_⟩
 refine ⟨_,_,rfl,?_⟩
 obtain ⟨dx3,ho3⟩:=hC2.1
 refine ⟨_,rfl,o,dx3,_,rfl,ho3,lk_no (by decide),_,rfl,o,l,n,R,a,rfl,hC2,ha,fun H3 ch3 hC3=>?_⟩
 obtain ⟨dx4,ho4⟩:=hC3.1
 refine ⟨_,rfl,o,dx4,_,rfl,ho4,lk_no (by decide),_,rfl,o,l,n,R,b,rfl,hC3,hb,fun H4 ch4 hC4=>?_⟩
 refine ⟨_,_,rfl,?_⟩
 have ch4:=((ch1.trans ch2).trans ch3).trans ch4
 have elo:(if ((R b:Nat):Int)<((R a:Nat):Int) then ((R b:Nat):Int) else ((R a:Nat):Int))=((min (R a) (R b):Nat):Int):=by
  split<;>lia
 have ehi:(if ((R b:Nat):Int) > ((R a:Nat):Int) then ((R b:Nat):Int) else ((R a:Nat):Int))=((max (R a) (R b):Nat):Int):=by
  split<;>lia
 obtain ⟨⟨dx,ho⟩,L,hl,u,hn⟩:=id hC4
 have lea:=u.le ha
 have leb:=u.le hb
 have rra:=u.rr ha
 have rrb:=u.rr hb
 have c1:=y_z (R a)
 have c2:=y_z (R b)
 have c3:=cx_mod (R a)
 have c4:=cx_mod (R b)
 generalize hlo:min (R a) (R b)=lo at elo q
 generalize hhi:max (R a) (R b)=hi at ehi q
 rw [elo,ehi]
 have c5:=y_z lo
 have c6:=cx_mod lo
 have xl:Builtin.bitXor ((lo:Nat):Int) 1=((lo^^^1:Nat):Int):=xor_nat lo 1
 refine ⟨_,rfl,_,rfl,rfl,_,rfl,?_⟩
 rcases q with ⟨h1,q⟩ | ⟨h1,q⟩ | ⟨h1,h2,q⟩
 ·refine x_d (decide_eq_true (by congr 1;lia)) ?_
  exact q H4 ch4 hC4
 ·refine y_s (decide_eq_false (by intro h;injection h with h;lia)) ?_
  refine ⟨_,rfl,_,_,rfl,rfl,_,rfl,rfl,_,rfl,?_⟩
  refine x_d (decide_eq_true (by dsimp only;rw [xl];congr 1;lia)) ?_
  exact q H4 ch4 hC4
 ·refine y_s (decide_eq_false (by intro h;injection h with h;lia)) ?_
  refine ⟨_,rfl,_,_,rfl,rfl,_,rfl,rfl,_,rfl,?_⟩
  refine y_s (decide_eq_false (by dsimp only;rw [xl];intro h;injection h with h;lia)) ?_
  have hx:Builtin.bitXor (lo:Int) ((hi:Int)%2)=((lo^^^(hi%2):Nat):Int):=by
   rw [show (hi:Int)%2=((hi%2:Nat):Int) by lia]
   exact xor_nat lo (hi%2)
  have hlt:lo/2<hi/2:=by lia
  have hhn:hi/2<n:=by lia
  have hRl:R lo=lo:=by
   have:lo=R a\/lo=R b:=by lia
   rcases this with h | h<;>rw [h]<;>assumption
  have hRh:R hi=hi:=by
   have:hi=R a\/hi=R b:=by lia
   rcases this with h | h<;>rw [h]<;>assumption
  refine ⟨_,rfl,_,rfl,_,_,rfl,rfl,(by show (0:Int)<2;decide),_,_,rfl,rfl,_,rfl,o,A.c_Classes,dx,_,_,rfl,ho,T.cl_Classes,T.n_Classes_lesser,lk_lesser,_,rfl,_,_,rfl,rfl,⟨by decide,by decide⟩,l,_,_,hi/2,rfl,rfl,hl,?_,?_⟩
  ·exact ixN_half (by rw [u.len];exact hhn)
  ·dsimp only
   rw [hx,natsV_set]
   exact q _ (ch4.trans (Ch.put _)) ⟨⟨dx,by rw [z_n hC4.ne];exact ho⟩,_,z_d,u.join hRl hRh hlt hhn,hn⟩
theorem ok_L_row(T:Tx w K mg A):FnOk P w K mg base CX0 1 A.a_L_row A.d_L_row ["_law_script", "_law_at", "_law_many"] (sp_L_row K):=by
 refine T.F_L_row.ok sc_L_row (fun vs H Q E h=>?_) (fun cdv A' outer s H vs Q E hr h=>?_)
 ·obtain ⟨a,ns,i,n,rfl,hS,h63,hi,hn,hn2,q⟩:=h
  rfl
 obtain ⟨a,ns,i,n,rfl,hS,h63,hi,hn,hn2,q⟩:=h
 refine ⟨_,(z_c (z_q (i:=3) sc_L_row.nd rfl (Or.inl rfl) z_b)
  (z_c (ps_if (z_s op_lt (pv 1) (z_r y_o rfl T.len PySem.boot_len (z_a (pv 0) z_f)) (nomark _)) (z_j (z_q (i:=3) sc_L_row.nd rfl (Or.inl rfl) (z_p z_o (pv 0) (pv 1) (fun _ _=>rfl)))) y_f)
  (z_c (z_q (i:=4) sc_L_row.nd rfl (Or.inl rfl) (z_r call_abs rfl T.abs PyProof.Rows.boot_abs (z_a (pv 3) z_f)))
  (z_c (z_q (i:=5) sc_L_row.nd rfl (Or.inl rfl) (pe_cmpR op_ge (pv 4) (z_i op_pow z_b z_b) (nomark _)))
  (z_c (z_q (i:=6) sc_L_row.nd rfl (Or.inl rfl) (pe_lst z_f))
  (z_c (ps_for PassesOwn.never rfl (x_b rfl T.range (z_a (pv 2) z_f)) (y_j (i:=7) sc_L_row.nd rfl (Or.inl rfl))
    (z_j (ps_if (PW.pt (pw_and (pt_truth (pv 5) (fun _=>rfl)) (pw_and1 (z_s op_gt (pv 4) z_b (nomark _))))) (z_c (ps_expr (pe_bm PySem.F.plainAttrs_list PySem.F.slot_list_append PySem.F.type_list_append x_h (pv 6) (z_a (z_i y_d (pv 4) (z_i op_pow z_b z_b)) z_f)))
  (z_j (z_q (i:=4) sc_L_row.nd rfl (Or.inl rfl) (z_i y_p (pv 4) (z_i op_pow z_b z_b))))) (z_c (z_q (i:=8) sc_L_row.nd rfl (Or.inl rfl) (z_i y_k (z_i y_k (z_i y_k (z_i y_k (z_i y_d (z_r call_abs rfl T.abs PyProof.Rows.boot_abs (z_a (pv 3) z_f)) z_b) (z_i y_m (z_i y_m z_b (pv 7)) (pv 7))) (z_i y_m z_b (pv 1))) (z_i y_m z_b (pv 7))) z_b))
  (z_c (z_q (i:=8) sc_L_row.nd rfl (Or.inl rfl) (z_i y_d (z_i y_m (pv 8) z_b) z_b))
  (z_j (ps_expr (pe_bm PySem.F.plainAttrs_list PySem.F.slot_list_append PySem.F.type_list_append x_h (pv 6) (z_a (z_i y_d (z_i y_k (z_i y_d (z_i y_m (pv 8) (pv 8)) z_b) (z_i y_p (pv 8) z_b)) (z_i op_pow z_b z_b)) z_f)))))))))
  (z_j (y_b (pv 6))))))))),?_⟩
 have hl:(ns.map V.int).length=ns.length:=List.length_map _
 refine ⟨_,rfl,_,rfl,_,_,rfl,.inl ⟨_,hS,rfl⟩,_,_,rfl,rfl,_,rfl,?_⟩
 refine ite2 (fun c=>?_) (fun c=>?_)
 ·have c':i<(((ns.map V.int).length:Nat):Int):=of_decide_eq_true c
  rw [hl] at c'
  obtain ⟨cell,hv,_⟩:=at_ints hi c'
  refine ⟨_,rfl,_,rfl,a,_,_,_,rfl,rfl,hS,hv,?_⟩
  refine ⟨_,rfl,_,rfl,?_⟩
  refine ⟨_,rfl,_,_,rfl,rfl,⟨by decide,by decide,by decide⟩,_,_,rfl,rfl,?_⟩
  refine ⟨(by show 0<=sizeLine;decide),fun p hp=>?_⟩
  refine ⟨_,rfl,_,rfl,by lia,by lia,for_range (lo:=0) (RowInv a p i n H)
   ⟨_,_,_,[],none,none,rfl,by split<;>lia,rfl,(fun _ h=>nomatch h),z_h hp _,z_d⟩ ?_ ?_⟩
  ·rintro j σ H1 hj ⟨cell,great,rest,rs,x,y,rfl,hr0,hrs,hd,hs1,hp1⟩
   have hlen:(rs.map V.int).length<sizeLine:=by rw [List.length_map];exact y_n (by lia)
   have big:∀ v:Int,0<=v->v<1000000->∀ (rest':Int) (x' y':Option V),0<=rest'->RowInv a p i n H (j+1) [some (V.ref a),some (.int i),some (.int n),some (.int cell),some (.int rest'),some (.bl great),some (.ref p),x',y'] (upd H1 p (.lst (rs.map V.int++[.int v]))):=fun v h0 h1 rest' x' y' hr' =>
    ⟨cell,great,rest',rs++[v],_,_,rfl,hr',by rw [List.length_append,hrs];rfl,hd.snoc h0 h1,sameUpd hs1 hp _,by rw [z_d,List.map_append];rfl⟩
   refine ⟨_,rfl,_,rfl,?_⟩
   refine ite2 (fun c1=>?_) (fun c1=>?_)
   ·refine ⟨_,rfl,_,_,rfl,rfl,_,rfl,?_⟩
    refine ite2 (fun c2=>?_) (fun c2=>?_)
    ·refine ⟨_,rfl,.inl ⟨rfl,_,SqL.of hp1⟩,_,rfl,_,_,rfl,rfl,⟨by decide,by decide,by decide⟩,_,_,rfl,rfl,(by show (0:Int)<10^4;decide),p,_,_,rfl,rfl,hp1,hlen,?_⟩
     refine ⟨_,rfl,_,_,rfl,rfl,⟨by decide,by decide,by decide⟩,_,_,rfl,rfl,(by show (0:Int)<10^4/\(10:Int)^4<bigB;exact ⟨by decide,by decide⟩),?_⟩
     exact big _ (Int.emod_nonneg _ (by decide)) (Int.lt_trans (Int.emod_lt_of_pos rest (show (0:Int)<10^(4:Int).toNat by decide)) (by decide)) _ _ _ (Int.ediv_nonneg hr0 (show (0:Int)<=10^(4:Int).toNat by decide))
    ·refine ⟨_,rfl,_,rfl,_,_,rfl,rfl,(by show (0:Int)<1000003;decide),_,rfl,_,_,rfl,rfl,.inl ⟨by decide,by decide⟩,_,rfl,_,_,rfl,rfl,.inr ⟨by lia,by lia⟩,_,_,rfl,rfl,_,rfl,_,_,rfl,rfl,.inl ⟨by decide,by decide⟩,_,_,rfl,rfl,_,rfl,_,_,rfl,rfl,.inl ⟨by decide,by decide⟩,_,_,rfl,rfl,_,_,rfl,rfl,?_⟩
     refine ⟨_,rfl,_,_,rfl,rfl,.inr ⟨by decide,by decide⟩,_,_,rfl,rfl,(by show (0:Int)<2147483647;decide),?_⟩
     refine ⟨_,rfl,.inl ⟨rfl,_,SqL.of hp1⟩,_,rfl,_,rfl,_,_,rfl,rfl,.inl ⟨by lia,by lia⟩,_,_,rfl,rfl,(by show (0:Int)<2147483629;decide),_,rfl,_,_,rfl,rfl,⟨by decide,by decide⟩,_,_,rfl,rfl,_,_,rfl,rfl,⟨by decide,by decide,by decide⟩,_,_,rfl,rfl,(by show (0:Int)<10^6;decide),p,_,_,rfl,rfl,hp1,hlen,?_⟩
     exact big _ (Int.emod_nonneg _ (by decide)) (Int.lt_of_lt_of_le (Int.emod_lt_of_pos _ (show (0:Int)<10^(6:Int).toNat by decide)) (by decide)) _ _ _ hr0
   ·refine iteF ?_
    refine ⟨_,rfl,_,rfl,_,_,rfl,rfl,(by show (0:Int)<1000003;decide),_,rfl,_,_,rfl,rfl,.inl ⟨by decide,by decide⟩,_,rfl,_,_,rfl,rfl,.inr ⟨by lia,by lia⟩,_,_,rfl,rfl,_,rfl,_,_,rfl,rfl,.inl ⟨by decide,by decide⟩,_,_,rfl,rfl,_,rfl,_,_,rfl,rfl,.inl ⟨by decide,by decide⟩,_,_,rfl,rfl,_,_,rfl,rfl,?_⟩
    refine ⟨_,rfl,_,_,rfl,rfl,.inr ⟨by decide,by decide⟩,_,_,rfl,rfl,(by show (0:Int)<2147483647;decide),?_⟩
    refine ⟨_,rfl,.inl ⟨rfl,_,SqL.of hp1⟩,_,rfl,_,rfl,_,_,rfl,rfl,.inl ⟨by lia,by lia⟩,_,_,rfl,rfl,(by show (0:Int)<2147483629;decide),_,rfl,_,_,rfl,rfl,⟨by decide,by decide⟩,_,_,rfl,rfl,_,_,rfl,rfl,⟨by decide,by decide,by decide⟩,_,_,rfl,rfl,(by show (0:Int)<10^6;decide),p,_,_,rfl,rfl,hp1,hlen,?_⟩
    exact big _ (Int.emod_nonneg _ (by decide)) (Int.lt_of_lt_of_le (Int.emod_lt_of_pos _ (show (0:Int)<10^(6:Int).toNat by decide)) (by decide)) _ _ _ hr0
  ·rintro σ H1 ⟨cell,great,rest,rs,x,y,rfl,hr0,hrs,hd,hs1,hp1⟩
   exact ⟨_,rfl,q p rs H1 hp hs1 hp1 (by rw [hrs];lia) hd⟩
 ·refine ⟨_,rfl,_,rfl,?_⟩
  refine ⟨_,rfl,_,_,rfl,rfl,⟨by decide,by decide,by decide⟩,_,_,rfl,rfl,?_⟩
  refine ⟨(by show 0<=sizeLine;decide),fun p hp=>?_⟩
  refine ⟨_,rfl,_,rfl,by lia,by lia,for_range (lo:=0) (RowInv a p i n H)
   ⟨_,_,_,[],none,none,rfl,by split<;>lia,rfl,(fun _ h=>nomatch h),z_h hp _,z_d⟩ ?_ ?_⟩
  ·rintro j σ H1 hj ⟨cell,great,rest,rs,x,y,rfl,hr0,hrs,hd,hs1,hp1⟩
   have hlen:(rs.map V.int).length<sizeLine:=by rw [List.length_map];exact y_n (by lia)
   have big:∀ v:Int,0<=v->v<1000000->∀ (rest':Int) (x' y':Option V),0<=rest'->RowInv a p i n H (j+1) [some (V.ref a),some (.int i),some (.int n),some (.int cell),some (.int rest'),some (.bl great),some (.ref p),x',y'] (upd H1 p (.lst (rs.map V.int++[.int v]))):=fun v h0 h1 rest' x' y' hr' =>
    ⟨cell,great,rest',rs++[v],_,_,rfl,hr',by rw [List.length_append,hrs];rfl,hd.snoc h0 h1,sameUpd hs1 hp _,by rw [z_d,List.map_append];rfl⟩
   refine ⟨_,rfl,_,rfl,?_⟩
   refine ite2 (fun c1=>?_) (fun c1=>?_)
   ·refine ⟨_,rfl,_,_,rfl,rfl,_,rfl,?_⟩
    refine ite2 (fun c2=>?_) (fun c2=>?_)
    ·refine ⟨_,rfl,.inl ⟨rfl,_,SqL.of hp1⟩,_,rfl,_,_,rfl,rfl,⟨by decide,by decide,by decide⟩,_,_,rfl,rfl,(by show (0:Int)<10^4;decide),p,_,_,rfl,rfl,hp1,hlen,?_⟩
     refine ⟨_,rfl,_,_,rfl,rfl,⟨by decide,by decide,by decide⟩,_,_,rfl,rfl,(by show (0:Int)<10^4/\(10:Int)^4<bigB;exact ⟨by decide,by decide⟩),?_⟩
     exact big _ (Int.emod_nonneg _ (by decide)) (Int.lt_trans (Int.emod_lt_of_pos rest (show (0:Int)<10^(4:Int).toNat by decide)) (by decide)) _ _ _ (Int.ediv_nonneg hr0 (show (0:Int)<=10^(4:Int).toNat by decide))
    ·refine ⟨_,rfl,_,rfl,_,_,rfl,rfl,(by show (0:Int)<1000003;decide),_,rfl,_,_,rfl,rfl,.inl ⟨by decide,by decide⟩,_,rfl,_,_,rfl,rfl,.inr ⟨by lia,by lia⟩,_,_,rfl,rfl,_,rfl,_,_,rfl,rfl,.inl ⟨by decide,by decide⟩,_,_,rfl,rfl,_,rfl,_,_,rfl,rfl,.inl ⟨by decide,by decide⟩,_,_,rfl,rfl,_,_,rfl,rfl,?_⟩
     refine ⟨_,rfl,_,_,rfl,rfl,.inr ⟨by decide,by decide⟩,_,_,rfl,rfl,(by show (0:Int)<2147483647;decide),?_⟩
     refine ⟨_,rfl,.inl ⟨rfl,_,SqL.of hp1⟩,_,rfl,_,rfl,_,_,rfl,rfl,.inl ⟨by lia,by lia⟩,_,_,rfl,rfl,(by show (0:Int)<2147483629;decide),_,rfl,_,_,rfl,rfl,⟨by decide,by decide⟩,_,_,rfl,rfl,_,_,rfl,rfl,⟨by decide,by decide,by decide⟩,_,_,rfl,rfl,(by show (0:Int)<10^6;decide),p,_,_,rfl,rfl,hp1,hlen,?_⟩
     exact big _ (Int.emod_nonneg _ (by decide)) (Int.lt_of_lt_of_le (Int.emod_lt_of_pos _ (show (0:Int)<10^(6:Int).toNat by decide)) (by decide)) _ _ _ hr0
   ·refine iteF ?_
    refine ⟨_,rfl,_,rfl,_,_,rfl,rfl,(by show (0:Int)<1000003;decide),_,rfl,_,_,rfl,rfl,.inl ⟨by decide,by decide⟩,_,rfl,_,_,rfl,rfl,.inr ⟨by lia,by lia⟩,_,_,rfl,rfl,_,rfl,_,_,rfl,rfl,.inl ⟨by decide,by decide⟩,_,_,rfl,rfl,_,rfl,_,_,rfl,rfl,.inl ⟨by decide,by decide⟩,_,_,rfl,rfl,_,_,rfl,rfl,?_⟩
    refine ⟨_,rfl,_,_,rfl,rfl,.inr ⟨by decide,by decide⟩,_,_,rfl,rfl,(by show (0:Int)<2147483647;decide),?_⟩
    refine ⟨_,rfl,.inl ⟨rfl,_,SqL.of hp1⟩,_,rfl,_,rfl,_,_,rfl,rfl,.inl ⟨by lia,by lia⟩,_,_,rfl,rfl,(by show (0:Int)<2147483629;decide),_,rfl,_,_,rfl,rfl,⟨by decide,by decide⟩,_,_,rfl,rfl,_,_,rfl,rfl,⟨by decide,by decide,by decide⟩,_,_,rfl,rfl,(by show (0:Int)<10^6;decide),p,_,_,rfl,rfl,hp1,hlen,?_⟩
    exact big _ (Int.emod_nonneg _ (by decide)) (Int.lt_of_lt_of_le (Int.emod_lt_of_pos _ (show (0:Int)<10^(6:Int).toNat by decide)) (by decide)) _ _ _ hr0
  ·rintro σ H1 ⟨cell,great,rest,rs,x,y,rfl,hr0,hrs,hd,hs1,hp1⟩
   exact ⟨_,rfl,q p rs H1 hp hs1 hp1 (by rw [hrs];lia) hd⟩
theorem ok_L_net(T:Tx w K mg A):FnOk P w K mg base CX0 1 A.a_L_net A.d_L_net ["_law_row_here", "_law_sizes"] sp_L_netS:=by
 refine T.F_L_net.ok sc_L_net (fun vs H Q E h=>?_) (fun cdv A' outer s H vs Q E hr h=>?_)
 ·obtain ⟨r,z,rw,zs,rfl,hr0,hrl,hrd,hz,hzl,hzd,q⟩:=h
  rfl
 obtain ⟨r,z,rw,zs,rfl,hr0,hrl,hrd,hz,hzl,hzd,q⟩:=h
 refine ⟨_,(z_c (z_q (i:=2) sc_L_net.nd rfl (Or.inl rfl) (z_i y_d (z_p z_o (pv 1) z_b (fun _ _=>rfl)) z_b))
  (z_c (z_q (i:=3) sc_L_net.nd rfl (Or.inl rfl) (pe_lst z_f))
  (z_c (ps_for PassesOwn.never rfl (x_b rfl T.range (z_a (z_i y_d (z_p z_o (pv 1) z_b (fun _ _=>rfl)) z_b) z_f)) (y_j (i:=4) sc_L_net.nd rfl (Or.inl rfl))
    (z_j (ps_expr (pe_bm PySem.F.plainAttrs_list PySem.F.slot_list_append PySem.F.type_list_append x_h (pv 3) (z_a (pe_tup (z_a (z_i y_d (z_p z_o (pv 0) (z_i y_m z_b (pv 4)) (fun _ _=>rfl)) (z_i y_m z_b (z_i y_k (z_i y_k z_b (pv 2)) (pv 4)))) (z_a (z_i y_d (z_p z_o (pv 0) (z_i y_k (z_i y_m z_b (pv 4)) z_b) (fun _ _=>rfl)) (z_i y_m z_b (z_i y_k (z_i y_k z_b (pv 2)) (pv 4)))) z_f))) z_f)))))
  (z_j (y_b (pe_tup (z_a (pv 2) (z_a (pv 3) z_f)))))))),?_⟩
 obtain ⟨z0,hz0,z00,_⟩:=hzd.at (show (0:Int)<=0 by decide) (by lia)
 obtain ⟨z1,hz1,z10,_⟩:=hzd.at (show (0:Int)<=1 by decide) (by lia)
 refine ⟨_,rfl,z,_,_,_,rfl,rfl,SqL.of hz,hz0,_,_,rfl,rfl,(by show (0:Int)<5;decide),?_⟩
 obtain ⟨L,hL,hL4⟩:∃ L:Nat,z0%5=(L:Int)/\L<=4:=⟨(z0%5).toNat,by lia,by lia⟩
 dsimp only [gName]
 rw [hL]
 refine ⟨(by show 0<=sizeLine;decide),fun pg hpg=>?_⟩
 have s1:=z_h hpg (.lst [])
 refine ⟨_,rfl,z,_,_,_,rfl,rfl,SqL.of (s1 _ _ hz),hz1,_,_,rfl,rfl,(by show (0:Int)<11;decide),_,rfl,by lia,by lia,for_range (lo:=0) (fun i σ J=>∃ (x4:Option V) (rs:List Addr) (gs:List (Nat×Nat)),σ=[some (.ref r),some (.ref z),some (.int (L:Int)),some (.ref pg),x4]/\Same H J/\PrsR J pg rs (gI gs)/\gs.length=i/\GtO L gs) ⟨_,[],[],rfl,s1,⟨z_d,.nil⟩,rfl,fun k p hp=>by simp at hp⟩ ?_ ?_⟩
 ·rintro i σ J hi ⟨x4,rs,gs,rfl,sJ,hg,hgl,hG⟩
  have hi11:i<11:=by lia
  obtain ⟨r0,hr00,r00,_⟩:=hrd.at (i:=2*(0+(i:Int))) (by lia) (by lia)
  obtain ⟨r1,hr11,r10,_⟩:=hrd.at (i:=2*(0+(i:Int))+1) (by lia) (by lia)
  have hrJ:=sJ _ _ hr0
  obtain ⟨a0,e0,l0⟩:∃ a:Nat,r0%(2*(1+(L:Int)+(0+(i:Int))))=(a:Int)/\a<2*(1+L+gs.length):=⟨(r0%(2*(1+(L:Int)+(0+(i:Int))))).toNat,by have:=Int.emod_nonneg r0 (show (2*(1+(L:Int)+(0+(i:Int))))≠0 by lia);lia,by have:=Int.emod_lt_of_pos r0 (show 0<2*(1+(L:Int)+(0+(i:Int))) by lia);lia⟩
  obtain ⟨a1,e1,l1⟩:∃ a:Nat,r1%(2*(1+(L:Int)+(0+(i:Int))))=(a:Int)/\a<2*(1+L+gs.length):=⟨(r1%(2*(1+(L:Int)+(0+(i:Int))))).toNat,by have:=Int.emod_nonneg r1 (show (2*(1+(L:Int)+(0+(i:Int))))≠0 by lia);lia,by have:=Int.emod_lt_of_pos r1 (show 0<2*(1+(L:Int)+(0+(i:Int))) by lia);lia⟩
  refine ⟨_,rfl,.inl ⟨rfl,_,SqL.of hg.1⟩,_,rfl,_,rfl,_,_,rfl,rfl,.inl ⟨by decide,by decide⟩,r,_,_,_,rfl,rfl,SqL.of hrJ,hr00,_,rfl,_,_,rfl,rfl,_,rfl,_,_,rfl,rfl,_,_,rfl,rfl,.inl ⟨by decide,by decide⟩,_,_,rfl,rfl,(by show (0:Int)<2*(1+(L:Int)+(0+(i:Int)));lia),_,rfl,_,rfl,_,_,rfl,rfl,.inl ⟨by decide,by decide⟩,_,_,rfl,rfl,r,_,_,_,rfl,rfl,SqL.of hrJ,hr11,_,rfl,_,_,rfl,rfl,_,rfl,_,_,rfl,rfl,_,_,rfl,rfl,.inl ⟨by decide,by decide⟩,_,_,rfl,rfl,(by show (0:Int)<2*(1+(L:Int)+(0+(i:Int)));lia),(by show 2<=sizeLine;decide),fun t ht=>?_⟩
  dsimp only
  rw [e0,e1]
  have t1:=z_h ht (.tup [.int (a0:Int),.int (a1:Int)])
  have hl:=hg.lenS
  refine ⟨pg,_,_,rfl,rfl,t1 _ _ hg.1,y_n (by rw [List.length_map];lia),?_⟩
  exact ⟨_,rs++[t],gs++[(a0,a1)],rfl,sameUpd (sJ.trans t1) hpg _,hg.pushS t1 z_d,by rw [List.length_append,hgl];rfl,hG.snoc l0 l1⟩
 ·rintro σ J ⟨x4,rs,gs,rfl,sJ,hg,hgl,hG⟩
  refine ⟨_,rfl,_,rfl,(by show 2<=sizeLine;decide),fun p hp=>?_⟩
  have t1:=z_h hp (.tup [.int (L:Int),.ref pg])
  exact q p pg rs L gs _ (sJ.trans t1) ⟨z_d,hg.same t1⟩ hL4 (by lia) hG
theorem ok_L_joined(T:Tx w K mg A):FnOk P w K mg base CX0 1 A.a_L_joined A.d_L_joined ["_law_labels", "_law_one", "_law_other"] sp_L_joined:=by
 refine T.F_L_joined.ok sc_L_joined (fun vs H Q E h=>?_) (fun cdv A' outer s H vs Q E hr h=>?_)
 ·obtain ⟨p,Ls,one,other,rfl,hp,hl,h1,h2,h3,h4,qn,qs⟩:=h
  rfl
 obtain ⟨p,Ls,one,other,rfl,hp,hl,h1,h2,h3,h4,qn,qs⟩:=h
 have hu:=hu_of hr
 refine ⟨_,(z_c (ps_if (z_s op_eq (z_p z_o (pv 0) (pv 1) (fun _ _=>rfl)) (z_p z_o (pv 0) (z_i op_xor (pv 2) z_b) (fun _ _=>rfl)) (nomark _)) (z_j (y_b pe_non)) y_f)
  (z_c (z_q (i:=3) sc_L_joined.nd rfl (Or.inr rfl) (pe_disp (pps_cons (z_p z_o (pv 0) (pv 2) (fun _ _=>rfl)) (z_p z_o (pv 0) (pv 1) (fun _ _=>rfl)) (pps_cons (z_p z_o (pv 0) (z_i op_xor (pv 2) z_b) (fun _ _=>rfl)) (z_p z_o (pv 0) (z_i op_xor (pv 1) z_b) (fun _ _=>rfl)) pps_nil)) rfl rfl (by simp) (by decide)))
  (z_j (y_b (pe_comp [3] (fun _ _ h=>h) rfl (pi_list (pv 0)) (fun _ _ _ _=>x_i) (fun _ _ _ _=>(pe_dget2 hu (pv 1) (pv 0) (pv 0) ⟨rfl,rfl,rfl,rfl⟩)) rfl (show ∀ j∈([3]:List Nat),j<4 by decide) (show (["_law_label", "_law_pairs"]:List Str).Nodup by decide +kernel)))))),?_⟩
 have x1:Builtin.bitXor (one:Int) 1=((one^^^1:Nat):Int):=xor_nat one 1
 have x2:Builtin.bitXor (other:Int) 1=((other^^^1:Nat):Int):=xor_nat other 1
 refine ⟨_,rfl,_,rfl,p,_,_,_,rfl,rfl,SqL.of hp,nats_d h1,_,rfl,_,rfl,_,_,rfl,rfl,p,_,_,_,rfl,rfl,SqL.of hp,(by rw [x2];exact nats_d h4),rfl,_,rfl,?_⟩
 by_cases c:Ls.getD one 0=Ls.getD (other^^^1) 0
 ·refine x_d (decide_eq_true (congrArg V.int (by rw [c]))) ?_
  exact qn c
 ·refine y_s (decide_eq_false (by intro e;injection e with e;lia)) ?_
  refine fun pd hpd=>?_
  have t1:=z_h hpd (.dK [])
  have hp1:=t1 _ _ hp
  refine ⟨_,rfl,_,rfl,p,_,_,_,rfl,rfl,SqL.of hp1,nats_d h2,_,rfl,_,rfl,p,_,_,_,rfl,rfl,SqL.of hp1,nats_d h1,_,rfl,_,rfl,_,_,rfl,rfl,p,_,_,_,rfl,rfl,SqL.of hp1,(by rw [x2];exact nats_d h4),_,rfl,_,rfl,_,_,rfl,rfl,p,_,_,_,rfl,rfl,SqL.of hp1,(by rw [x1];exact nats_d h3),z_d,[(.inl ((Ls.getD other 0:Nat):Int),.int (Ls.getD one 0:Nat)),(.inl ((Ls.getD (other^^^1) 0:Nat):Int),.int (Ls.getD (one^^^1) 0:Nat))],rfl,(by show 2<=15;decide),?_⟩
  have hget:=two_get (a:=Ls.getD other 0) (b:=Ls.getD (other^^^1) 0) (va:=.int (Ls.getD one 0:Nat)) (vb:=.int (Ls.getD (one^^^1) 0:Nat))
  generalize mergeK [] [((.inl ((Ls.getD other 0:Nat):Int):Key),V.int (Ls.getD one 0:Nat)),(.inl ((Ls.getD (other^^^1) 0:Nat):Int),.int (Ls.getD (one^^^1) 0:Nat))]=kvs at hget ⊢
  have u2:Same H (upd (upd H pd (.dK [])) pd (.dK kvs)):=sameUpd t1 hpd _
  have fd:=z_d (H:=upd H pd (.dK [])) (a:=pd) (o:=.dK kvs)
  generalize upd (upd H pd (.dK [])) pd (.dK kvs)=H2 at u2 fd ⊢
  have hp2:=u2 _ _ hp
  refine ⟨_,rfl,p,rfl,⟨_,SqL.of hp2⟩,comp_list (xs:=natsV Ls) (fun i ys H'=>H2=H'/\ys=natsV ((Ls.take i).map fun x=>if x=Ls.getD (other^^^1) 0 then Ls.getD (one^^^1) 0 else if x=Ls.getD other 0 then Ls.getD one 0 else x)) ⟨rfl,rfl⟩ ?_ ?_ ?_ ?_⟩
  ·rintro i ys H' _ ⟨rfl,_⟩
   exact SqL.of hp2
  ·rintro i ys H' hi ⟨rfl,rfl⟩
   rw [z_l,List.length_map,List.length_take]
   exact y_n (by lia)
  ·rintro i v ys H' hv ⟨rfl,rfl⟩
   obtain ⟨hi,rfl⟩:=x_c hv
   unfold tYes
   refine iteT ⟨_,rfl,pd,rfl,.inl ⟨kvs,.inl fd⟩,_,rfl,_,rfl,_,DGet.k (k:=.inl ((Ls.getD i 0:Nat):Int)) fd,?_⟩
   refine ⟨rfl,?_⟩
   rw [take_snoc hi,List.map_append,List.map_cons,List.map_nil,natsV_snoc,hget]
   congr 2
   by_cases q1:Ls.getD i 0=Ls.getD (other^^^1) 0
   ·rw [if_pos q1,if_pos q1];rfl
   ·rw [if_neg q1,if_neg q1]
    by_cases q2:Ls.getD i 0=Ls.getD other 0
    ·rw [if_pos q2,if_pos q2];rfl
    ·rw [if_neg q2,if_neg q2];rfl
  ·rintro ys H' ⟨rfl,rfl⟩ q hq
   refine qs c q _ (u2.free hq) (u2.trans (z_h hq _)) ?_
   rw [z_d,z_l,List.take_length]
   rfl
theorem ok_L_bit(T:Tx w K mg A):FnOk P w K mg base CX0 1 A.a_L_bit A.d_L_bit ["_law_labels", "_law_bits", "_law_stand", "_law_end"] sp_L_bitS:=by
 refine T.F_L_bit.ok sc_L_bit (fun vs H Q E h=>?_) (fun cdv A' outer s H vs Q E hr h=>?_)
 ·obtain ⟨pl,pb,ps,rs,Ls,bs,st,e,rfl,hpl,hpb,hps,heL,heB,hst,hbs,q⟩:=h
  rfl
 obtain ⟨pl,pb,ps,rs,Ls,bs,st,e,rfl,hpl,hpb,hps,heL,heB,hst,hbs,q⟩:=h
 refine ⟨_,(z_c (ps_for PassesOwn.never rfl (pi_list (pv 2)) (pg_tup rfl (pgs_cons (y_j (i:=4) sc_L_bit.nd rfl (Or.inl rfl)) (pgs_cons (y_j (i:=5) sc_L_bit.nd rfl (Or.inl rfl)) pgs_nil)))
    (z_c (ps_if (z_s op_eq (z_p z_o (pv 0) (pv 3) (fun _ _=>rfl)) (z_p z_o (pv 0) (pv 4) (fun _ _=>rfl)) (nomark _)) (z_j (y_b (pv 5))) y_f)
  (z_j (ps_if (z_s op_eq (z_p z_o (pv 0) (pv 3) (fun _ _=>rfl)) (z_p z_o (pv 0) (z_i op_xor (pv 4) z_b) (fun _ _=>rfl)) (nomark _)) (z_j (y_b (z_i op_sub z_b (pv 5)))) y_f))))
  (z_c (ps_if (PW.pt (pw_or (z_s op_isN (z_p z_o (pv 1) (z_i y_p (pv 3) z_b) (fun _ _=>rfl)) pe_non (nomark _)) (pw_or1 (z_s op_eq (z_i y_d (pv 3) z_b) z_b (nomark _))))) (z_j (y_b (z_p z_o (pv 1) (z_i y_p (pv 3) z_b) (fun _ _=>rfl)))) y_f)
  (z_j (y_b (z_i op_sub z_b (z_p z_o (pv 1) (z_i y_p (pv 3) z_b) (fun _ _=>rfl))))))),?_⟩
 have hl:=hps.lenS
 have hq:=q H (Same.refl H)
 refine ⟨_,rfl,ps,rfl,⟨_,SqL.of hps.1⟩,for_list (xs:=rs.map V.ref) (fun i σ J=>∃ (x4 x5:Option V),σ=[some (.ref pl),some (.ref pb),some (.ref ps),some (.int (e:Int)),x4,x5]/\H=J/\gst Ls st e=gst Ls (st.drop i) e) ⟨_,_,rfl,rfl,rfl⟩ ?_ ?_ ?_⟩
 ·rintro i σ J _ ⟨_,_,_,rfl,_⟩
  exact SqL.of hps.1
 ·rintro i v σ J hv ⟨x4,x5,rfl,rfl,hd⟩
  have hi:i<st.length:=by
   have:=(List.getElem?_eq_some_iff.mp hv).1
   rw [List.length_map] at this
   lia
  obtain ⟨rr,hrr,hrt⟩:=hps.getS (List.getElem?_eq_getElem hi)
  have hv':v = .ref rr:=by
   rw [List.getElem?_map,hrr] at hv
   exact (Option.some.inj hv).symm
  subst hv'
  obtain ⟨p1,p2,p3⟩:=hst _ (List.getElem_mem hi)
  rw [List.drop_eq_getElem_cons hi,gst_cons] at hd
  generalize st[i]=p at hrt p1 p2 p3 hd
  have x1:Builtin.bitXor (p.1:Int) 1=((p.1^^^1:Nat):Int):=xor_nat p.1 1
  refine ⟨rr,_,rfl,SqT.of hrt,rfl,_,_,rfl,_,_,rfl,rfl,?_⟩
  refine ⟨_,rfl,_,rfl,pl,_,_,_,rfl,rfl,SqL.of hpl,nats_d heL,_,rfl,_,rfl,pl,_,_,_,rfl,rfl,SqL.of hpl,nats_d p1,rfl,_,rfl,?_⟩
  by_cases c:Ls.getD e 0=Ls.getD p.1 0
  ·rw [if_pos c] at hd
   unfold lbit at hq
   rw [hd] at hq
   exact x_d (decide_eq_true (by rw [c])) ⟨_,rfl,hq⟩
  ·rw [if_neg c] at hd
   refine y_s (decide_eq_false (fun h=>by injection h with h;lia)) ?_
   refine ⟨_,rfl,_,rfl,pl,_,_,_,rfl,rfl,SqL.of hpl,nats_d heL,_,rfl,_,rfl,_,_,rfl,rfl,pl,_,_,_,rfl,rfl,SqL.of hpl,(by rw [x1];exact nats_d p2),rfl,_,rfl,?_⟩
   by_cases d:Ls.getD e 0=Ls.getD (p.1^^^1) 0
   ·rw [if_pos d] at hd
    unfold lbit at hq
    rw [hd] at hq
    refine x_d (decide_eq_true (by rw [d])) ⟨_,rfl,_,_,rfl,rfl,?_⟩
    show Q (V.int (1-(p.2:Int))) H
    rw [show 1-(p.2:Int)=((1-p.2:Nat):Int) by lia]
    exact hq
   ·rw [if_neg d] at hd
    exact y_s (decide_eq_false (fun h=>by injection h with h;lia)) ⟨_,_,rfl,rfl,hd⟩
 rintro σ J ⟨x4,x5,rfl,rfl,hd⟩
 rw [List.length_map,hl,List.drop_length] at hd
 have hd':gst Ls st e=none:=hd
 unfold lbit at hq
 rw [hd'] at hq
 have hbat:atI (bs.map oV) ((e:Int)/2)=some (oV (bs.getD (e/2) none)):=by
  rw [show (e:Int)/2=((e/2:Nat):Int) by lia]
  refine atI_nat ?_
  rw [List.getElem?_map,List.getD_eq_getElem?_getD,List.getElem?_eq_getElem heB]
  rfl
 have hmem:∀ w,bs.getD (e/2) none=some w->w<=1:=fun w h=>hbs w (by
  rw [<-h,List.getD_eq_getElem?_getD,List.getElem?_eq_getElem heB]
  exact List.getElem_mem heB)
 refine ⟨_,rfl,_,rfl,_,_,rfl,rfl,⟨by decide,by decide⟩,pb,_,_,_,rfl,rfl,SqL.of hpb,hbat,rfl,_,rfl,?_⟩
 cases hb:bs.getD (e/2) none with
 | none =>
  rw [hb] at hq hbat
  exact x_d (decide_eq_true rfl) (iteT ⟨_,rfl,_,rfl,_,_,rfl,rfl,⟨by decide,by decide⟩,pb,_,_,_,rfl,rfl,SqL.of hpb,hbat,hq⟩)
 | some w =>
  have hw:=hmem w hb
  rw [hb] at hq hbat
  refine y_s (decide_eq_false (fun h=>by cases h)) ?_
  refine ⟨_,rfl,_,_,rfl,rfl,(by show (0:Int)<2;decide),rfl,_,rfl,?_⟩
  by_cases c:e%2=0
  ·have hq':Q (oV (some w)) H:=by
    have:=hq
    simp only [if_pos c] at this
    exact this
   exact x_d (decide_eq_true (by show V.int ((e:Int)%2)=V.int 0;congr 1;lia)) ⟨_,rfl,_,rfl,_,_,rfl,rfl,⟨by decide,by decide⟩,pb,_,_,_,rfl,rfl,SqL.of hpb,hbat,hq'⟩
  ·have hq':Q (oV (some (1-w))) H:=by
    have:=hq
    simp only [if_neg c] at this
    exact this
   refine y_s (decide_eq_false (by show ¬V.int ((e:Int)%2)=V.int 0;intro h;injection h with h;lia)) ?_
   refine ⟨_,rfl,_,rfl,_,_,rfl,rfl,⟨by decide,by decide⟩,pb,_,_,_,rfl,rfl,SqL.of hpb,hbat,_,_,rfl,rfl,?_⟩
   show Q (V.int (1-(w:Int))) H
   rw [show 1-(w:Int)=((1-w:Nat):Int) by lia]
   exact hq'
theorem ok_L_told(T:Tx w K mg A)(G_L_bit:FnOk P w K mg base CX0 1 A.a_L_bit A.d_L_bit ["_law_labels", "_law_bits", "_law_stand", "_law_end"] sp_L_bitS):FnOk P w K mg base CX0 2 A.a_L_told A.d_L_told ["_law_net_here", "_law_labels", "_law_stand", "_law_one", "_law_other"] sp_L_toldS:=by
 refine T.F_L_told.ok sc_L_told (fun vs H Q E h=>?_) (fun cdv A' outer s H vs Q E hr h=>?_)
 ·obtain ⟨net,g,pl,ps,rs,ss,L,n,a,b,gs,st,Ls,L0,R,rfl,hN,hG,hn,h30,hpl,u,hLb,hps,hst,ha,hb,q⟩:=h
  rfl
 obtain ⟨net,g,pl,ps,rs,ss,L,n,a,b,gs,st,Ls,L0,R,rfl,hN,hG,hn,h30,hpl,u,hLb,hps,hst,ha,hb,q⟩:=h
 refine ⟨_,(z_c (ps_comp [] sc_L_told.nd (i:=5) rfl (Or.inl rfl) (fun _ _ h=>h) rfl (x_b rfl T.range (z_a (z_i y_k z_b (z_p z_u (pv 0) z_b (fun _ _=>rfl))) z_f)) (fun _ _ _ _=>x_i) (fun _ _ _ _=>pe_non) rfl (show ∀ j∈([]:List Nat),j<10 by decide) (show (["_law_k"]:List Str).Nodup by decide +kernel) (by with_unfolding_all rfl))
  (z_c (ps_for PassesOwn.never rfl (pi_list (z_p z_u (pv 0) z_b (fun _ _=>rfl))) (pg_tup rfl (pgs_cons (y_j (i:=6) sc_L_told.nd rfl (Or.inl rfl)) (pgs_cons (y_j (i:=7) sc_L_told.nd rfl (Or.inl rfl)) pgs_nil)))
    (z_c (z_q (i:=8) sc_L_told.nd rfl (Or.inl rfl) (y_e G_L_bit (hr.mono (by first | decide | lia)) rfl T.M_L_bit T.F_L_bit.kp T.B_L_bit .nil pass0 (z_a (pv 1) (z_a (pv 5) (z_a (pv 2) (z_a (pv 6) z_f))))))
  (z_c (z_q (i:=9) sc_L_told.nd rfl (Or.inl rfl) (y_e G_L_bit (hr.mono (by first | decide | lia)) rfl T.M_L_bit T.F_L_bit.kp T.B_L_bit .nil pass0 (z_a (pv 1) (z_a (pv 5) (z_a (pv 2) (z_a (pv 7) z_f))))))
  (z_j (ps_if (PW.pt (pw_or (z_s op_isN (pv 8) pe_non (nomark _)) (pw_or1 (z_s op_isN (pv 9) pe_non (nomark _))))) (z_j (ps_expr (pe_bm PySem.F.plainAttrs_list PySem.F.slot_list_append PySem.F.type_list_append x_h (pv 5) (z_a pe_non z_f)))) (z_j (ps_expr (pe_bm PySem.F.plainAttrs_list PySem.F.slot_list_append PySem.F.type_list_append x_h (pv 5) (z_a (z_i y_m (pv 8) (pv 9)) z_f)))))))))
  (z_j (y_b (pe_tup (z_a (y_e G_L_bit (hr.mono (by first | decide | lia)) rfl T.M_L_bit T.F_L_bit.kp T.B_L_bit .nil pass0 (z_a (pv 1) (z_a (pv 5) (z_a (pv 2) (z_a (pv 3) z_f))))) (z_a (y_e G_L_bit (hr.mono (by first | decide | lia)) rfl T.M_L_bit T.F_L_bit.kp T.B_L_bit .nil pass0 (z_a (pv 1) (z_a (pv 5) (z_a (pv 2) (z_a (pv 4) z_f))))) z_f))))))),?_⟩
 have hst2:∀ p∈st,p.2<=1:=fun p hp=>(hst p hp).2
 have hstL:∀ p∈st,p.1<Ls.length/\p.1^^^1<Ls.length/\p.2<=1:=fun p hp=>by
  have h1:=hst p hp
  have h2:=y_z p.1
  have h3:=hLb.1
  exact ⟨by lia,by lia,h1.2⟩
 have hLl:=hLb.1
 have hl:=hN.g.lenS
 have bit:∀ {k e:Nat},k<=gs.length->e<2*n->e/2<1+L+k->lbit Ls (bsK (lval Ls L gs st) L gs k) st e=lval Ls L gs st e:=fun {k e} hk he h=>lbit_is hG hst2 hk h fun ho hq=>stL_cx u hLb hst he ho hq
 refine ⟨_,rfl,net,_,_,_,rfl,rfl,SqT.of hN.p,rfl,_,_,rfl,rfl,_,rfl,by lia,by lia,comp_range (lo:=0) (fun i ys J=>H=J/\ys=List.replicate i V.non) ⟨rfl,rfl⟩ ?_ ?_ ?_⟩
 ·rintro i ys J hi ⟨rfl,rfl⟩
  rw [List.length_replicate]
  exact y_n (by lia)
 ·rintro i ys J hi ⟨rfl,rfl⟩
  unfold tYes
  exact iteT ⟨rfl,by rw [List.replicate_succ']⟩
 rintro ys J ⟨rfl,rfl⟩ pb hpb
 have eb:List.replicate (1+(L:Int)).toNat V.non=(bsK (lval Ls L gs st) L gs 0).map oV:=by
  unfold bsK
  rw [List.take_zero,List.map_nil,List.append_nil,List.map_replicate,show (1+(L:Int)).toNat=1+L by lia]
  rfl
 have s1:=z_h hpb (.lst (List.replicate (1+(L:Int)).toNat V.non))
 have b1:=z_d (H:=H) (a:=pb) (o:=.lst (List.replicate (1+(L:Int)).toNat V.non))
 dsimp only [gName]
 generalize upd H pb (.lst (List.replicate (1+(L:Int)).toNat V.non))=H1 at s1 b1 ⊢
 rw [eb] at b1
 refine ⟨_,rfl,net,_,_,_,rfl,rfl,SqT.of (s1 _ _ hN.p),rfl,g,rfl,⟨_,SqL.of (s1 _ _ hN.g.1)⟩,for_list (xs:=rs.map V.ref) (fun i σ J=>∃ (x6 x7 x8 x9:Option V),σ=[some (.ref net),some (.ref pl),some (.ref ps),some (.int (a:Int)),some (.int (b:Int)),some (.ref pb),x6,x7,x8,x9]/\Same H J/\J pb=some (.lst ((bsK (lval Ls L gs st) L gs i).map oV))) ⟨_,_,_,_,rfl,s1,b1⟩ ?_ ?_ ?_⟩
 ·rintro i σ J _ ⟨_,_,_,_,_,sJ,_⟩
  exact SqL.of (sJ _ _ hN.g.1)
 ·rintro i v σ J hv ⟨x6,x7,x8,x9,rfl,sJ,bJ⟩
  have hi:i<gs.length:=by
   have:=(List.getElem?_eq_some_iff.mp hv).1
   rw [List.length_map] at this
   lia
  have hgi:gs[i]? = some gs[i]:=List.getElem?_eq_getElem hi
  obtain ⟨rr,hrr,hrt⟩:=hN.g.getS hgi
  have hv':v = .ref rr:=by
   rw [List.getElem?_map,hrr] at hv
   exact (Option.some.inj hv).symm
  subst hv'
  obtain ⟨p1,p2⟩:=hG i _ hgi
  have hsn:bsK (lval Ls L gs st) L gs (i+1)=bsK (lval Ls L gs st) L gs i++[bothO (lval Ls L gs st gs[i].1) (lval Ls L gs st gs[i].2)]:=by
   unfold bsK
   rw [take_get hgi,List.map_append,List.append_assoc]
   rfl
  generalize gs[i]=p at hrt p1 p2 hsn
  have hlen:(bsK (lval Ls L gs st) L gs i).length=1+L+i:=bsK_len (by lia)
  refine ⟨rr,_,rfl,SqT.of (sJ _ _ hrt),rfl,_,_,rfl,_,_,rfl,rfl,?_⟩
  refine ⟨_,rfl,_,rfl,_,rfl,_,rfl,pl,pb,ps,ss,Ls,_,st,p.1,rfl,sJ _ _ hpl,bJ,hps.same sJ,by lia,by lia,hstL,fun w hw=>bsK_le hG hst2 hw,fun J2 s2=>?_⟩
  rw [bit (by lia) (by lia) (by lia)]
  have b2:=s2 _ _ bJ
  have sJ2:=sJ.trans s2
  refine ⟨_,rfl,_,rfl,_,rfl,_,rfl,pl,pb,ps,ss,Ls,_,st,p.2,rfl,sJ2 _ _ hpl,b2,hps.same sJ2,by lia,by lia,hstL,fun w hw=>bsK_le hG hst2 hw,fun J3 s3=>?_⟩
  rw [bit (by lia) (by lia) (by lia)]
  have b3:=s3 _ _ b2
  have sJ3:=sJ2.trans s3
  have hz:((bsK (lval Ls L gs st) L gs i).map oV).length<sizeLine:=y_n (by rw [List.length_map,hlen];lia)
  have fin:∀ v:V,v=oV (bothO (lval Ls L gs st p.1) (lval Ls L gs st p.2))->∃ (x6 x7 x8 x9:Option V),[some (.ref net),some (.ref pl),some (.ref ps),some (.int (a:Int)),some (.int (b:Int)),some (.ref pb),some (.int (p.1:Int)),some (.int (p.2:Int)),some (oV (lval Ls L gs st p.1)),some (oV (lval Ls L gs st p.2))]=[some (.ref net),some (.ref pl),some (.ref ps),some (.int (a:Int)),some (.int (b:Int)),some (.ref pb),x6,x7,x8,x9]/\Same H (upd J3 pb (.lst ((bsK (lval Ls L gs st) L gs i).map oV++[v])))/\(upd J3 pb (.lst ((bsK (lval Ls L gs st) L gs i).map oV++[v]))) pb=some (.lst ((bsK (lval Ls L gs st) L gs (i+1)).map oV)):=fun v hv=>by
   subst hv
   exact ⟨_,_,_,_,rfl,sameUpd sJ3 hpb _,by rw [z_d,hsn,List.map_append];rfl⟩
  refine ⟨_,rfl,rfl,_,rfl,?_⟩
  cases hx:lval Ls L gs st p.1 with
  | none =>
   rw [hx] at fin
   refine x_d (decide_eq_true rfl) (iteT ?_)
   exact ⟨_,rfl,.inl ⟨rfl,_,SqL.of b3⟩,pb,_,_,rfl,rfl,b3,hz,fin _ rfl⟩
  | some x =>
   refine y_s (decide_eq_false (fun h=>by cases h)) ?_
   refine ⟨_,rfl,rfl,_,rfl,?_⟩
   rw [hx] at fin
   cases hy:lval Ls L gs st p.2 with
   | none =>
    rw [hy] at fin
    refine x_d (decide_eq_true rfl) ?_
    exact ⟨_,rfl,.inl ⟨rfl,_,SqL.of b3⟩,pb,_,_,rfl,rfl,b3,hz,fin _ rfl⟩
   | some y =>
    rw [hy] at fin
    have hx1:=lval_lt hG hst2 hx
    have hy1:=lval_lt hG hst2 hy
    refine y_s (decide_eq_false (fun h=>by cases h)) ?_
    refine ⟨_,rfl,.inl ⟨rfl,_,SqL.of b3⟩,_,rfl,_,rfl,_,_,rfl,rfl,.inl ⟨by lia,by lia⟩,pb,_,_,rfl,rfl,b3,hz,fin _ ?_⟩
    show V.int ((x:Int)*(y:Int))=V.int ((x&&&y:Nat):Int)
    rw [<-both_mul hx1 hy1,Int.natCast_mul]
 rintro σ J ⟨x6,x7,x8,x9,rfl,sJ,bJ⟩
 rw [List.length_map,hl] at bJ
 have hlen:(bsK (lval Ls L gs st) L gs gs.length).length=1+L+gs.length:=bsK_len (Nat.le_refl _)
 refine ⟨_,rfl,_,rfl,_,rfl,_,rfl,pl,pb,ps,ss,Ls,_,st,a,rfl,sJ _ _ hpl,bJ,hps.same sJ,by lia,by lia,hstL,fun w hw=>bsK_le hG hst2 hw,fun J2 s2=>?_⟩
 rw [bit (Nat.le_refl _) ha (by lia)]
 have b2:=s2 _ _ bJ
 have sJ2:=sJ.trans s2
 refine ⟨_,rfl,_,rfl,_,rfl,_,rfl,pl,pb,ps,ss,Ls,_,st,b,rfl,sJ2 _ _ hpl,b2,hps.same sJ2,by lia,by lia,hstL,fun w hw=>bsK_le hG hst2 hw,fun J3 s3=>?_⟩
 rw [bit (Nat.le_refl _) hb (by lia)]
 exact ⟨(by show 2<=sizeLine;decide),fun t ht=>q t _ (sJ2.trans (s3.trans (z_h ht _))) z_d⟩
theorem ok_L_due(T:Tx w K mg A)(G_L_told:FnOk P w K mg base CX0 2 A.a_L_told A.d_L_told ["_law_net_here", "_law_labels", "_law_stand", "_law_one", "_law_other"] sp_L_toldS):FnOk P w K mg base CX0 3 A.a_L_due A.d_L_due ["_law_net_here", "_law_labels", "_law_step_here"] (sp_L_dueS A.c_Classes):=by
 refine T.F_L_due.ok sc_L_due (fun vs H Q E h=>?_) (fun cdv A' outer s H vs Q E hr h=>?_)
 ·obtain ⟨net,g,o,l,st,lt,pl,rs,L,n,a,b,gs,R,ls,Ls,rfl,hS,hpl,hLb,q⟩:=h
  rfl
 obtain ⟨net,g,o,l,st,lt,pl,rs,L,n,a,b,gs,R,ls,Ls,rfl,hS,hpl,hLb,q⟩:=h
 refine ⟨_,(z_c (z_q (i:=3) sc_L_due.nd rfl (Or.inl rfl) (z_p z_u (pv 2) z_b (fun _ _=>rfl)))
  (z_c (ps_if (z_s op_gt (z_r y_o rfl T.len PySem.boot_len (z_a (pv 3) z_f)) z_b (nomark _)) (z_j (y_b pe_bl)) y_f)
  (z_c (z_q (i:=4) sc_L_due.nd rfl (Or.inl rfl) (pe_lst (z_a (z_p z_o (pv 1) z_b (fun _ _=>rfl)) (z_a (z_p z_o (pv 1) z_b (fun _ _=>rfl)) z_f))))
  (z_c (ps_for PassesOwn.never rfl (pi_tup (pv 3)) (y_j (i:=5) sc_L_due.nd rfl (Or.inl rfl))
    (z_c (ps_if (z_s op_in_seq (z_p z_o (pv 1) (pv 5) (fun _ _=>rfl)) (pv 4) rfl) (z_j (y_b pe_bl)) y_f)
  (z_j (z_q (i:=4) sc_L_due.nd rfl (Or.inl rfl) (z_i op_cat (pv 4) (pe_lst (z_a (z_p z_o (pv 1) (pv 5) (fun _ _=>rfl)) (z_a (z_p z_o (pv 1) (z_i op_xor (pv 5) z_b) (fun _ _=>rfl)) z_f))))))))
  (z_c (ps_for PassesOwn.never rfl (x_b rfl T.range (z_a (z_i op_shr (z_i op_pow z_b z_b) (z_i op_sub z_b (z_r y_o rfl T.len PySem.boot_len (z_a (pv 3) z_f)))) z_f)) (y_j (i:=6) sc_L_due.nd rfl (Or.inl rfl))
    (z_c (z_q (i:=7) sc_L_due.nd rfl (Or.inl rfl) (pe_lst (z_a (pe_tup (z_a z_b (z_a z_b z_f))) z_f)))
  (z_c (ps_for PassesOwn.never rfl (x_b rfl T.range (z_a (z_r y_o rfl T.len PySem.boot_len (z_a (pv 3) z_f)) z_f)) (y_j (i:=8) sc_L_due.nd rfl (Or.inl rfl))
    (z_j (ps_expr (pe_bm PySem.F.plainAttrs_list PySem.F.slot_list_append PySem.F.type_list_append x_h (pv 7) (z_a (pe_tup (z_a (z_p z_u (pv 3) (pv 8) (fun _ _=>rfl)) (z_a (z_i y_d (z_i op_shr (pv 6) (pv 8)) z_b) z_f))) z_f)))))
  (z_c (ps_asg (y_e G_L_told (hr.mono (by first | decide | lia)) rfl T.M_L_told T.F_L_told.kp T.B_L_told .nil pass0 (z_a (pv 0) (z_a (pv 1) (z_a (pv 7) (z_a (z_p z_u (pv 2) z_b (fun _ _=>rfl)) (z_a (z_p z_u (pv 2) z_b (fun _ _=>rfl)) z_f)))))) (pg_tup rfl (pgs_cons (y_j (i:=9) sc_L_due.nd rfl (Or.inl rfl)) (pgs_cons (y_j (i:=10) sc_L_due.nd rfl (Or.inl rfl)) pgs_nil))))
  (z_j (ps_if (PW.pt (pw_or (z_s op_isN (pv 9) pe_non (nomark _)) (pw_or1 (z_s op_ne (pv 9) (pv 10) (nomark _))))) (z_j (y_b pe_bl)) y_f))))))
  (z_j (y_b pe_bl))))))),?_⟩
 obtain ⟨_,L0,_,u,_⟩:=hS.cls
 have hn:=hS.hn
 have h0:0<n:=by lia
 have h30:=hS.n30
 have hLl:=hLb.1
 have l7:=hS.l7
 refine ⟨_,rfl,st,_,_,_,rfl,rfl,SqT.of hS.st,rfl,?_⟩
 refine ⟨_,rfl,_,_,rfl,.inr ⟨_,SqT.of hS.lt,rfl⟩,_,_,rfl,rfl,_,rfl,?_⟩
 rw [z_l]
 by_cases h6:ls.length<=6
 case neg =>
  have:=q H (Same.refl H)
  unfold goodS at this
  rw [decide_eq_false (fun h=>h6 h.1)] at this
  exact x_d (decide_eq_true (by lia)) this
 refine y_s (decide_eq_false (by lia)) ?_
 refine ⟨_,rfl,pl,_,_,_,rfl,rfl,SqL.of hpl,nats_d (k:=0) (by lia),_,rfl,pl,_,_,_,rfl,rfl,SqL.of hpl,nats_d (k:=1) (by lia),(by show 2<=sizeLine;decide),fun p4 hp4=>?_⟩
 have s1:=z_h hp4 (.lst (natsV (snL Ls ls 0)))
 have f1:=z_d (H:=H) (a:=p4) (o:=.lst (natsV (snL Ls ls 0)))
 have ev:[V.int ((Ls.getD 0 0:Nat):Int),V.int ((Ls.getD 1 0:Nat):Int)]=natsV (snL Ls ls 0):=by
  unfold snL
  rw [List.take_zero]
  rfl
 dsimp only [gName]
 rw [ev]
 generalize upd H p4 (.lst (natsV (snL Ls ls 0)))=H1 at s1 f1 ⊢
 refine ⟨_,rfl,lt,rfl,⟨_,SqT.of (s1 _ _ hS.lt)⟩,for_tup (xs:=natsV ls) (fun i σ J=>∃ (p:Addr) (x5:Option V),σ=[some (.ref net),some (.ref pl),some (.ref st),some (.ref lt),some (.ref p),x5,none,none,none,none,none]/\Same H J/\J p=some (.lst (natsV (snL Ls ls i)))/\Dst R (ls.take i)) ⟨_,_,rfl,s1,f1,(fun e he=>nomatch he),.nil⟩ ?_ ?_ ?_⟩
 ·rintro i σ J _ ⟨_,_,_,sJ,_⟩
  exact SqT.of (sJ _ _ hS.lt)
 ·rintro i v σ J hv ⟨p,x5,rfl,sJ,fJ,hd⟩
  obtain ⟨hi,rfl⟩:=x_c hv
  have hsi:ls[i]? = some (ls.getD i 0):=by rw [List.getD_eq_getElem?_getD,List.getElem?_eq_getElem hi];rfl
  generalize ls.getD i 0=x at hsi ⊢
  have hx:=hS.hl _ (List.mem_of_getElem? hsi)
  have hxc:=y_z x
  have x1:Builtin.bitXor (x:Int) 1=((x^^^1:Nat):Int):=xor_nat x 1
  have plJ:=sJ _ _ hpl
  refine ⟨_,rfl,_,rfl,pl,_,_,_,rfl,rfl,SqL.of plJ,nats_d (by lia),_,rfl,p,_,rfl,.inl (SqL.of fJ),rfl,flat_nats _,_,rfl,?_⟩
  have hin:=inV_nats (Ls.getD x 0) (snL Ls ls i)
  by_cases hm:Ls.getD x 0∈snL Ls ls i
  ·refine x_d (by show inV _ _=true;rw [hin,decide_eq_true hm]) ?_
   have:=q J sJ
   unfold goodS at this
   rw [decide_eq_false (fun h=>dst_no u hLb h0 hS.hl hsi hm h.2.1)] at this
   exact this
  ·refine y_s (by show inV _ _=false;rw [hin,decide_eq_false hm]) ?_
   refine ⟨_,rfl,_,rfl,_,rfl,pl,_,_,_,rfl,rfl,SqL.of plJ,nats_d (by lia),_,rfl,_,rfl,_,_,rfl,rfl,pl,_,_,_,rfl,rfl,SqL.of plJ,(by rw [x1];exact nats_d (by lia)),(by show 2<=sizeLine;decide),fun p5 hp5=>?_⟩
   have t1:=z_h hp5 (.lst [.int ((Ls.getD x 0:Nat):Int),.int ((Ls.getD (x^^^1) 0:Nat):Int)])
   have hsl:=snL_len Ls ls i
   refine ⟨p,p5,_,_,rfl,rfl,t1 _ _ fJ,z_d,small (by rw [z_l];show (snL Ls ls i).length+2<=_;lia),fun p6 hp6=>?_⟩
   refine ⟨p6,_,rfl,sJ.trans (t1.trans (z_h hp6 _)),?_,dst_go u hLb h0 hS.hl hsi hm hd⟩
   rw [z_d,snL_snoc hsi]
   unfold natsV
   rw [List.map_append]
   rfl
 rintro σ J ⟨p,x5,rfl,sJ,fJ,hd⟩
 rw [z_l,List.take_length] at hd
 clear fJ
 have p6:=pow6 h6
 have p0:=Nat.two_pow_pos ls.length
 refine ⟨_,_,rfl,rfl,⟨by decide,by decide,by decide⟩,_,rfl,_,_,rfl,.inr ⟨_,SqT.of (sJ _ _ hS.lt),rfl⟩,_,_,rfl,rfl,_,_,rfl,rfl,(by rw [z_l];show (0:Int)<=6-(ls.length:Int);lia),((2^ls.length:Nat):Int),(by rw [z_l];exact congrArg (fun x=>[V.int x]) (shr6 h6)),by lia,by lia,for_range (lo:=0) (fun r σ J=>∃ (x5 x6 x7 x8 x9 x10:Option V),σ=[some (.ref net),some (.ref pl),some (.ref st),some (.ref lt),some (.ref p),x5,x6,x7,x8,x9,x10]/\Same H J/\∀ r',r'<r->lval Ls L gs (stL ls r') a≠none/\lval Ls L gs (stL ls r') a=lval Ls L gs (stL ls r') b) ⟨_,_,_,_,_,_,rfl,sJ,fun r' h=>absurd h (Nat.not_lt_zero _)⟩ ?_ ?_⟩
 all_goals have en:((2^ls.length:Nat):Int).toNat=2^ls.length:=Int.toNat_natCast _
 ·rintro r σ J1 hr ⟨x5,x6,x7,x8,x9,x10,rfl,sJ1,hall⟩
  rw [en] at hr
  refine ⟨(by show 2<=sizeLine;decide),fun t0 ht0=>⟨(by show 1<=sizeLine;decide),fun p7 hp7=>?_⟩⟩
  have t1:=z_h ht0 (.tup [.int 0,.int 0])
  have t2:=t1.trans (z_h hp7 (.lst [.ref t0]))
  have ft0:=(z_h hp7 (.lst [.ref t0])) _ _ (z_d (H:=J1) (a:=t0) (o:=.tup [.int 0,.int 0]))
  have fp7:=z_d (H:=upd J1 t0 (.tup [.int 0,.int 0])) (a:=p7) (o:=.lst [.ref t0])
  have sJ2:=sJ1.trans t2
  have hp7H:H p7=none:=(sJ1.trans t1).free hp7
  dsimp only [gName]
  generalize upd (upd J1 t0 (.tup [.int 0,.int 0])) p7 (.lst [.ref t0])=J2 at t2 ft0 fp7 sJ2 ⊢
  refine ⟨_,rfl,_,_,rfl,.inr ⟨_,SqT.of (sJ2 _ _ hS.lt),rfl⟩,_,rfl,by rw [z_l];lia,by rw [z_l];lia,for_range (lo:=0) (fun k σ J=>∃ (x8:Option V) (ss:List Addr),σ=[some (.ref net),some (.ref pl),some (.ref st),some (.ref lt),some (.ref p),x5,some (.int (0+(r:Int))),some (.ref p7),x8,x9,x10]/\Same H J/\PrsR J p7 ss (gI ((0,0)::(ls.zip (rwB ls.length r)).take k))) ⟨_,[t0],rfl,sJ2,PrsR.oneS (p:=(0,0)) fp7 ft0⟩ ?_ ?_⟩
  ·rintro k σ J3 hk ⟨x8,ss,rfl,sJ3,hg⟩
   rw [z_l] at hk
   have hk':k<ls.length:=by lia
   have hgl:=hg.lenS
   have hsk:ls[k]? = some (ls.getD k 0):=by rw [List.getD_eq_getElem?_getD,List.getElem?_eq_getElem hk'];rfl
   have htk:=take_get (List.getElem?_zip_eq_some.mpr ⟨hsk,rwB_get hk'⟩:(ls.zip (rwB ls.length r))[k]? = some (ls.getD k 0,bt r k))
   have hat:atI (natsV ls) ((0:Int)+(k:Int))=some (.int (ls.getD k 0:Nat)):=by rw [Int.zero_add];exact nats_d hk'
   refine ⟨_,rfl,.inl ⟨rfl,_,SqL.of hg.1⟩,_,rfl,_,rfl,lt,_,_,_,rfl,rfl,SqT.of (sJ3 _ _ hS.lt),hat,_,rfl,_,rfl,_,_,rfl,rfl,(by show (0:Int)<=0+(k:Int);lia),_,_,rfl,rfl,(by show (0:Int)<2;decide),(by show 2<=sizeLine;decide),fun t ht=>?_⟩
   dsimp only
   rw [bt_int]
   have v1:=z_h ht (.tup [.int ((ls.getD k 0:Nat):Int),.int ((bt r k:Nat):Int)])
   refine ⟨p7,_,_,rfl,rfl,v1 _ _ hg.1,y_n (by rw [List.length_map,hgl,List.length_cons,List.length_take];lia),?_⟩
   refine ⟨_,ss++[t],rfl,sameUpd (sJ3.trans v1) hp7H _,?_⟩
   rw [htk]
   exact hg.pushS (p:=(ls.getD k 0,bt r k)) v1 z_d
  rintro σ J3 ⟨x8,ss,rfl,sJ3,hg⟩
  have ez:(0,0)::(ls.zip (rwB ls.length r)).take (((natsV ls).length:Nat):Int).toNat=stL ls r:=by
   unfold stL
   rw [Int.toNat_natCast,z_l,List.take_of_length_le (by rw [List.length_zip,rwB_len];lia)]
  rw [ez] at hg
  refine ⟨_,rfl,_,rfl,_,rfl,_,rfl,st,_,_,_,rfl,rfl,SqT.of (sJ3 _ _ hS.st),rfl,_,rfl,st,_,_,_,rfl,rfl,SqT.of (sJ3 _ _ hS.st),rfl,net,g,pl,p7,rs,ss,L,n,a,b,gs,stL ls r,Ls,L0,R,rfl,hS.net.same sJ3,hS.gt,hn,h30,sJ3 _ _ hpl,u,hLb,hg,stL_ok h0 hS.hl,hS.ha,hS.hb,fun t J4 s4 e4=>?_⟩
  have sJ4:=sJ3.trans s4
  refine ⟨t,_,rfl,SqT.of e4,rfl,_,_,rfl,_,_,rfl,rfl,?_⟩
  refine ⟨_,rfl,rfl,_,rfl,?_⟩
  have hno:=fun h=>good_no (a:=a) (b:=b) u hLb h0 hS.gt hS.hl hS.ha hS.hb hr h
  have hq:=q J4 sJ4
  cases hx:lval Ls L gs (stL ls r) a with
  | none =>
   rw [hno (.inl hx)] at hq
   exact x_d (decide_eq_true rfl) (iteT hq)
  | some x =>
   refine y_s (decide_eq_false (fun h=>by cases h)) ?_
   cases hy:lval Ls L gs (stL ls r) b with
   | none =>
    rw [hno (.inr (by rw [hx,hy];nofun))] at hq
    exact ⟨_,rfl,_,rfl,rfl,_,rfl,x_d rfl hq⟩
   | some y =>
    refine ⟨_,rfl,_,rfl,rfl,_,rfl,?_⟩
    by_cases c:x=y
    ·subst c
     refine y_s (by rw [decide_eq_true rfl];rfl) ?_
     refine ⟨_,_,_,_,_,_,rfl,sJ4,fun r' hr'=>?_⟩
     by_cases d:r'=r
     ·subst d
      rw [hx,hy]
      exact ⟨nofun,rfl⟩
     ·exact hall r' (by lia)
    ·rw [hno (.inr (by rw [hx,hy];intro h;exact c (Option.some.inj h)))] at hq
     exact x_d (by rw [decide_eq_false (fun h=>c (by injection h with h;lia))];rfl) hq
 rintro σ J1 ⟨x5,x6,x7,x8,x9,x10,rfl,sJ1,hall⟩
 rw [en] at hall
 have hq:=q J1 sJ1
 rw [good_yes u hLb h0 hS.gt hS.hl hS.ha hS.hb h6 hd hall] at hq
 exact hq
theorem ok_L_step(T:Tx w K mg A):FnOk P w K mg base CX0 1 A.a_L_step A.d_L_step ["_law_net_here", "_law_row_here"] sp_L_stepS:=by
 refine T.F_L_step.ok sc_L_step (fun vs H Q E h=>?_) (fun cdv A' outer s H vs Q E hr h=>?_)
 ·obtain ⟨net,g,r,rs,L,n,gs,rw,rfl,hN,hn,hL4,h11,hG,hr0,hrl,hrd,q⟩:=h
  rfl
 obtain ⟨net,g,r,rs,L,n,gs,rw,rfl,hN,hn,hL4,h11,hG,hr0,hrl,hrd,q⟩:=h
 have hu64:=hr.units
 refine ⟨_,(z_c (z_q (i:=2) sc_L_step.nd rfl (Or.inr rfl) (z_i y_m z_b (z_i y_k (z_i y_k z_b (z_p z_u (pv 0) z_b (fun _ _=>rfl))) (z_r y_o rfl T.len PySem.boot_len (z_a (z_p z_u (pv 0) z_b (fun _ _=>rfl)) z_f)))))
  (z_c (z_q (i:=3) sc_L_step.nd rfl (Or.inl rfl) (z_i y_d (z_p z_o (pv 1) z_b (fun _ _=>rfl)) (pv 2)))
  (z_c (z_q (i:=4) sc_L_step.nd rfl (Or.inl rfl) (z_i y_d (z_p z_o (pv 1) z_b (fun _ _=>rfl)) (pv 2)))
  (z_c (ps_comp [1,2] sc_L_step.nd (i:=5) rfl (Or.inl rfl) (fun _ _ h=>h) rfl (x_b rfl T.range (z_a (z_i y_d (z_p z_o (pv 1) z_b (fun _ _=>rfl)) z_b) z_f)) (fun _ _ _ _=>x_i) (fun _ _ _ _=>(z_i y_d (z_p (ix_listK (K:=K) rfl) (pv 1) (z_i y_k z_b (pv 0)) (fun _ _=>rfl)) (pv 2))) rfl (show ∀ j∈([1,2]:List Nat),j<7 by decide) (show (["_law_k", "_law_row_here", "_law_ends"]:List Str).Nodup by decide +kernel) (by with_unfolding_all rfl))
  (z_c (ps_if (z_s op_eq (z_i y_d (z_p z_o (pv 1) z_b (fun _ _=>rfl)) z_b) z_b (nomark _)) (z_c (ps_comp [1,2] sc_L_step.nd (i:=5) rfl (Or.inl rfl) (fun _ _ h=>h) rfl (x_b rfl T.range (z_a z_b z_f)) (fun _ _ _ _=>x_i) (fun _ _ _ _=>(z_i y_k (z_i y_d (z_p (ix_listK (K:=K) rfl) (pv 1) (z_i y_k z_b (z_i y_d (pv 0) z_b)) (fun _ _=>rfl)) (pv 2)) (pv 0))) rfl (show ∀ j∈([1,2]:List Nat),j<7 by decide) (show (["_law_k", "_law_row_here", "_law_ends"]:List Str).Nodup by decide +kernel) (by with_unfolding_all rfl))
  (z_j (ps_comp [2] sc_L_step.nd (i:=5) rfl (Or.inl rfl) (fun _ _ h=>h) rfl (pi_list (pv 5)) (fun _ _ _ _=>x_i) (fun _ _ _ _=>(z_i y_d (pv 0) (pv 1))) rfl (show ∀ j∈([2]:List Nat),j<7 by decide) (show (["_law_leaf", "_law_ends"]:List Str).Nodup by decide +kernel) (by with_unfolding_all rfl)))) y_f)
  (z_c (ps_if (PW.pt (pw_and (z_s op_eq (z_i y_d (z_p z_o (pv 1) z_b (fun _ _=>rfl)) z_b) z_b (nomark _)) (pw_and1 (z_s (op_neD hu64) (z_p z_u (pv 0) z_b (fun _ _=>rfl)) (pe_lst z_f) (nomark _))))) (z_c (z_q (i:=6) sc_L_step.nd rfl (Or.inl rfl) (z_i y_d (z_i y_p (z_p z_o (pv 1) z_b (fun _ _=>rfl)) z_b) (z_r y_o rfl T.len PySem.boot_len (z_a (z_p z_u (pv 0) z_b (fun _ _=>rfl)) z_f))))
  (z_c (z_q (i:=3) sc_L_step.nd rfl (Or.inl rfl) (z_i y_k (z_i y_m z_b (z_i y_k (z_i y_k z_b (z_p z_u (pv 0) z_b (fun _ _=>rfl))) (pv 6))) (z_i y_d (z_p z_o (pv 1) z_b (fun _ _=>rfl)) z_b)))
  (z_c (ps_comp [] sc_L_step.nd (i:=5) rfl (Or.inl rfl) (fun _ _ h=>h) rfl (pi_range2 rfl T.range (z_a z_b (z_a (z_i y_k z_b (z_p z_u (pv 0) z_b (fun _ _=>rfl))) z_f))) (fun _ _ _ _=>x_i) (fun _ _ _ _=>(z_i y_m z_b (pv 0))) rfl (show ∀ j∈([]:List Nat),j<7 by decide) (show (["_law_k"]:List Str).Nodup by decide +kernel) (by with_unfolding_all rfl))
  (z_j (ps_if (z_s op_eq (z_i y_d (z_i y_p (z_p z_o (pv 1) z_b (fun _ _=>rfl)) z_b) z_b) z_b (nomark _)) (z_j (z_q (i:=5) sc_L_step.nd rfl (Or.inl rfl) (pe_callTy call_list_of rfl T.list PyProof.Rows.boot_list (z_a (z_p z_o (z_p z_u (pv 0) z_b (fun _ _=>rfl)) (pv 6) (fun _ _=>rfl)) z_f)))) y_f))))) y_f)
  (z_j (y_b (pe_tup (z_a pe_str (z_a (pv 3) (z_a (pv 4) (z_a (pe_callTy call_tuple_of rfl T.tuple PyProof.Rows.boot_tuple (z_a (pv 5) z_f)) z_f))))))))))))),?_⟩
 have hl:=hN.g.lenS
 obtain ⟨r0,e0,r00,_⟩:=hrd.at (show (0:Int)<=0 by decide) (by lia)
 obtain ⟨r1,e1,r10,_⟩:=hrd.at (show (0:Int)<=1 by decide) (by lia)
 obtain ⟨r2,e2,r20,_⟩:=hrd.at (show (0:Int)<=2 by decide) (by lia)
 obtain ⟨r3,e3,r30,_⟩:=hrd.at (show (0:Int)<=3 by decide) (by lia)
 have en:2*(1+(L:Int)+(((rs.map V.ref).length:Nat):Int))=((2*n:Nat):Int):=by rw [List.length_map];lia
 have pos:(0:Int)<((2*n:Nat):Int):=by lia
 refine ⟨_,rfl,net,_,_,_,rfl,rfl,SqT.of hN.p,rfl,_,_,rfl,rfl,_,rfl,net,_,_,_,rfl,rfl,SqT.of hN.p,rfl,_,_,rfl,.inl ⟨_,SqL.of hN.g.1,rfl⟩,_,_,rfl,rfl,_,_,rfl,rfl,.inl ⟨by decide,by decide⟩,?_⟩
 dsimp only [gName]
 rw [en]
 obtain ⟨a,ea,la⟩:=modN r0 (m:=2*n) (by lia)
 refine ⟨_,rfl,r,_,_,_,rfl,rfl,SqL.of hr0,e0,_,rfl,_,_,rfl,rfl,pos,?_⟩
 dsimp only [gName]
 rw [ea]
 obtain ⟨b,eb,lb⟩:=modN r1 (m:=2*n) (by lia)
 refine ⟨_,rfl,r,_,_,_,rfl,rfl,SqL.of hr0,e1,_,rfl,_,_,rfl,rfl,pos,?_⟩
 dsimp only [gName]
 rw [eb]
 refine seq_mid (fun σ J=>∃ (p5:Addr) (ls:List Nat),σ=[some (.ref net),some (.ref r),some (.int ((2*n:Nat):Int)),some (.int (a:Int)),some (.int (b:Int)),some (.ref p5),none]/\Same H J/\J p5=some (.lst (natsV ls))/\ls.length<=7/\∀ e∈ls,e<2*n) (fun R hR=>?_) ?_
 ·refine ⟨_,rfl,r,_,_,_,rfl,rfl,SqL.of hr0,e2,_,_,rfl,rfl,(by show (0:Int)<7;decide),_,rfl,by lia,by lia,comp_range (lo:=0) (fun i ys J=>H=J/\∃ ls:List Nat,ys=natsV ls/\ls.length=i/\∀ e∈ls,e<2*n) ⟨rfl,[],rfl,rfl,(fun _ h=>nomatch h)⟩ ?_ ?_ ?_⟩
  ·rintro i ys J hi ⟨_,ls,rfl,h,_⟩
   rw [z_l]
   exact y_n (by lia)
  ·rintro i ys J hi ⟨rfl,hys⟩
   obtain ⟨v,ev,_,_⟩:=hrd.at (i:=4+(0+(i:Int))) (by lia) (by lia)
   obtain ⟨c,ec,lc⟩:=modN v (m:=2*n) (by lia)
   unfold tYes
   refine iteT ⟨_,rfl,_,rfl,_,_,rfl,rfl,r,_,_,_,rfl,rfl,SqL.of hr0,ev,_,rfl,_,_,rfl,rfl,pos,rfl,?_⟩
   dsimp only
   rw [ec]
   exact nats_push hys lc
  ·rintro ys J ⟨rfl,ls,rfl,h,hb⟩ p5 hp5
   exact hR _ _ ⟨p5,ls,rfl,z_h hp5 _,z_d,by lia,hb⟩
 rintro σ J ⟨p5,ls,rfl,sJ,f5,h7,hls⟩
 refine seq_mid (fun σ J=>∃ (p5:Addr) (ls:List Nat),σ=[some (.ref net),some (.ref r),some (.int ((2*n:Nat):Int)),some (.int (a:Int)),some (.int (b:Int)),some (.ref p5),none]/\Same H J/\J p5=some (.lst (natsV ls))/\ls.length<=7/\∀ e∈ls,e<2*n) (fun R hR=>?_) ?_
 ·refine ⟨_,rfl,r,_,_,_,rfl,rfl,SqL.of (sJ _ _ hr0),e3,_,_,rfl,rfl,(by show (0:Int)<9;decide),rfl,_,rfl,?_⟩
  refine ite2 (fun _=>?_) (fun _=>hR _ _ ⟨p5,ls,rfl,sJ,f5,h7,hls⟩)
  have rJ:=sJ _ _ hr0
  refine ⟨_,rfl,by decide,by decide,comp_range (lo:=0) (fun i ys J'=>J=J'/\∃ zs:List Int,ys=zs.map V.int/\zs.length=i) ⟨rfl,[],rfl,rfl⟩ ?_ ?_ ?_⟩
  ·rintro i ys J' hi ⟨_,zs,rfl,h⟩
   have hi7:i<7:=hi
   rw [List.length_map]
   exact y_n (by lia)
  ·rintro i ys J' hi ⟨rfl,zs,rfl,h⟩
   have hi7:i<7:=hi
   obtain ⟨v,ev,_,_⟩:=hrd.at (i:=4+(0+(i:Int))%4) (by lia) (by lia)
   unfold tYes
   refine iteT ⟨_,rfl,_,rfl,_,_,rfl,rfl,(by show (0:Int)<4;decide),_,_,rfl,rfl,r,_,_,_,rfl,rfl,SqL.of rJ,ev,_,rfl,_,_,rfl,rfl,pos,_,rfl,_,_,rfl,rfl,rfl,zs++[v%((2*n:Nat):Int)+(0+(i:Int))],by rw [List.map_append];rfl,by rw [List.length_append,h];rfl⟩
  rintro ys J' ⟨rfl,zs,rfl,h⟩ p6 hp6
  have t1:=z_h hp6 (.lst (zs.map V.int))
  have f6:=z_d (H:=J) (a:=p6) (o:=.lst (zs.map V.int))
  dsimp only [gName]
  generalize upd J p6 (.lst (zs.map V.int))=J1 at t1 f6 ⊢
  have hz7:zs.length=7:=h
  refine ⟨_,rfl,p6,rfl,⟨_,SqL.of f6⟩,comp_list (xs:=zs.map V.int) (fun i ys J'=>J1=J'/\∃ ls:List Nat,ys=natsV ls/\ls.length=i/\∀ e∈ls,e<2*n) ⟨rfl,[],rfl,rfl,(fun _ h=>nomatch h)⟩ ?_ ?_ ?_ ?_⟩
  ·rintro i ys J' _ ⟨rfl,_⟩
   exact SqL.of f6
  ·rintro i ys J' hi ⟨_,ls,rfl,h,_⟩
   rw [List.length_map] at hi
   rw [z_l]
   exact y_n (by lia)
  ·rintro i v ys J' hv ⟨rfl,hys⟩
   rw [List.getElem?_map] at hv
   obtain ⟨z,hz,rfl⟩:=Option.map_eq_some_iff.mp hv
   obtain ⟨c,ec,lc⟩:=modN z (m:=2*n) (by lia)
   unfold tYes
   refine iteT ⟨_,rfl,_,rfl,_,_,rfl,rfl,pos,rfl,?_⟩
   dsimp only
   rw [ec]
   exact nats_push hys lc
  ·rintro ys J' ⟨rfl,ls,rfl,h,hb⟩ p7 hp7
   rw [List.length_map] at h
   exact hR _ _ ⟨p7,ls,rfl,sJ.trans (t1.trans (z_h hp7 _)),z_d,by lia,hb⟩
 clear f5 h7 hls sJ
 rintro σ J ⟨p5,ls,rfl,sJ,f5,h7,hls⟩
 refine seq_mid (fun σ J=>∃ (p5:Addr) (ls:List Nat) (a:Nat) (x6:Option V),σ=[some (.ref net),some (.ref r),some (.int ((2*n:Nat):Int)),some (.int (a:Int)),some (.int (b:Int)),some (.ref p5),x6]/\a<2*n/\Same H J/\J p5=some (.lst (natsV ls))/\ls.length<=7/\∀ e∈ls,e<2*n) (fun R hR=>?_) ?_
 ·refine ⟨_,rfl,r,_,_,_,rfl,rfl,SqL.of (sJ _ _ hr0),e3,_,_,rfl,rfl,(by show (0:Int)<2;decide),rfl,_,rfl,?_⟩
  refine ite2 (fun _=>?_) (fun _=>iteF (hR _ _ ⟨p5,ls,a,none,rfl,la,sJ,f5,h7,hls⟩))
  refine ⟨_,rfl,net,_,_,_,rfl,rfl,SqT.of (sJ _ _ hN.p),rfl,(by show 0<=sizeLine;decide),fun e he=>?_⟩
  have t1:=z_h he (.lst [])
  have N1:=hN.same (sJ.trans t1)
  refine net_nil N1 z_d ⟨_,rfl,?_⟩
  have sJ1:=sJ.trans t1
  have f51:=t1 _ _ f5
  generalize upd J e (.lst [])=J1 at t1 N1 sJ1 f51 ⊢
  by_cases hg:gs=[]
  ·exact y_s (by rw [decide_eq_true hg];rfl) (hR _ _ ⟨p5,ls,a,none,rfl,la,sJ1,f51,h7,hls⟩)
  refine x_d (by rw [decide_eq_false hg];rfl) ?_
  have hg0:0<gs.length:=List.length_pos_iff.mpr hg
  have rJ:=sJ1 _ _ hr0
  obtain ⟨k,ek,hk⟩:=modN (r3/9) (m:=(rs.map V.ref).length) (by rw [List.length_map];lia)
  rw [List.length_map,hl] at hk
  obtain ⟨rr,hrr,hrt⟩:=N1.g.getS (List.getElem?_eq_getElem hk)
  have hgk:=hG k _ (List.getElem?_eq_getElem hk)
  generalize gs[k]=pr at hrt hgk
  refine ⟨_,rfl,r,_,_,_,rfl,rfl,SqL.of rJ,e3,_,_,rfl,rfl,⟨by decide,by decide⟩,_,rfl,net,_,_,_,rfl,rfl,SqT.of N1.p,rfl,_,_,rfl,.inl ⟨_,SqL.of N1.g.1,rfl⟩,_,_,rfl,rfl,(by rw [List.length_map,hl];lia),?_⟩
  dsimp only [gName]
  rw [ek]
  obtain ⟨c,ec,lc⟩:=modN r0 (m:=2) (by decide)
  refine ⟨_,rfl,net,_,_,_,rfl,rfl,SqT.of N1.p,rfl,_,_,rfl,rfl,_,rfl,_,_,rfl,rfl,_,_,rfl,rfl,.inl ⟨by decide,by decide⟩,_,rfl,r,_,_,_,rfl,rfl,SqL.of rJ,e0,_,_,rfl,rfl,(by show (0:Int)<2;decide),_,_,rfl,rfl,?_⟩
  have ea2:2*(1+(L:Int)+(k:Int))+r0%2=((2*(1+L+k)+c:Nat):Int):=by
   have:r0%2=(c:Int):=ec
   lia
  dsimp only [gName]
  rw [ea2]
  refine seq_mid (fun σ J=>∃ (p5:Addr) (ls:List Nat),σ=[some (.ref net),some (.ref r),some (.int ((2*n:Nat):Int)),some (.int ((2*(1+L+k)+c:Nat):Int)),some (.int (b:Int)),some (.ref p5),some (.int (k:Int))]/\Same H J/\J p5=some (.lst (natsV ls))/\ls.length<=7/\∀ e∈ls,e<2*n) (fun R' hR'=>?_) ?_
  ·refine ⟨_,rfl,net,_,_,_,rfl,rfl,SqT.of N1.p,rfl,_,_,rfl,rfl,_,_,rfl,⟨by decide,by decide,by lia,by lia⟩,comp_range (lo:=1) (fun i ys J'=>J1=J'/\∃ ls:List Nat,ys=natsV ls/\ls.length=i/\∀ e∈ls,e<2*n) ⟨rfl,[],rfl,rfl,(fun _ h=>nomatch h)⟩ ?_ ?_ ?_⟩
   ·rintro i ys J' hi ⟨_,ls,rfl,h,_⟩
    rw [z_l]
    exact y_n (by lia)
   ·rintro i ys J' hi ⟨rfl,hys⟩
    unfold tYes
    refine iteT ⟨_,rfl,_,_,rfl,rfl,.inl ⟨by decide,by decide⟩,rfl,?_⟩
    dsimp only
    rw [show 2*(1+(i:Int))=((2*(1+i):Nat):Int) by lia]
    exact nats_push hys (by lia)
   ·rintro ys J' ⟨rfl,ls,rfl,h,hb⟩ p7 hp7
    exact hR' _ _ ⟨p7,ls,rfl,sJ1.trans (z_h hp7 _),z_d,by lia,hb⟩
  rintro σ J2 ⟨p7,ls2,rfl,sJ2,f7,h72,hls2⟩
  have N2:=hN.same sJ2
  refine ⟨_,rfl,r,_,_,_,rfl,rfl,SqL.of (sJ2 _ _ hr0),e3,_,_,rfl,rfl,⟨by decide,by decide⟩,_,_,rfl,rfl,(by show (0:Int)<2;decide),rfl,_,rfl,?_⟩
  obtain ⟨rr2,hrr2,hrt2⟩:=N2.g.getS (List.getElem?_eq_getElem hk)
  have hgk2:=hG k _ (List.getElem?_eq_getElem hk)
  generalize gs[k]=pr2 at hrt2 hgk2
  refine ite2 (fun _=>?_) (fun _=>hR _ _ ⟨p7,ls2,_,_,rfl,by lia,sJ2,f7,h72,hls2⟩)
  refine ⟨_,rfl,net,_,_,_,rfl,rfl,SqT.of N2.p,rfl,_,rfl,g,_,_,_,rfl,rfl,SqL.of N2.g.1,at_ref hrr2,rr2,_,rfl,.inr (SqT.of hrt2),fun p8 hp8=>?_⟩
  refine hR _ _ ⟨p8,[pr2.1,pr2.2],_,_,rfl,by lia,sJ2.trans (z_h hp8 _),z_d,by show 2<=7;decide,fun e he=>?_⟩
  have he':e=pr2.1\/e=pr2.2:=by simpa using he
  rcases he' with rfl | rfl
  ·have:=hgk2.1;lia
  ·have:=hgk2.2;lia
 rintro σ J2 ⟨p8,ls2,a2,x6,rfl,la2,sJ2,f8,h72,hls2⟩
 refine ⟨_,rfl,_,rfl,_,rfl,p8,_,rfl,.inl ⟨SqL.of f8,fun lt hlt=>⟨(by show 4<=sizeLine;decide),fun st hst=>?_⟩⟩⟩
 have t1:=z_h hlt (.tup (natsV ls2))
 have t2:=z_h hst (.tup [.str "stands",.int (a2:Int),.int (b:Int),.ref lt])
 exact q st lt a2 b ls2 _ (sJ2.trans (t1.trans t2)) z_d (t2 _ _ z_d) la2 lb hls2 h72
theorem ok_L_twin(T:Tx w K mg A):FnOk P w K mg base CX0 1 A.a_L_twin A.d_L_twin ["_law_net_here", "_law_row_here"] sp_L_twinS:=by
 refine T.F_L_twin.ok sc_L_twin (fun vs H Q E h=>?_) (fun cdv A' outer s H vs Q E hr h=>?_)
 ·obtain ⟨net,g,r,rs,L,gs,zs,rfl,hN,h10,hG,hr0,hzl,hzd,q⟩:=h
  rfl
 obtain ⟨net,g,r,rs,L,gs,zs,rfl,hN,h10,hG,hr0,hzl,hzd,q⟩:=h
 have hu64:=hr.units
 refine ⟨_,(z_c (ps_if (z_s (op_eqD hu64) (z_p z_u (pv 0) z_b (fun _ _=>rfl)) (pe_lst z_f) (nomark _)) (z_j (y_b (pv 0))) y_f)
  (z_c (ps_asg (z_p z_o (z_p z_u (pv 0) z_b (fun _ _=>rfl)) (z_i y_d (z_p z_o (pv 1) z_b (fun _ _=>rfl)) (z_r y_o rfl T.len PySem.boot_len (z_a (z_p z_u (pv 0) z_b (fun _ _=>rfl)) z_f))) (fun _ _=>rfl)) (pg_tup rfl (pgs_cons (y_j (i:=2) sc_L_twin.nd rfl (Or.inl rfl)) (pgs_cons (y_j (i:=3) sc_L_twin.nd rfl (Or.inl rfl)) pgs_nil))))
  (z_j (y_b (pe_tup (z_a (z_p z_u (pv 0) z_b (fun _ _=>rfl)) (z_a (z_i op_cat (z_p z_u (pv 0) z_b (fun _ _=>rfl)) (pe_lst (z_a (pe_tup (z_a (pv 3) (z_a (pv 2) z_f))) z_f))) z_f))))))),?_⟩
 refine ⟨_,rfl,net,_,_,_,rfl,rfl,SqT.of hN.p,rfl,(by show 0<=sizeLine;decide),fun e he=>?_⟩
 have s1:=z_h he (.lst [])
 refine net_nil (hN.same s1) z_d ⟨_,rfl,?_⟩
 have N1:=hN.same s1
 have r1:=s1 _ _ hr0
 generalize upd H e (.lst [])=H1 at s1 N1 r1 ⊢
 by_cases hg:gs=[]
 ·refine x_d (by rw [decide_eq_true hg];rfl) ?_
  exact ⟨_,rfl,q net g rs gs H1 s1 N1 (by lia) hG (.inl hg)⟩
 ·refine y_s (by rw [decide_eq_false hg];rfl) ?_
  obtain ⟨z0,hz0,z00,_⟩:=hzd.at (show (0:Int)<=0 by decide) (by lia)
  have hl:=N1.g.lenS
  have hg0:0<gs.length:=List.length_pos_iff.mpr hg
  obtain ⟨k,ek,hk⟩:∃ k:Nat,z0%(((rs.map V.ref).length:Nat):Int)=(k:Int)/\k<gs.length:=by
   rw [List.length_map,hl]
   exact ⟨(z0%(gs.length:Int)).toNat,by have:=Int.emod_nonneg z0 (show (gs.length:Int)≠0 by lia);lia,by have:=Int.emod_lt_of_pos z0 (show 0<(gs.length:Int) by lia);lia⟩
  obtain ⟨rr,hrr,hrt⟩:=N1.g.getS (List.getElem?_eq_getElem hk)
  have hgk:=hG k _ (List.getElem?_eq_getElem hk)
  generalize gs[k]=pr at hrt hgk
  obtain ⟨pa,pb⟩:=pr
  refine ⟨_,rfl,net,_,_,_,rfl,rfl,SqT.of N1.p,rfl,_,rfl,r,_,_,_,rfl,rfl,SqL.of r1,hz0,_,rfl,net,_,_,_,rfl,rfl,SqT.of N1.p,rfl,_,_,rfl,.inl ⟨_,SqL.of N1.g.1,rfl⟩,_,_,rfl,rfl,(by rw [List.length_map,hl];lia),g,_,_,_,rfl,rfl,SqL.of N1.g.1,(by rw [ek];exact at_ref hrr),rr,_,rfl,SqT.of hrt,rfl,_,_,rfl,_,_,rfl,rfl,?_⟩
  refine ⟨_,rfl,net,_,_,_,rfl,rfl,SqT.of N1.p,rfl,_,rfl,net,_,_,_,rfl,rfl,SqT.of N1.p,rfl,_,rfl,_,rfl,(by show 2<=sizeLine;decide),fun t ht=>⟨(by show 1<=sizeLine;decide),fun l1 hl1=>?_⟩⟩
  have t1:=z_h ht (.tup [.int (pb:Int),.int (pa:Int)])
  have t2:=t1.trans (z_h hl1 (.lst [.ref t]))
  refine ⟨g,l1,_,_,rfl,rfl,t2 _ _ N1.g.1,z_d,small (by rw [List.length_map];show rs.length+1<=_;lia),fun g' hg'=>⟨(by show 2<=sizeLine;decide),fun p hp=>?_⟩⟩
  have t3:=z_h hg' (.lst (rs.map V.ref++[.ref t]))
  have t4:=z_h hp (.tup [.int (L:Int),.ref g'])
  have ht2:=(z_h hl1 (.lst [.ref t])) _ _ (z_d (H:=H1) (a:=t) (o:=.tup [.int (pb:Int),.int (pa:Int)]))
  refine q p g' (rs++[t]) (gs++[(pb,pa)]) _ (s1.trans (t2.trans (t3.trans t4))) ⟨z_d,t4 _ _ (by rw [z_d,List.map_append];rfl),?_⟩ (by rw [List.length_append];show gs.length+1<=11;lia) (hG.snoc (by have:=hgk.2;lia) (by have:=hgk.1;lia)) (.inr (by rw [List.length_append];show 2<=gs.length+1;lia))
  rw [gI_snoc]
  refine pairedSnoc ?_ (pairedMono (fun _ _ x=>t4 _ _ (t3 _ _ (t2 _ _ x))) N1.g.2)
  exact t4 _ _ (t3 _ _ ht2)
theorem ok_law(T:Tx w K mg A)(G_L_row:FnOk P w K mg base CX0 1 A.a_L_row A.d_L_row ["_law_script", "_law_at", "_law_many"] (sp_L_row K))(G_L_twin:FnOk P w K mg base CX0 1 A.a_L_twin A.d_L_twin ["_law_net_here", "_law_row_here"] sp_L_twinS)(G_Classes_init:FnOk P w K mg base CX0 1 A.a_Classes_init A.d_Classes_init ["self", "knots"] (sp_C_init A.c_Classes))(G_L_net:FnOk P w K mg base CX0 1 A.a_L_net A.d_L_net ["_law_row_here", "_law_sizes"] sp_L_netS)(G_Classes_join:FnOk P w K mg base CX0 2 A.a_Classes_join A.d_Classes_join ["self", "one", "other"] (sp_C_join A.c_Classes))(G_L_step:FnOk P w K mg base CX0 1 A.a_L_step A.d_L_step ["_law_net_here", "_law_row_here"] sp_L_stepS)(G_is_good:FnOk P w K mg base CX0 5 A.a_is_good A.d_is_good ["net", "classes", "step"] (sp_goodS A.c_Classes A.tp_bits_of_both z_v z_t))(G_L_joined:FnOk P w K mg base CX0 1 A.a_L_joined A.d_L_joined ["_law_labels", "_law_one", "_law_other"] sp_L_joined)(G_Classes_least:FnOk P w K mg base CX0 1 A.a_Classes_least A.d_Classes_least ["self", "end"] (sp_C_least A.c_Classes))(G_L_due:FnOk P w K mg base CX0 3 A.a_L_due A.d_L_due ["_law_net_here", "_law_labels", "_law_step_here"] (sp_L_dueS A.c_Classes)):FnOk P w K mg base CX0 6 A.a_law A.d_law ["_law_script"] (sp_law K A.tp_bits_of_both z_v z_t A.tp_sets_of_both y_q y_r):=by
 refine T.F_law.ok sc_law (fun vs H Q E h=>?_) (fun cdv A' outer s H vs Q E hr h=>?_)
 ·obtain ⟨a,ns,rfl,hS,h63,hP,hP2,q⟩:=h
  rfl
 obtain ⟨a,ns,rfl,hS,h63,hP,hP2,q⟩:=h
 have hu64:=hr.units
 refine ⟨_,(z_c (z_q (i:=1) sc_law.nd rfl (Or.inl rfl) (y_e G_L_row (hr.mono (by first | decide | lia)) rfl T.M_L_row T.F_L_row.kp T.B_L_row .nil pass0 (z_a (pv 0) (z_a z_b (z_a z_b z_f)))))
  (z_c (z_q (i:=2) sc_law.nd rfl (Or.inl rfl) (y_e G_L_twin (hr.mono (by first | decide | lia)) rfl T.M_L_twin T.F_L_twin.kp T.B_L_twin .nil pass0 (z_a (y_e G_L_net (hr.mono (by first | decide | lia)) rfl T.M_L_net T.F_L_net.kp T.B_L_net .nil pass0 (z_a (y_e G_L_row (hr.mono (by first | decide | lia)) rfl T.M_L_row T.F_L_row.kp T.B_L_row .nil pass0 (z_a (pv 0) (z_a z_b (z_a z_b z_f)))) (z_a (pv 1) z_f))) (z_a (pe_slice sl_list (pv 1) (po_some z_b) po_none) z_f))))
  (z_c (z_q (i:=3) sc_law.nd rfl (Or.inl rfl) (z_i y_k (z_i y_k z_b (z_p z_u (pv 2) z_b (fun _ _=>rfl))) (z_r y_o rfl T.len PySem.boot_len (z_a (z_p z_u (pv 2) z_b (fun _ _=>rfl)) z_f))))
  (z_c (z_q (i:=4) sc_law.nd rfl (Or.inr rfl) (pe_make T.mk_Classes G_Classes_init (hr.mono (by first | decide | lia)) rfl T.M_Classes T.B_Classes_init .nil pass0 (z_a (pv 3) z_f)))
  (z_c (z_q (i:=5) sc_law.nd rfl (Or.inr rfl) (pe_callTy (call_list_rng rfl) rfl T.list PyProof.Rows.boot_list (z_a (pe_callTy call_rangeO rfl T.range PyProof.Rows.boot_range (z_a (z_i y_m z_b (pv 3)) z_f)) z_f)))
  (z_c (z_q (i:=6) sc_law.nd rfl (Or.inl rfl) (y_e G_L_row (hr.mono (by first | decide | lia)) rfl T.M_L_row T.F_L_row.kp T.B_L_row .nil pass0 (z_a (pv 0) (z_a z_b (z_a z_b z_f)))))
  (z_c (ps_for PassesOwn.never rfl (x_b rfl T.range (z_a (z_i y_d (z_p z_o (pv 1) z_b (fun _ _=>rfl)) z_b) z_f)) (y_j (i:=7) sc_law.nd rfl (Or.inl rfl))
    (z_c (z_q (i:=8) sc_law.nd rfl (Or.inl rfl) (z_i y_d (z_p z_o (pv 6) (z_i y_m z_b (pv 7)) (fun _ _=>rfl)) (z_i y_m z_b (pv 3))))
  (z_c (z_q (i:=9) sc_law.nd rfl (Or.inl rfl) (z_i y_d (z_p z_o (pv 6) (z_i y_k (z_i y_m z_b (pv 7)) z_b) (fun _ _=>rfl)) (z_i y_m z_b (pv 3))))
  (z_j (ps_if (pt_truth (pe_meth (pv 4) T.cl_Classes T.me_Classes_join G_Classes_join (hr.mono (by first | decide | lia)) T.B_Classes_join .nil pass0 (z_a (pv 8) (z_a (pv 9) z_f))) (fun _=>rfl)) (z_j (z_q (i:=5) sc_law.nd rfl (Or.inr rfl) (y_e G_L_joined (hr.mono (by first | decide | lia)) rfl T.M_L_joined T.F_L_joined.kp T.B_L_joined .nil pass0 (z_a (pv 5) (z_a (pv 8) (z_a (pv 9) z_f)))))) y_f)))))
  (z_c (z_q (i:=10) sc_law.nd rfl (Or.inl rfl) (pe_callTy call_list_of rfl T.list PyProof.Rows.boot_list (z_a (z_p z_u (pv 2) z_b (fun _ _=>rfl)) z_f)))
  (z_c (ps_for PassesOwn.never rfl (pi_range2 rfl T.range (z_a z_b (z_a (z_r (call_max2 rfl) rfl T.max PyProof.Rows.boot_max (z_a z_b (z_a (z_r (call_min2 rfl) rfl T.min PyProof.Rows.boot_min (z_a (z_r y_o rfl T.len PySem.boot_len (z_a (pv 0) z_f)) (z_a z_b z_f))) z_f))) z_f))) (y_j (i:=7) sc_law.nd rfl (Or.inl rfl))
    (z_c (z_q (i:=11) sc_law.nd rfl (Or.inl rfl) (y_e G_L_step (hr.mono (by first | decide | lia)) rfl T.M_L_step T.F_L_step.kp T.B_L_step .nil pass0 (z_a (pv 2) (z_a (y_e G_L_row (hr.mono (by first | decide | lia)) rfl T.M_L_row T.F_L_row.kp T.B_L_row .nil pass0 (z_a (pv 0) (z_a (pv 7) (z_a z_b z_f)))) z_f))))
  (z_c (ps_if (PW.pt (pw_and (z_s op_eq (z_i y_d (z_p z_o (pv 1) z_b (fun _ _=>rfl)) z_b) z_b (nomark _)) (pw_and (z_s op_eq (z_i y_d (pv 7) z_b) z_b (nomark _)) (pw_and1 (z_s (op_neD hu64) (z_p z_u (pv 2) z_b (fun _ _=>rfl)) (pe_lst z_f) (nomark _)))))) (z_c (z_q (i:=12) sc_law.nd rfl (Or.inl rfl) (z_i y_k (z_i y_k z_b (z_p z_u (pv 2) z_b (fun _ _=>rfl))) (z_i y_d (z_p z_o (pv 1) z_b (fun _ _=>rfl)) (z_i op_sub (z_r y_o rfl T.len PySem.boot_len (z_a (z_p z_u (pv 2) z_b (fun _ _=>rfl)) z_f)) z_b))))
  (z_j (z_q (i:=11) sc_law.nd rfl (Or.inl rfl) (pe_tup (z_a pe_str (z_a (z_i y_m z_b (pv 12)) (z_a (z_i op_sub (z_i y_m z_b (pv 3)) z_b) (z_a (z_p z_o (z_p z_u (pv 2) z_b (fun _ _=>rfl)) (z_i op_sub (z_i op_sub (pv 12) z_b) (z_p z_u (pv 2) z_b (fun _ _=>rfl))) (fun _ _=>rfl)) z_f)))))))) y_f)
  (z_c (z_q (i:=13) sc_law.nd rfl (Or.inl rfl) (y_e G_is_good (hr.mono (by first | decide | lia)) rfl T.M_is_good T.F_is_good.kp T.B_is_good .nil pass0 (z_a (pv 2) (z_a (pv 4) (z_a (pv 11) z_f)))))
  (z_j (ps_if (PW.pt (pw_or (pt_not (pt_truth (z_r (call_isinst (T := "bool")) rfl T.isinstance PyProof.Rows.boot_isinstance (z_a (pv 13) (z_a (pe_bltn (v:=.ty "bool") rfl T.bool PyProof.Rows.boot_bool rfl) z_f))) (fun _=>rfl))) (pw_or1 (z_s op_ne (pv 13) (y_e G_L_due (hr.mono (by first | decide | lia)) rfl T.M_L_due T.F_L_due.kp T.B_L_due .nil pass0 (z_a (pv 2) (z_a (pv 5) (z_a (pv 11) z_f)))) (nomark _))))) (z_j (y_b pe_bl)) y_f))))))
  (z_c (ps_if (z_s (op_neD hu64) (z_p z_u (pv 2) z_b (fun _ _=>rfl)) (pv 10) (nomark _)) (z_j (y_b pe_bl)) y_f)
  (z_j (y_b (pe_cmpR (op_eqD hu64) (pe_comp [4] (fun _ _ h=>h) rfl (x_b rfl T.range (z_a (z_i y_m z_b (pv 3)) z_f)) (fun _ _ _ _=>x_i) (fun _ _ _ _=>(pe_meth (pv 1) T.cl_Classes T.me_Classes_least G_Classes_least (hr.mono (by first | decide | lia)) T.B_Classes_least .nil pass0 (z_a (pv 0) z_f))) rfl (show ∀ j∈([4]:List Nat),j<14 by decide) (show (["_law_end", "_law_some"]:List Str).Nodup by decide +kernel)) (pe_comp [5] (fun _ _ h=>h) rfl (pi_list (pv 5)) (fun _ _ _ _=>x_i) (fun _ _ _ _=>(pe_bmK (K:=K) rfl PySem.F.plainAttrs_list PySem.F.slot_list_index PySem.F.type_list_index mt_index (pv 1) (z_a (pv 0) z_f))) rfl (show ∀ j∈([5]:List Nat),j<14 by decide) (show (["_law_label", "_law_labels"]:List Str).Nodup by decide +kernel)) (nomark _)))))))))))))),?_⟩
 have hl:(ns.map V.int).length=ns.length:=List.length_map _
 refine ⟨_,rfl,a,ns,_,_,rfl,hS,h63,by decide,by decide,by decide,fun z zs H1 hz s1 fz hzl hzd=>?_⟩
 obtain ⟨z2,ez2,z20,_⟩:=hzd.at (show (0:Int)<=2 by decide) (by lia)
 obtain ⟨z3,ez3,z30,_⟩:=hzd.at (show (0:Int)<=3 by decide) (by lia)
 refine ⟨_,rfl,a,ns,_,_,rfl,s1.seq hS,h63,by decide,by decide,by decide,fun r1 rw1 H2 hr1 s2 fr1 hrl1 hrd1=>⟨_,rfl,r1,z,rw1,zs,rfl,fr1,by lia,hrd1,s2 _ _ fz,by lia,hzd,fun n0 g0 rs0 L gs0 H3 s3 hN0 hL4 h10 hG0=>?_⟩⟩
 have ec:cutV (zs.map V.int) (some 2) none=(zs.drop 2).map V.int:=by
  unfold cutV
  have e1:HT.sIx (zs.map V.int).length 0 (some 2)=2:=by
   rw [List.length_map,show zs.length=6 by lia]
   rfl
  have e2:HT.sIx (zs.map V.int).length (zs.map V.int).length none=6:=by
   rw [List.length_map,show zs.length=6 by lia]
   rfl
  rw [e1,e2,<-List.map_drop,List.take_of_length_le (by rw [List.length_map,List.length_drop];lia)]
 refine ⟨_,rfl,_,rfl,z,_,rfl,(s2.trans s3).seq (SqL.of fz),fun pz hpz=>?_⟩
 rw [ec]
 have t4:=z_h hpz (.lst ((zs.drop 2).map V.int))
 refine ⟨n0,g0,pz,rs0,L,gs0,zs.drop 2,rfl,hN0.same t4,h10,hG0,z_d,by rw [List.length_drop];lia,fun x hx=>hzd x (List.mem_of_mem_drop hx),fun net g rs gs H5 s5 hN h11 hG hor=>?_⟩
 have s05:=s1.trans (s2.trans (s3.trans (t4.trans s5)))
 have fz5:=(s2.trans (s3.trans (t4.trans s5))) _ _ fz
 have hP5:=s05 _ _ hP
 have hS5:=s05.seq hS
 clear s1 s2 s3 t4 s5 fz hz hr1 fr1 hpz hN0 hG0 ec
 obtain ⟨n,hn⟩:∃ n,n=1+L+gs.length:=⟨_,rfl⟩
 have hlg:=hN.g.lenS
 have en:1+(L:Int)+(((rs.map V.ref).length:Nat):Int)=(n:Int):=by rw [List.length_map];lia
 refine ⟨_,rfl,net,_,_,_,rfl,rfl,SqT.of hN.p,rfl,_,_,rfl,rfl,_,rfl,net,_,_,_,rfl,rfl,SqT.of hN.p,rfl,_,_,rfl,.inl ⟨_,SqL.of hN.g.1,rfl⟩,_,_,rfl,rfl,?_⟩
 dsimp only [gName]
 rw [en]
 refine ⟨_,rfl,fun o dx ho hdx _=>⟨o,dx,n,rfl,z_d,by lia,fun l H6 hl0 ch0 hC0=>⟨rfl,?_⟩⟩⟩
 have s6:=made_same ho hdx ch0
 have fl0:=made_free hl0
 clear ch0 hl0 ho hdx
 have eN:((List.range (2*(n:Int)).toNat).map fun i=>V.int (i:Nat))=natsV (List.range (2*n)):=by
  rw [show (2*(n:Int)).toNat=2*n by lia]
  rfl
 refine ⟨_,rfl,_,_,rfl,rfl,.inl ⟨by decide,by decide⟩,_,rfl,fun pa hpa=>?_⟩
 refine ⟨pa,_,rfl,z_d,by lia,by lia,fun p0 hp0=>?_⟩
 rw [eN]
 have t7:=(z_h hpa (.rng 0 (2*(n:Int)))).trans (z_h hp0 (.lst (natsV (List.range (2*n)))))
 have f0:=z_d (H:=upd H6 pa (.rng 0 (2*(n:Int)))) (a:=p0) (o:=.lst (natsV (List.range (2*n))))
 have np0:H6 p0=none:=(z_h hpa (.rng 0 (2*(n:Int)))).free hp0
 dsimp only [gName]
 generalize upd (upd H6 pa (.rng 0 (2*(n:Int)))) p0 (.lst (natsV (List.range (2*n))))=H7 at t7 f0 ⊢
 obtain ⟨_,LL0,hLL0,_,_⟩:=id hC0
 have np0l:p0≠l:=(z_g hLL0 np0).symm
 have s7:=s6.trans t7
 refine ⟨_,rfl,a,ns,_,_,rfl,s7.seq hS5,h63,by decide,by decide,by decide,fun r rws H8 hr s8 fr hrl hrd=>?_⟩
 have nrl:r≠l:=(z_g (t7 _ _ hLL0) hr).symm
 have s58:=s7.trans s8
 have hC8:=(hC0.same t7).same s8
 have f08:=s8 _ _ f0
 have hN8:=hN.same s58
 clear t7 f0 np0 hLL0 s8 hr s7 s6 hpa hp0 hC0
 dsimp only [gName]
 refine seq_mid (fun σ J=>∃ (pl:Addr) (Ls:List Nat) (R:Nat->Nat) (x7 x8 x9:Option V),σ=[some (.ref a),some (.ref z),some (.ref net),some (.int (n:Int)),some (.ref o),some (.ref pl),some (.ref r),x7,x8,x9,none,none,none,none]/\Ch l H8 J/\ClsAt A.c_Classes J o l n R/\J pl=some (.lst (natsV Ls))/\pl≠l/\Lb n Ls R) (fun D hD=>?_) ?_
 ·refine ⟨_,rfl,z,_,_,_,rfl,rfl,SqL.of (s58 _ _ fz5),ez3,_,_,rfl,rfl,(by show (0:Int)<7;decide),_,rfl,by lia,by lia,for_range (lo:=0) (fun i σ J=>∃ (pl:Addr) (Ls:List Nat) (R:Nat->Nat) (x7 x8 x9:Option V),σ=[some (.ref a),some (.ref z),some (.ref net),some (.int (n:Int)),some (.ref o),some (.ref pl),some (.ref r),x7,x8,x9,none,none,none,none]/\Ch l H8 J/\ClsAt A.c_Classes J o l n R/\J pl=some (.lst (natsV Ls))/\pl≠l/\Lb n Ls R) ⟨p0,_,id,_,_,_,rfl,Ch.refl,hC8,f08,np0l,Lb.start n⟩ ?_ (fun σ J h=>hD σ J h)⟩
  rintro i σ J hi ⟨pl,Ls,R,x7,x8,x9,rfl,cJ,CJ,fpl,npl,hLb⟩
  obtain ⟨v1,hv1,_,_⟩:=hrd.at (show (0:Int)<=2*(0+(i:Int)) by lia) (by lia)
  obtain ⟨v2,hv2,_,_⟩:=hrd.at (show (0:Int)<=2*(0+(i:Int))+1 by lia) (by lia)
  have md:∀ v:Int,∃ e:Nat,v%(2*(n:Int))=(e:Int)/\e<2*n:=fun v=>by
   obtain ⟨e,h1,h2⟩:=modN v (m:=2*n) (by lia)
   exact ⟨e,by rw [<-h1];rfl,h2⟩
  obtain ⟨e1,he1,l1⟩:=md v1
  obtain ⟨e2,he2,l2⟩:=md v2
  have frJ:=cJ _ _ nrl fr
  refine ⟨_,rfl,_,rfl,_,_,rfl,rfl,.inl ⟨by decide,by decide⟩,r,_,_,_,rfl,rfl,SqL.of frJ,hv1,_,rfl,_,_,rfl,rfl,.inl ⟨by decide,by decide⟩,_,_,rfl,rfl,(by show (0:Int)<2*(n:Int);lia),?_⟩
  dsimp only [gName]
  rw [he1]
  refine ⟨_,rfl,_,rfl,_,_,rfl,rfl,.inl ⟨by decide,by decide⟩,_,_,rfl,rfl,r,_,_,_,rfl,rfl,SqL.of frJ,hv2,_,rfl,_,_,rfl,rfl,.inl ⟨by decide,by decide⟩,_,_,rfl,rfl,(by show (0:Int)<2*(n:Int);lia),?_⟩
  dsimp only [gName]
  rw [he2]
  obtain ⟨dx1,ho1⟩:=CJ.1
  obtain ⟨_,LL,_,u,_⟩:=id CJ
  have d1:=y_z e1
  have d2:=y_z e2
  have hLl:=hLb.1
  have hno:=Lb.none u hLb l1 l2
  have hjl:=Lb.jl u hLb l1 l2
  refine ⟨_,rfl,o,dx1,_,rfl,ho1,lk_no (by decide),_,rfl,_,rfl,o,l,n,R,e1,e2,rfl,CJ,by lia,by lia,?_⟩
  have go:∀ (J2:Hp) (R':Nat->Nat),Ch l J J2->ClsAt A.c_Classes J2 o l n R'->R e1≠R e2^^^1->Lb n (jl Ls e1 e2) R'->∀ D':Ends,(∀ σ J,(∃ (pl:Addr) (Ls:List Nat) (R:Nat->Nat) (x7 x8 x9:Option V),σ=[some (.ref a),some (.ref z),some (.ref net),some (.int (n:Int)),some (.ref o),some (.ref pl),some (.ref r),x7,x8,x9,none,none,none,none]/\Ch l H8 J/\ClsAt A.c_Classes J o l n R/\J pl=some (.lst (natsV Ls))/\pl≠l/\Lb n Ls R)->D'.nx σ J)->(tAsg (tCall sp_L_joined [] E0 (tCons (tVar 5) (tCons (tVar 8) (tCons (tVar 9) tNil)))) (gName 5)) D' [some (.ref a),some (.ref z),some (.ref net),some (.int (n:Int)),some (.ref o),some (.ref pl),some (.ref r),some (.int (0+(i:Int))),some (.int (e1:Int)),some (.int (e2:Int)),none,none,none,none] J2:=fun J2 R' ch2 C2 hne hLb' D' hD'=>by
   have fpl2:=ch2 _ _ npl fpl
   refine ⟨_,rfl,_,rfl,_,rfl,pl,Ls,e1,e2,rfl,fpl2,by lia,by lia,by lia,by lia,by lia,fun hc=>absurd (hno.mp hc) hne,fun hc w J3 hw s3 fw=>?_⟩
   obtain ⟨⟨L2,hL2⟩,_⟩:=C2.lst
   exact hD' _ _ ⟨w,_,R',_,_,_,rfl,(cJ.trans ch2).trans s3.ch,C2.same s3,fw,(z_g hL2 hw).symm,hLb'⟩
  by_cases c1:R e1=R e2
  ·have hne:R e1≠R e2^^^1:=fun h=>cx_ne (R e2) (h.symm.trans c1)
   exact .inl ⟨c1,fun J2 ch2 C2=>⟨_,rfl,iteT (go J2 R ch2 C2 hne ((hjl hne).1 c1) _ fun σ J h=>h)⟩⟩
  ·by_cases c2:R e1=R e2^^^1
   ·exact .inr (.inl ⟨c2,fun J2 ch2 C2=>⟨_,rfl,iteF ⟨pl,Ls,R,_,_,_,rfl,cJ.trans ch2,C2,ch2 _ _ npl fpl,npl,hLb⟩⟩⟩)
   ·exact .inr (.inr ⟨c1,c2,fun J2 ch2 C2=>⟨_,rfl,iteT (go J2 _ ch2 C2 c2 ((hjl c2).2 c1) _ fun σ J h=>h)⟩⟩)
 rintro σ J ⟨pl,Ls,R,x7,x8,x9,rfl,cJ,CJ,fpl,npl,hLb⟩
 obtain ⟨⟨LL8,hLL8⟩,_⟩:=hC8.lst
 have lH5:∀ {b:Addr} {x:HO},H5 b=some x->b≠l:=fun e=>z_g e fl0
 have sJ:Same H5 J:=Ch.same fl0 s58 cJ
 have hNJ:=hN.same sJ
 refine ⟨_,rfl,net,_,_,_,rfl,rfl,SqT.of hNJ.p,rfl,g,_,rfl,.inl (SqL.of hNJ.g.1),fun pk hpk=>?_⟩
 have t9:=z_h hpk (.lst (rs.map V.ref))
 have fpk:=z_d (H:=J) (a:=pk) (o:=.lst (rs.map V.ref))
 have sH9:=sJ.trans t9
 have hN9:=hNJ.same t9
 have hC9:=CJ.same t9
 have fpl9:=t9 _ _ fpl
 obtain ⟨⟨LLJ,hLLJ⟩,_⟩:=CJ.lst
 have npk:pk≠l:=(z_g hLLJ hpk).symm
 dsimp only [gName]
 generalize upd J pk (.lst (rs.map V.ref))=H9 at t9 fpk sH9 hN9 hC9 fpl9 ⊢
 clear t9 hNJ sJ hpk hLLJ LLJ cJ CJ fpl hLL8 LL8 hC8 f08 hN8 fr hrd hrl nrl
 have hg9l:g≠l:=lH5 hN.g.1
 have s59:=sH9
 have z59:=s59 _ _ fz5
 have nzl:=lH5 fz5
 have tpl:=lH5 hP5
 have hP9:=s59 _ _ hP5
 obtain ⟨⟨LL9,hLL9⟩,_⟩:=hC9.lst
 refine ⟨_,rfl,_,_,rfl,.inl ⟨_,s59.seq hS5,rfl⟩,_,_,rfl,_,_,rfl,_,_,rfl,⟨by decide,by decide,?_,?_⟩,for_range (lo:=3) (fun k σ J=>∃ (x7 x11 x12 x13:Option V),σ=[some (.ref a),some (.ref z),some (.ref net),some (.int (n:Int)),some (.ref o),some (.ref pl),some (.ref r),x7,x8,x9,some (.ref pk),x11,x12,x13]/\Ch l H9 J/\ClsAt A.c_Classes J o l n R) ⟨_,_,_,_,rfl,Ch.refl,hC9⟩ ?_ ?_⟩
 ·rw [hl];split<;>split<;>lia
 ·rw [hl];split<;>split<;>lia
 ·rintro k σ J hk ⟨x7,x11,x12,x13,rfl,cJ,CJ⟩
  have sJ:Same H5 J:=Ch.same fl0 s59 cJ
  refine ⟨_,rfl,_,rfl,_,rfl,a,ns,_,_,rfl,sJ.seq hS5,h63,by lia,by decide,by decide,fun rr rws J1 hrr s1 frr hrl hrd=>⟨net,g,rr,rs,L,n,gs,rws,rfl,hN.same (sJ.trans s1),hn,hL4,h11,hG,frr,by lia,hrd,fun st lt a1 b1 ls J2 s2 fst flt la lb hls h7=>?_⟩⟩
  have c2:=cJ.trans (s1.trans s2).ch
  have C2:=(CJ.same s1).same s2
  have S2:StpA A.c_Classes J2 net g o l st lt rs L n a1 b1 gs R ls:=⟨hN9.chl c2 hg9l hLL9,hG,hn,by lia,C2,fst,flt,la,lb,hls,h7,hg9l⟩
  clear s1 s2 frr hrr hrd hrl fst flt la lb hls h7 cJ CJ sJ
  dsimp only [gName]
  refine seq_mid (fun σ J=>∃ (st lt:Addr) (a1 b1:Nat) (ls:List Nat) (x12 x13:Option V),σ=[some (.ref a),some (.ref z),some (.ref net),some (.int (n:Int)),some (.ref o),some (.ref pl),some (.ref r),some (.int (3+(k:Int))),x8,x9,some (.ref pk),some (.ref st),x12,x13]/\Ch l H9 J/\StpA A.c_Classes J net g o l st lt rs L n a1 b1 gs R ls) (fun D hD=>?_) ?_
  ·have z2J:=c2 _ _ nzl z59
   refine ⟨_,rfl,z,_,_,_,rfl,rfl,SqL.of z2J,ez2,_,_,rfl,rfl,(by show (0:Int)<2;decide),rfl,_,rfl,?_⟩
   refine ite2 (fun _=>?_) (fun _=>iteF (hD _ _ ⟨st,lt,a1,b1,ls,_,_,rfl,c2,S2⟩))
   refine ⟨_,rfl,_,_,rfl,rfl,(by show (0:Int)<3;decide),rfl,_,rfl,?_⟩
   refine ite2 (fun _=>?_) (fun _=>iteF (hD _ _ ⟨st,lt,a1,b1,ls,_,_,rfl,c2,S2⟩))
   refine ⟨_,rfl,net,_,_,_,rfl,rfl,SqT.of S2.net.p,rfl,(by show 0<=sizeLine;decide),fun e he=>?_⟩
   have t3:=z_h he (.lst [])
   have N3:=S2.net.same t3
   refine net_nil N3 z_d ⟨_,rfl,?_⟩
   have c3:=c2.trans t3.ch
   have C3:=C2.same t3
   have S3:StpA A.c_Classes (upd J2 e (.lst [])) net g o l st lt rs L n a1 b1 gs R ls:=⟨N3,hG,hn,by lia,C3,t3 _ _ S2.st,t3 _ _ S2.lt,S2.ha,S2.hb,S2.hl,S2.l7,hg9l⟩
   generalize upd J2 e (.lst [])=J3 at t3 N3 c3 C3 S3 ⊢
   by_cases hg:gs=[]
   ·exact y_s (by rw [decide_eq_true hg];rfl) (hD _ _ ⟨st,lt,a1,b1,ls,_,_,rfl,c3,S3⟩)
   refine x_d (by rw [decide_eq_false hg];rfl) ?_
   have hg2:2<=gs.length:=hor.resolve_left hg
   obtain ⟨k2,ek2,hk2⟩:=modN z2 (m:=gs.length-1) (by lia)
   have ek3:z2%((((rs.map V.ref).length:Nat):Int)-1)=(k2:Int):=by
    rw [List.length_map,hlg,show (gs.length:Int)-1=((gs.length-1:Nat):Int) by lia]
    exact ek2
   refine ⟨_,rfl,net,_,_,_,rfl,rfl,SqT.of N3.p,rfl,_,_,rfl,rfl,_,rfl,z,_,_,_,rfl,rfl,SqL.of (t3 _ _ z2J),ez2,_,rfl,net,_,_,_,rfl,rfl,SqT.of N3.p,rfl,_,_,rfl,.inl ⟨_,SqL.of N3.g.1,rfl⟩,_,_,rfl,rfl,_,_,rfl,rfl,(by rw [List.length_map,hlg];show (0:Int)<(gs.length:Int)-1;lia),_,_,rfl,rfl,?_⟩
   dsimp only [gName]
   rw [ek3]
   have hk2':k2<gs.length:=by lia
   obtain ⟨r2,hr2,hrt⟩:=N3.g.getS (List.getElem?_eq_getElem hk2')
   have hgk:=hG k2 _ (List.getElem?_eq_getElem hk2')
   generalize gs[k2]=pr at hrt hgk
   refine ⟨_,rfl,_,_,rfl,rfl,.inl ⟨by decide,by decide⟩,_,rfl,_,_,rfl,rfl,.inl ⟨by decide,by decide⟩,_,_,rfl,rfl,_,rfl,net,_,_,_,rfl,rfl,SqT.of N3.p,rfl,_,rfl,_,_,rfl,rfl,_,rfl,net,_,_,_,rfl,rfl,SqT.of N3.p,rfl,_,_,rfl,rfl,g,_,_,_,rfl,rfl,SqL.of N3.g.1,(by rw [show 1+(L:Int)+(k2:Int)-1-(L:Int)=(k2:Int) by lia];exact at_ref hr2),(by show 4<=sizeLine;decide),fun s4 hs4=>?_⟩
   have ea:2*(1+(L:Int)+(k2:Int))=((2*(1+L+k2):Nat):Int):=by lia
   have eb:2*(n:Int)-2=((2*n-2:Nat):Int):=by lia
   dsimp only [gName]
   rw [ea,eb]
   have t4:=z_h hs4 (.tup [.str "stands",.int ((2*(1+L+k2):Nat):Int),.int ((2*n-2:Nat):Int),.ref r2])
   refine hD _ _ ⟨s4,r2,2*(1+L+k2),2*n-2,[pr.1,pr.2],_,_,rfl,c3.trans t4.ch,⟨N3.same t4,hG,hn,by lia,C3.same t4,z_d,t4 _ _ hrt,by lia,by lia,fun e he=>?_,by show 2<=7;decide,hg9l⟩⟩
   have he':e=pr.1\/e=pr.2:=by simpa using he
   rcases he' with rfl | rfl
   ·have:=hgk.1;lia
   ·have:=hgk.2;lia
  clear S2 C2 c2
  rintro σ J3 ⟨st,lt,a1,b1,ls,x12,x13,rfl,c3,S3⟩
  refine ⟨_,rfl,_,rfl,_,rfl,net,g,o,l,st,lt,rs,L,n,a1,b1,gs,R,ls,rfl,S3,c3 _ _ tpl hP9,fun J4 c4 C4=>?_⟩
  obtain ⟨⟨LL3,hLL3⟩,_⟩:=S3.cls.lst
  have c34:=c3.trans c4
  have S4:StpA A.c_Classes J4 net g o l st lt rs L n a1 b1 gs R ls:=⟨S3.net.chl c4 hg9l hLL3,hG,hn,by lia,C4,c4 _ _ (tup_nel S3.st hLL3) S3.st,c4 _ _ (tup_nel S3.lt hLL3) S3.lt,S3.ha,S3.hb,S3.hl,S3.l7,hg9l⟩
  refine ⟨_,rfl,_,_,true,rfl,TyOf.bl _,rfl,_,rfl,y_s (by decide) ?_⟩
  refine ⟨_,rfl,_,rfl,_,rfl,_,rfl,net,g,o,l,st,lt,pl,rs,L,n,a1,b1,gs,R,ls,Ls,rfl,S4,c34 _ _ npl fpl9,hLb,fun J5 s5=>⟨rfl,_,rfl,y_s (by rw [decide_eq_true rfl];rfl) ?_⟩⟩
  exact ⟨_,_,_,_,rfl,c34.trans s5.ch,C4.same s5⟩
 rintro σ J ⟨x7,x11,x12,x13,rfl,cJ,CJ⟩
 have hNJ:=hN9.chl cJ hg9l hLL9
 have fpkJ:=cJ _ _ npk fpk
 refine ⟨_,rfl,net,_,_,_,rfl,rfl,SqT.of hNJ.p,rfl,_,rfl,rEqD.eq (dPs (gI gs)) hNJ.rd (RdD.lst (SqL.of fpkJ) (Dats.rd (PrsR.dats hNJ.g.2))) ((dPs_cmp _).mono (by decide)) ⟨_,rfl,y_s (by decide) ?_⟩⟩
 have fplJ:=cJ _ _ npl fpl9
 obtain ⟨_,LLu,_,u,_⟩:=id CJ
 refine ⟨_,rfl,_,_,rfl,rfl,.inl ⟨by decide,by decide⟩,_,rfl,by lia,by lia,comp_range (lo:=0) (fun i ys J'=>Ch l J J'/\ClsAt A.c_Classes J' o l n R/\ys=natsV ((List.range i).map R)) ⟨Ch.refl,CJ,rfl⟩ ?_ ?_ ?_⟩
 ·rintro i ys J' hi ⟨_,_,rfl⟩
  rw [z_l,List.length_map,List.length_range]
  exact y_n (by lia)
 ·rintro i ys J' hi ⟨c1,C1,rfl⟩
  obtain ⟨dx1,ho1⟩:=C1.1
  unfold tYes
  refine iteT ⟨_,rfl,o,dx1,_,rfl,ho1,lk_no (by decide),_,rfl,o,l,n,R,i,by rw [Int.zero_add];rfl,C1,by lia,fun J2 ch2 C2=>⟨c1.trans ch2,C2,?_⟩⟩
  rw [List.range_succ,List.map_append,List.map_cons,List.map_nil,natsV_snoc]
 rintro ys J' ⟨c1,C1,rfl⟩ pA hpA
 have t1:=z_h hpA (.lst (natsV ((List.range (2*(n:Int)).toNat).map R)))
 have fA:=z_d (H:=J') (a:=pA) (o:=.lst (natsV ((List.range (2*(n:Int)).toNat).map R)))
 have fplA:=t1 _ _ (c1 _ _ npl fplJ)
 dsimp only [gName]
 generalize upd J' pA (.lst (natsV ((List.range (2*(n:Int)).toNat).map R)))=JA at t1 fA fplA ⊢
 have hLl:=hLb.1
 have eL:(List.range (2*(n:Int)).toNat).map R=(List.range Ls.length).map R:=by rw [show (2*(n:Int)).toNat=Ls.length by lia]
 rw [eL] at fA
 refine ⟨_,rfl,pl,rfl,⟨_,SqL.of fplA⟩,comp_list (xs:=natsV Ls) (fun i ys J'=>JA=J'/\ys=natsV ((List.range i).map R)) ⟨rfl,rfl⟩ ?_ ?_ ?_ ?_⟩
 ·rintro i ys J' _ ⟨rfl,_⟩
  exact SqL.of fplA
 ·rintro i ys J' hi ⟨_,rfl⟩
  rw [z_l] at hi
  rw [z_l,List.length_map,List.length_range]
  exact y_n (by lia)
 ·rintro i v ys J' hv ⟨rfl,rfl⟩
  obtain ⟨hi,rfl⟩:=x_c hv
  have hle:=u.le (e:=i) (by lia)
  have getE:∀ m,m<Ls.length->Ls[m]? = some (Ls.getD m 0):=fun m hm=>by rw [List.getD_eq_getElem?_getD,List.getElem?_eq_getElem hm];rfl
  unfold tYes
  refine iteT ⟨_,rfl,.inl ⟨rfl,_,SqL.of fplA⟩,_,rfl,pl,Ls,Ls.getD i 0,R i,rfl,rfl,fplA,by lia,?_,fun m hm he=>?_,rfl,?_⟩
  ·rw [getE _ (by lia),(hLb.2 (R i) i (by lia) (by lia)).mpr (u.rr (by lia))]
  ·have hmi:m<2*n:=by lia
   rw [getE m (by lia)] at he
   have h1:=(hLb.2 m i hmi (by lia)).mp (Option.some.inj he)
   have:=u.least (e:=i) (j:=m) (by lia) (by lia) h1
   lia
  ·rw [List.range_succ,List.map_append,List.map_cons,List.map_nil,natsV_snoc]
 rintro ys J' ⟨rfl,rfl⟩ pB hpB
 rw [z_l]
 have t2:=z_h hpB (.lst (natsV ((List.range Ls.length).map R)))
 have fB:=z_d (H:=JA) (a:=pB) (o:=.lst (natsV ((List.range Ls.length).map R)))
 have fA2:=t2 _ _ fA
 generalize upd JA pB (.lst (natsV ((List.range Ls.length).map R)))=JB at t2 fB fA2 ⊢
 rw [natsV_cast] at fA2 fB
 exact rEqD.eq (.list (((List.range Ls.length).map R).map (fun k:Nat=>(k:Int)) |>.map PyData.int)) (RdD.lst (SqL.of fA2) (RdDs.ints _)) (RdD.lst (SqL.of fB) (RdDs.ints _)) ((Cmp.list (Cmp.ints _)).mono (show 1<=64 by decide)) (q _)
end
theorem all_ok{P:Program}{w:World}{K:PySem.W.Frag}{mg:Str->Option Value}{base:Heap}{A:Ad}(T:Tx w K mg A)(C_bits_of_both:LamAt mg base A.tc_bits_of_both A.tp_bits_of_both)(C_sets_of_both:LamAt mg base A.tc_sets_of_both A.tp_sets_of_both):FnOk P w K mg base CX0 6 A.a_law A.d_law ["_law_script"] (sp_law K A.tp_bits_of_both z_v z_t A.tp_sets_of_both y_q y_r):=by
 have G_is_whole:=ok_is_whole (P:=P) (base:=base) T
 have G_is_between:=ok_is_between (P:=P) (base:=base) T G_is_whole
 have G_all_stands:=ok_all_stands (P:=P) (base:=base) T
 have G_is_end:=ok_is_end (P:=P) (base:=base) T G_is_between
 have G_Classes_least:=ok_Classes_least (P:=P) (base:=base) T
 have G_is_step:=ok_is_step (P:=P) (base:=base) T G_Classes_least G_is_end
 have G_below:=ok_below (P:=P) (base:=base) T
 have G_found_of:=fun base':Heap=>ok_found_of (P:=P) (base:=base') T (ok_Classes_least (P:=P) (base:=base') T) (ok_below (P:=P) (base:=base') T)
 have G_both_bits:=fun base':Heap=>ok_both_bits (P:=P) (base:=base') T
 have G_bits_of_both:=ok_bits_of_both (P:=P) (base:=base) T C_bits_of_both G_all_stands G_found_of G_both_bits G_Classes_least
 have G_sets_of_both:=no_fn (P:=P) (w:=w) (K:=K) (mg:=mg) (base:=base) (k:=1) (f:=A.a_sets_of_both) (fd:=A.d_sets_of_both) (ps:=["net", "classes", "step"])
 have G_is_good:=ok_is_good (P:=P) (base:=base) T G_is_step G_bits_of_both G_sets_of_both
 have G_both_sets:=no_fn (P:=P) (w:=w) (K:=K) (mg:=mg) (base:=base) (k:=1) (f:=A.a_both_sets) (fd:=A.d_both_sets) (ps:=["one", "other"])
 have G_Classes_init:=ok_Classes_init (P:=P) (base:=base) T
 have G_Classes_alike:=ok_Classes_alike (P:=P) (base:=base) T G_Classes_least
 have G_Classes_join:=ok_Classes_join (P:=P) (base:=base) T G_Classes_least
 have G_L_row:=ok_L_row (P:=P) (base:=base) T
 have G_L_net:=ok_L_net (P:=P) (base:=base) T
 have G_L_joined:=ok_L_joined (P:=P) (base:=base) T
 have G_L_bit:=ok_L_bit (P:=P) (base:=base) T
 have G_L_told:=ok_L_told (P:=P) (base:=base) T G_L_bit
 have G_L_due:=ok_L_due (P:=P) (base:=base) T G_L_told
 have G_L_step:=ok_L_step (P:=P) (base:=base) T
 have G_L_twin:=ok_L_twin (P:=P) (base:=base) T
 exact ok_law T G_L_row G_L_twin G_Classes_init G_L_net G_Classes_join G_L_step G_is_good G_L_joined G_Classes_least G_L_due
theorem of_len1{fd:FuncData}{ns:List Str}(h:∀ a0,bindArgs fd ⟨[a0],[]⟩=pure (ns.zip [a0])):∀ us:List Value,us.length=1->bindArgs fd ⟨us,[]⟩=pure (ns.zip us):=fun us hl=>by
 match us,hl with
 | [a0],_=>exact h a0
theorem of_len2{fd:FuncData}{ns:List Str}(h:∀ a0 a1,bindArgs fd ⟨[a0,a1],[]⟩=pure (ns.zip [a0,a1])):∀ us:List Value,us.length=2->bindArgs fd ⟨us,[]⟩=pure (ns.zip us):=fun us hl=>by
 match us,hl with
 | [a0,a1],_=>exact h a0 a1
theorem of_len3{fd:FuncData}{ns:List Str}(h:∀ a0 a1 a2,bindArgs fd ⟨[a0,a1,a2],[]⟩=pure (ns.zip [a0,a1,a2])):∀ us:List Value,us.length=3->bindArgs fd ⟨us,[]⟩=pure (ns.zip us):=fun us hl=>by
 match us,hl with
 | [a0,a1,a2],_=>exact h a0 a1 a2
theorem of_len4{fd:FuncData}{ns:List Str}(h:∀ a0 a1 a2 a3,bindArgs fd ⟨[a0,a1,a2,a3],[]⟩=pure (ns.zip [a0,a1,a2,a3])):∀ us:List Value,us.length=4->bindArgs fd ⟨us,[]⟩=pure (ns.zip us):=fun us hl=>by
 match us,hl with
 | [a0,a1,a2,a3],_=>exact h a0 a1 a2 a3
theorem of_len5{fd:FuncData}{ns:List Str}(h:∀ a0 a1 a2 a3 a4,bindArgs fd ⟨[a0,a1,a2,a3,a4],[]⟩=pure (ns.zip [a0,a1,a2,a3,a4])):∀ us:List Value,us.length=5->bindArgs fd ⟨us,[]⟩=pure (ns.zip us):=fun us hl=>by
 match us,hl with
 | [a0,a1,a2,a3,a4],_=>exact h a0 a1 a2 a3 a4
theorem of_len6{fd:FuncData}{ns:List Str}(h:∀ a0 a1 a2 a3 a4 a5,bindArgs fd ⟨[a0,a1,a2,a3,a4,a5],[]⟩=pure (ns.zip [a0,a1,a2,a3,a4,a5])):∀ us:List Value,us.length=6->bindArgs fd ⟨us,[]⟩=pure (ns.zip us):=fun us hl=>by
 match us,hl with
 | [a0,a1,a2,a3,a4,a5],_=>exact h a0 a1 a2 a3 a4 a5
theorem all_mk{w:World}{K:PySem.W.Frag}{h:Heap}{mg:Str->Option Value}{fa:Addr}(X:K.In h)(G:h.Ns mainGlobals mg)(hfa:mg "law" = some (.ref fa))
  {f0 f1 f2 f3 f4 f5 f6 f7 f8 f9 f10 f11 f12 f13 f14 f15 f16 f17 f18 f19 f20 f21 f22 f23 f24:Addr} {od0 an0 od1 an1 od2 an2 od3 an3 od4 an4 od5 an5 od6 an6 od7 an7 od8 an8 od9 an9 od10 an10 od11 an11 od12 an12 od13 an13 od14 an14 od15 an15 od16 an16 od17 an17 od18 an18 od19 an19 od20 an20 od21 an21 od22 an22 od23 an23 od24 an24:Option Addr} {sl0 sl1 sl2 sl3 sl4 sl5 sl6 sl7 sl8 sl9 sl10 sl11 sl12 sl13 sl14 sl15 sl16 sl17 sl18 sl19 sl20 sl21 sl22 sl23 sl24:Array (Option Value)} {oc0 kV0 dc0 pm0 cd0 ct0 oc1 kV1 dc1 pm1 cd1 ct1 oc2 kV2 dc2 pm2 cd2 ct2 oc3 kV3 dc3 pm3 cd3 ct3 oc4 kV4 dc4 pm4 cd4 ct4 oc5 kV5 dc5 pm5 cd5 ct5 oc6 kV6 dc6 pm6 cd6 ct6 oc7 kV7 dc7 pm7 cd7 ct7 oc8 kV8 dc8 pm8 cd8 ct8 oc9 kV9 dc9 pm9 cd9 ct9 oc10 kV10 dc10 pm10 cd10 ct10 oc11 kV11 dc11 pm11 cd11 ct11 oc12 kV12 dc12 pm12 cd12 ct12 oc13 kV13 dc13 pm13 cd13 ct13 oc14 kV14 dc14 pm14 cd14 ct14 oc15 kV15 dc15 pm15 cd15 ct15 oc16 kV16 dc16 pm16 cd16 ct16 oc17 kV17 dc17 pm17 cd17 ct17 oc18 kV18 dc18 pm18 cd18 ct18 oc19 kV19 dc19 pm19 cd19 ct19 oc20 kV20 dc20 pm20 cd20 ct20 oc21 kV21 dc21 pm21 cd21 ct21 oc22 kV22 dc22 pm22 cd22 ct22 oc23 kV23 dc23 pm23 cd23 ct23 oc24 kV24 dc24 pm24 cd24 ct24:Value}
  {C_Classes:Addr} (aC_Classes:PySem.W.nsIn K mainGlobals "Classes" = some (some (.ref C_Classes)))
  (a0:PySem.W.nsIn K mainGlobals "is_whole" = some (some (.ref f0))) (l0:K.lookup f0=some ⟨oc0,od0,.func (PySem.W.fnOf "is_whole" "is_whole" (z_m y_y) (z_k y_y) (z_e y_y) .none kV0 dc0 pm0 an0 cd0 ct0),sl0⟩) (c0:PySem.W.codeIn K cd0 "is_whole" = true) (k0:PySem.W.keepIn K (.ref f0)=true)
  (a1:PySem.W.nsIn K mainGlobals "is_between" = some (some (.ref f1))) (l1:K.lookup f1=some ⟨oc1,od1,.func (PySem.W.fnOf "is_between" "is_between" (z_m y_i) (z_k y_i) (z_e y_i) .none kV1 dc1 pm1 an1 cd1 ct1),sl1⟩) (c1:PySem.W.codeIn K cd1 "is_between" = true) (k1:PySem.W.keepIn K (.ref f1)=true)
  (a2:PySem.W.nsIn K mainGlobals "all_stands" = some (some (.ref f2))) (l2:K.lookup f2=some ⟨oc2,od2,.func (PySem.W.fnOf "all_stands" "all_stands" (z_m y_h) (z_k y_h) (z_e y_h) .none kV2 dc2 pm2 an2 cd2 ct2),sl2⟩) (c2:PySem.W.codeIn K cd2 "all_stands" = true) (k2:PySem.W.keepIn K (.ref f2)=true)
  (a3:PySem.W.nsIn K mainGlobals "is_end" = some (some (.ref f3))) (l3:K.lookup f3=some ⟨oc3,od3,.func (PySem.W.fnOf "is_end" "is_end" (z_m s_is_end) (z_k s_is_end) (z_e s_is_end) .none kV3 dc3 pm3 an3 cd3 ct3),sl3⟩) (c3:PySem.W.codeIn K cd3 "is_end" = true) (k3:PySem.W.keepIn K (.ref f3)=true)
  (a4:PySem.W.nsIn K mainGlobals "is_good" = some (some (.ref f4))) (l4:K.lookup f4=some ⟨oc4,od4,.func (PySem.W.fnOf "is_good" "is_good" (z_m x_e) (z_k x_e) (z_e x_e) .none kV4 dc4 pm4 an4 cd4 ct4),sl4⟩) (c4:PySem.W.codeIn K cd4 "is_good" = true) (k4:PySem.W.keepIn K (.ref f4)=true)
  (a5:PySem.W.nsIn K mainGlobals "is_step" = some (some (.ref f5))) (l5:K.lookup f5=some ⟨oc5,od5,.func (PySem.W.fnOf "is_step" "is_step" (z_m x_f) (z_k x_f) (z_e x_f) .none kV5 dc5 pm5 an5 cd5 ct5),sl5⟩) (c5:PySem.W.codeIn K cd5 "is_step" = true) (k5:PySem.W.keepIn K (.ref f5)=true)
  (a6:PySem.W.nsIn K mainGlobals "bits_of_both" = some (some (.ref f6))) (l6:K.lookup f6=some ⟨oc6,od6,.func (PySem.W.fnOf "bits_of_both" "bits_of_both" (z_m y_a) (z_k y_a) (z_e y_a) .none kV6 dc6 pm6 an6 cd6 ct6),sl6⟩) (c6:PySem.W.codeIn K cd6 "bits_of_both" = true) (k6:PySem.W.keepIn K (.ref f6)=true)
  (a7:PySem.W.nsIn K mainGlobals "both_bits" = some (some (.ref f7))) (l7:K.lookup f7=some ⟨oc7,od7,.func (PySem.W.fnOf "both_bits" "both_bits" (z_m y_l) (z_k y_l) (z_e y_l) .none kV7 dc7 pm7 an7 cd7 ct7),sl7⟩) (c7:PySem.W.codeIn K cd7 "both_bits" = true) (k7:PySem.W.keepIn K (.ref f7)=true)
  (a8:PySem.W.nsIn K mainGlobals "sets_of_both" = some (some (.ref f8))) (l8:K.lookup f8=some ⟨oc8,od8,.func (PySem.W.fnOf "sets_of_both" "sets_of_both" (z_m y_c) (z_k y_c) (z_e y_c) .none kV8 dc8 pm8 an8 cd8 ct8),sl8⟩) (c8:PySem.W.codeIn K cd8 "sets_of_both" = true) (k8:PySem.W.keepIn K (.ref f8)=true)
  (a9:PySem.W.nsIn K mainGlobals "both_sets" = some (some (.ref f9))) (l9:K.lookup f9=some ⟨oc9,od9,.func (PySem.W.fnOf "both_sets" "both_sets" (z_m y_u) (z_k y_u) (z_e y_u) .none kV9 dc9 pm9 an9 cd9 ct9),sl9⟩) (c9:PySem.W.codeIn K cd9 "both_sets" = true) (k9:PySem.W.keepIn K (.ref f9)=true)
  (a10:PySem.W.nsIn K mainGlobals "found_of" = some (some (.ref f10))) (l10:K.lookup f10=some ⟨oc10,od10,.func (PySem.W.fnOf "found_of" "found_of" (z_m y_x) (z_k y_x) (z_e y_x) .none kV10 dc10 pm10 an10 cd10 ct10),sl10⟩) (c10:PySem.W.codeIn K cd10 "found_of" = true) (k10:PySem.W.keepIn K (.ref f10)=true)
  (a11:PySem.W.nsIn K mainGlobals "below" = some (some (.ref f11))) (l11:K.lookup f11=some ⟨oc11,od11,.func (PySem.W.fnOf "below" "below" (z_m s_below) (z_k s_below) (z_e s_below) .none kV11 dc11 pm11 an11 cd11 ct11),sl11⟩) (c11:PySem.W.codeIn K cd11 "below" = true) (k11:PySem.W.keepIn K (.ref f11)=true)
  (a12:PySem.W.findIn K (.ref C_Classes) "__init__" = some (some (.ref f12))) (i12:PySem.W.isFn K (.ref f12)=true) (l12:K.lookup f12=some ⟨oc12,od12,.func (PySem.W.fnOf "__init__" "Classes.__init__" (z_m z_y) (z_k z_y) (z_e z_y) .none kV12 dc12 pm12 an12 cd12 ct12),sl12⟩) (c12:PySem.W.codeIn K cd12 "Classes.__init__" = true) (k12:PySem.W.keepIn K (.ref f12)=true)
  (a13:PySem.W.findIn K (.ref C_Classes) "least" = some (some (.ref f13))) (i13:PySem.W.isFn K (.ref f13)=true) (l13:K.lookup f13=some ⟨oc13,od13,.func (PySem.W.fnOf "least" "Classes.least" (z_m z_x) (z_k z_x) (z_e z_x) .none kV13 dc13 pm13 an13 cd13 ct13),sl13⟩) (c13:PySem.W.codeIn K cd13 "Classes.least" = true) (k13:PySem.W.keepIn K (.ref f13)=true)
  (a14:PySem.W.findIn K (.ref C_Classes) "alike" = some (some (.ref f14))) (i14:PySem.W.isFn K (.ref f14)=true) (l14:K.lookup f14=some ⟨oc14,od14,.func (PySem.W.fnOf "alike" "Classes.alike" (z_m z_w) (z_k z_w) (z_e z_w) .none kV14 dc14 pm14 an14 cd14 ct14),sl14⟩) (c14:PySem.W.codeIn K cd14 "Classes.alike" = true) (k14:PySem.W.keepIn K (.ref f14)=true)
  (a15:PySem.W.findIn K (.ref C_Classes) "join" = some (some (.ref f15))) (i15:PySem.W.isFn K (.ref f15)=true) (l15:K.lookup f15=some ⟨oc15,od15,.func (PySem.W.fnOf "join" "Classes.join" (z_m z_z) (z_k z_z) (z_e z_z) .none kV15 dc15 pm15 an15 cd15 ct15),sl15⟩) (c15:PySem.W.codeIn K cd15 "Classes.join" = true) (k15:PySem.W.keepIn K (.ref f15)=true)
  (a16:PySem.W.nsIn K mainGlobals "_law_row" = some (some (.ref f16))) (l16:K.lookup f16=some ⟨oc16,od16,.func (PySem.W.fnOf "_law_row" "_law_row" (z_m s_L_row) (z_k s_L_row) (z_e s_L_row) .none kV16 dc16 pm16 an16 cd16 ct16),sl16⟩) (c16:PySem.W.codeIn K cd16 "_law_row" = true) (k16:PySem.W.keepIn K (.ref f16)=true)
  (a17:PySem.W.nsIn K mainGlobals "_law_net" = some (some (.ref f17))) (l17:K.lookup f17=some ⟨oc17,od17,.func (PySem.W.fnOf "_law_net" "_law_net" (z_m s_L_net) (z_k s_L_net) (z_e s_L_net) .none kV17 dc17 pm17 an17 cd17 ct17),sl17⟩) (c17:PySem.W.codeIn K cd17 "_law_net" = true) (k17:PySem.W.keepIn K (.ref f17)=true)
  (a18:PySem.W.nsIn K mainGlobals "_law_joined" = some (some (.ref f18))) (l18:K.lookup f18=some ⟨oc18,od18,.func (PySem.W.fnOf "_law_joined" "_law_joined" (z_m y_w) (z_k y_w) (z_e y_w) .none kV18 dc18 pm18 an18 cd18 ct18),sl18⟩) (c18:PySem.W.codeIn K cd18 "_law_joined" = true) (k18:PySem.W.keepIn K (.ref f18)=true)
  (a19:PySem.W.nsIn K mainGlobals "_law_bit" = some (some (.ref f19))) (l19:K.lookup f19=some ⟨oc19,od19,.func (PySem.W.fnOf "_law_bit" "_law_bit" (z_m s_L_bit) (z_k s_L_bit) (z_e s_L_bit) .none kV19 dc19 pm19 an19 cd19 ct19),sl19⟩) (c19:PySem.W.codeIn K cd19 "_law_bit" = true) (k19:PySem.W.keepIn K (.ref f19)=true)
  (a20:PySem.W.nsIn K mainGlobals "_law_told" = some (some (.ref f20))) (l20:K.lookup f20=some ⟨oc20,od20,.func (PySem.W.fnOf "_law_told" "_law_told" (z_m s_L_told) (z_k s_L_told) (z_e s_L_told) .none kV20 dc20 pm20 an20 cd20 ct20),sl20⟩) (c20:PySem.W.codeIn K cd20 "_law_told" = true) (k20:PySem.W.keepIn K (.ref f20)=true)
  (a21:PySem.W.nsIn K mainGlobals "_law_due" = some (some (.ref f21))) (l21:K.lookup f21=some ⟨oc21,od21,.func (PySem.W.fnOf "_law_due" "_law_due" (z_m s_L_due) (z_k s_L_due) (z_e s_L_due) .none kV21 dc21 pm21 an21 cd21 ct21),sl21⟩) (c21:PySem.W.codeIn K cd21 "_law_due" = true) (k21:PySem.W.keepIn K (.ref f21)=true)
  (a22:PySem.W.nsIn K mainGlobals "_law_step" = some (some (.ref f22))) (l22:K.lookup f22=some ⟨oc22,od22,.func (PySem.W.fnOf "_law_step" "_law_step" (z_m s_L_step) (z_k s_L_step) (z_e s_L_step) .none kV22 dc22 pm22 an22 cd22 ct22),sl22⟩) (c22:PySem.W.codeIn K cd22 "_law_step" = true) (k22:PySem.W.keepIn K (.ref f22)=true)
  (a23:PySem.W.nsIn K mainGlobals "_law_twin" = some (some (.ref f23))) (l23:K.lookup f23=some ⟨oc23,od23,.func (PySem.W.fnOf "_law_twin" "_law_twin" (z_m s_L_twin) (z_k s_L_twin) (z_e s_L_twin) .none kV23 dc23 pm23 an23 cd23 ct23),sl23⟩) (c23:PySem.W.codeIn K cd23 "_law_twin" = true) (k23:PySem.W.keepIn K (.ref f23)=true)
  (a24:PySem.W.nsIn K mainGlobals "law" = some (some (.ref f24))) (l24:K.lookup f24=some ⟨oc24,od24,.func (PySem.W.fnOf "law" "law" (z_m s_law) (z_k s_law) (z_e s_law) .none kV24 dc24 pm24 an24 cd24 ct24),sl24⟩) (c24:PySem.W.codeIn K cd24 "law" = true) (k24:PySem.W.keepIn K (.ref f24)=true)
  (z0:PySem.W.nsIn K mainGlobals "abs" = some none)
  (z1:PySem.W.nsIn K mainGlobals "all" = some none)
  (z2:PySem.W.nsIn K mainGlobals "bool" = some none)
  (z3:PySem.W.nsIn K mainGlobals "int" = some none)
  (z4:PySem.W.nsIn K mainGlobals "isinstance" = some none)
  (z5:PySem.W.nsIn K mainGlobals "len" = some none)
  (z6:PySem.W.nsIn K mainGlobals "list" = some none)
  (z7:PySem.W.nsIn K mainGlobals "max" = some none)
  (z8:PySem.W.nsIn K mainGlobals "min" = some none)
  (z9:PySem.W.nsIn K mainGlobals "range" = some none)
  (z10:PySem.W.nsIn K mainGlobals "set" = some none)
  (z11:PySem.W.nsIn K mainGlobals "sorted" = some none)
  (z12:PySem.W.nsIn K mainGlobals "str" = some none)
  (z13:PySem.W.nsIn K mainGlobals "tuple" = some none)
  (z14:PySem.W.nsIn K mainGlobals "zip" = some none)
  (pg_Classes:PySem.W.plainGet K C_Classes Str.empty=true) (hd_Classes:PySem.W.hasDictIn K C_Classes=true) (po_Classes:PySem.W.plainOver K C_Classes=true) (sa_Classes:PySem.W.findIn K (.ref C_Classes) "__setattr__" = some (some (.builtin "object.__setattr__"))) (mk_Classes:PySem.W.makesIn K C_Classes=true) (kc_Classes:PySem.W.keepIn K (.ref C_Classes)=true)
  (n_Classes_lesser:PySem.W.findIn K (.ref C_Classes) "lesser" = some none)
  {d_MOST_LEAVES:Addr} (g_MOST_LEAVES:PySem.W.nsIn K mainGlobals "MOST_LEAVES" = some (some (.ref d_MOST_LEAVES)))
  {es:Array DictEntry} {n_F:Nat} (l_MOST_LEAVES:K.lookup d_MOST_LEAVES=some ⟨.type "dict",none,.dict es n_F,#[]⟩) (kF:PySem.W.KeysLit w.params es.toList) (lo_F:(d_MOST_LEAVES == sysModules)=false) {h0 h1:Int} {t0 t1 u0 u1:Tok} (eF:es.toList=[⟨h0,.str "stands" t0,.int 6 u0⟩,⟨h1,.str "row" t1,.int 64 u1⟩])
  {t_LOW:Tok} (g_LOW:PySem.W.nsIn K mainGlobals "LOW" = some (some (.str "low" t_LOW)))
  {tc_bits_of_both tp_bits_of_both:Addr} {occ_bits_of_both:Value} {odc_bits_of_both:Option Addr} {vs_bits_of_both:Array Value} {slc_bits_of_both:Array (Option Value)} (ee_bits_of_both:cd6 = .ref tc_bits_of_both) (lc_bits_of_both:K.lookup tc_bits_of_both=some ⟨occ_bits_of_both,odc_bits_of_both,.fields vs_bits_of_both,slc_bits_of_both⟩) (vp_bits_of_both:vs_bits_of_both[11]? = some (.ref tp_bits_of_both))
  {tc_sets_of_both tp_sets_of_both:Addr} {occ_sets_of_both:Value} {odc_sets_of_both:Option Addr} {vs_sets_of_both:Array Value} {slc_sets_of_both:Array (Option Value)} (ee_sets_of_both:cd8 = .ref tc_sets_of_both) (lc_sets_of_both:K.lookup tc_sets_of_both=some ⟨occ_sets_of_both,odc_sets_of_both,.fields vs_sets_of_both,slc_sets_of_both⟩) (vp_sets_of_both:vs_sets_of_both[11]? = some (.ref tp_sets_of_both))
  (ndT:([tp_bits_of_both,tp_sets_of_both]:List Addr).Nodup)
  : ∃ A:Ad,A.a_law=fa/\(∀ (s:Shared) (v:Value),BindsTo s A.d_law ⟨[v],[]⟩ [("_law_script",v)])/\Tx w K mg A/\PySem.W.tabIn K "bits_of_both" = some (A.tc_bits_of_both,A.tp_bits_of_both)/\PySem.W.tabIn K "sets_of_both" = some (A.tc_sets_of_both,A.tp_sets_of_both)/\([A.tp_bits_of_both,A.tp_sets_of_both]:List Addr).Nodup:=by
 have e:=hfa.symm.trans (PySem.W.mg_of X G a24)
 cases e
 have F0:=y_v (st:=y_y) l0 c0 k0
 have F1:=y_v (st:=y_i) l1 c1 k1
 have F2:=y_v (st:=y_h) l2 c2 k2
 have F3:=y_v (st:=s_is_end) l3 c3 k3
 have F4:=y_v (st:=x_e) l4 c4 k4
 have F5:=y_v (st:=x_f) l5 c5 k5
 have F6:=y_v (st:=y_a) l6 c6 k6
 have F7:=y_v (st:=y_l) l7 c7 k7
 have F8:=y_v (st:=y_c) l8 c8 k8
 have F9:=y_v (st:=y_u) l9 c9 k9
 have F10:=y_v (st:=y_x) l10 c10 k10
 have F11:=y_v (st:=s_below) l11 c11 k11
 have F12:=y_v (st:=z_y) l12 c12 k12
 have F13:=y_v (st:=z_x) l13 c13 k13
 have F14:=y_v (st:=z_w) l14 c14 k14
 have F15:=y_v (st:=z_z) l15 c15 k15
 have F16:=y_v (st:=s_L_row) l16 c16 k16
 have F17:=y_v (st:=s_L_net) l17 c17 k17
 have F18:=y_v (st:=y_w) l18 c18 k18
 have F19:=y_v (st:=s_L_bit) l19 c19 k19
 have F20:=y_v (st:=s_L_told) l20 c20 k20
 have F21:=y_v (st:=s_L_due) l21 c21 k21
 have F22:=y_v (st:=s_L_step) l22 c22 k22
 have F23:=y_v (st:=s_L_twin) l23 c23 k23
 have F24:=y_v (st:=s_law) l24 c24 k24
 subst ee_bits_of_both
 have tb_bits_of_both:PySem.W.tabIn K "bits_of_both" = some (tc_bits_of_both,tp_bits_of_both):=by
  unfold PySem.W.tabIn
  rw [a6]
  dsimp only
  rw [l6]
  dsimp only
  rw [lc_bits_of_both]
  dsimp only
  rw [vp_bits_of_both]
 subst ee_sets_of_both
 have tb_sets_of_both:PySem.W.tabIn K "sets_of_both" = some (tc_sets_of_both,tp_sets_of_both):=by
  unfold PySem.W.tabIn
  rw [a8]
  dsimp only
  rw [l8]
  dsimp only
  rw [lc_sets_of_both]
  dsimp only
  rw [vp_sets_of_both]
 refine ⟨⟨f0,PySem.W.fnOf "is_whole" "is_whole" (z_m y_y) (z_k y_y) (z_e y_y) .none kV0 dc0 pm0 an0 cd0 ct0,f1,PySem.W.fnOf "is_between" "is_between" (z_m y_i) (z_k y_i) (z_e y_i) .none kV1 dc1 pm1 an1 cd1 ct1,f2,PySem.W.fnOf "all_stands" "all_stands" (z_m y_h) (z_k y_h) (z_e y_h) .none kV2 dc2 pm2 an2 cd2 ct2,f3,PySem.W.fnOf "is_end" "is_end" (z_m s_is_end) (z_k s_is_end) (z_e s_is_end) .none kV3 dc3 pm3 an3 cd3 ct3,f4,PySem.W.fnOf "is_good" "is_good" (z_m x_e) (z_k x_e) (z_e x_e) .none kV4 dc4 pm4 an4 cd4 ct4,f5,PySem.W.fnOf "is_step" "is_step" (z_m x_f) (z_k x_f) (z_e x_f) .none kV5 dc5 pm5 an5 cd5 ct5,f6,PySem.W.fnOf "bits_of_both" "bits_of_both" (z_m y_a) (z_k y_a) (z_e y_a) .none kV6 dc6 pm6 an6 (.ref tc_bits_of_both) ct6,f7,PySem.W.fnOf "both_bits" "both_bits" (z_m y_l) (z_k y_l) (z_e y_l) .none kV7 dc7 pm7 an7 cd7 ct7,f8,PySem.W.fnOf "sets_of_both" "sets_of_both" (z_m y_c) (z_k y_c) (z_e y_c) .none kV8 dc8 pm8 an8 (.ref tc_sets_of_both) ct8,f9,PySem.W.fnOf "both_sets" "both_sets" (z_m y_u) (z_k y_u) (z_e y_u) .none kV9 dc9 pm9 an9 cd9 ct9,f10,PySem.W.fnOf "found_of" "found_of" (z_m y_x) (z_k y_x) (z_e y_x) .none kV10 dc10 pm10 an10 cd10 ct10,f11,PySem.W.fnOf "below" "below" (z_m s_below) (z_k s_below) (z_e s_below) .none kV11 dc11 pm11 an11 cd11 ct11,f12,PySem.W.fnOf "__init__" "Classes.__init__" (z_m z_y) (z_k z_y) (z_e z_y) .none kV12 dc12 pm12 an12 cd12 ct12,f13,PySem.W.fnOf "least" "Classes.least" (z_m z_x) (z_k z_x) (z_e z_x) .none kV13 dc13 pm13 an13 cd13 ct13,f14,PySem.W.fnOf "alike" "Classes.alike" (z_m z_w) (z_k z_w) (z_e z_w) .none kV14 dc14 pm14 an14 cd14 ct14,f15,PySem.W.fnOf "join" "Classes.join" (z_m z_z) (z_k z_z) (z_e z_z) .none kV15 dc15 pm15 an15 cd15 ct15,f16,PySem.W.fnOf "_law_row" "_law_row" (z_m s_L_row) (z_k s_L_row) (z_e s_L_row) .none kV16 dc16 pm16 an16 cd16 ct16,f17,PySem.W.fnOf "_law_net" "_law_net" (z_m s_L_net) (z_k s_L_net) (z_e s_L_net) .none kV17 dc17 pm17 an17 cd17 ct17,f18,PySem.W.fnOf "_law_joined" "_law_joined" (z_m y_w) (z_k y_w) (z_e y_w) .none kV18 dc18 pm18 an18 cd18 ct18,f19,PySem.W.fnOf "_law_bit" "_law_bit" (z_m s_L_bit) (z_k s_L_bit) (z_e s_L_bit) .none kV19 dc19 pm19 an19 cd19 ct19,f20,PySem.W.fnOf "_law_told" "_law_told" (z_m s_L_told) (z_k s_L_told) (z_e s_L_told) .none kV20 dc20 pm20 an20 cd20 ct20,f21,PySem.W.fnOf "_law_due" "_law_due" (z_m s_L_due) (z_k s_L_due) (z_e s_L_due) .none kV21 dc21 pm21 an21 cd21 ct21,f22,PySem.W.fnOf "_law_step" "_law_step" (z_m s_L_step) (z_k s_L_step) (z_e s_L_step) .none kV22 dc22 pm22 an22 cd22 ct22,f23,PySem.W.fnOf "_law_twin" "_law_twin" (z_m s_L_twin) (z_k s_L_twin) (z_e s_L_twin) .none kV23 dc23 pm23 an23 cd23 ct23,fa,PySem.W.fnOf "law" "law" (z_m s_law) (z_k s_law) (z_e s_law) .none kV24 dc24 pm24 an24 cd24 ct24,d_MOST_LEAVES,C_Classes,tc_bits_of_both,tp_bits_of_both,tc_sets_of_both,tp_sets_of_both⟩,rfl,fun s v=>.of_eq rfl,?_,tb_bits_of_both,tb_sets_of_both,ndT⟩
 exact ⟨PySem.W.mg_none_of X G z0,PySem.W.mg_none_of X G z1,PySem.W.mg_none_of X G z2,PySem.W.mg_none_of X G z3,PySem.W.mg_none_of X G z4,PySem.W.mg_none_of X G z5,PySem.W.mg_none_of X G z6,PySem.W.mg_none_of X G z7,PySem.W.mg_none_of X G z8,PySem.W.mg_none_of X G z9,PySem.W.mg_none_of X G z10,PySem.W.mg_none_of X G z11,PySem.W.mg_none_of X G z12,PySem.W.mg_none_of X G z13,PySem.W.mg_none_of X G z14,PySem.W.mg_of X G g_MOST_LEAVES,⟨[("stands",.int 6),("row",.int 64)],⟨⟨es,n_F,l_MOST_LEAVES,kF,by rw [eF];exact .cons ⟨⟨_,rfl⟩,⟨_,rfl⟩⟩ (.cons ⟨⟨_,rfl⟩,⟨_,rfl⟩⟩ .nil)⟩,lo_F⟩,rfl⟩,⟨_,PySem.W.mg_of X G g_LOW⟩,F0,F0.binds fun _ _ _ _ _ _ us hl=>of_len1 (fun _=>rfl) us hl,PySem.W.mg_of X G a0,F1,F1.binds fun _ _ _ _ _ _ us hl=>of_len3 (fun _ _ _=>rfl) us hl,PySem.W.mg_of X G a1,F2,F2.binds fun _ _ _ _ _ _ us hl=>of_len1 (fun _=>rfl) us hl,PySem.W.mg_of X G a2,F3,F3.binds fun _ _ _ _ _ _ us hl=>of_len2 (fun _ _=>rfl) us hl,PySem.W.mg_of X G a3,F4,F4.binds fun _ _ _ _ _ _ us hl=>of_len3 (fun _ _ _=>rfl) us hl,PySem.W.mg_of X G a4,F5,F5.binds fun _ _ _ _ _ _ us hl=>of_len3 (fun _ _ _=>rfl) us hl,PySem.W.mg_of X G a5,F6,F6.binds fun _ _ _ _ _ _ us hl=>of_len3 (fun _ _ _=>rfl) us hl,PySem.W.mg_of X G a6,F7,F7.binds fun _ _ _ _ _ _ us hl=>of_len2 (fun _ _=>rfl) us hl,PySem.W.mg_of X G a7,F8,F8.binds fun _ _ _ _ _ _ us hl=>of_len3 (fun _ _ _=>rfl) us hl,PySem.W.mg_of X G a8,F9,F9.binds fun _ _ _ _ _ _ us hl=>of_len2 (fun _ _=>rfl) us hl,PySem.W.mg_of X G a9,F10,F10.binds fun _ _ _ _ _ _ us hl=>of_len6 (fun _ _ _ _ _ _=>rfl) us hl,PySem.W.mg_of X G a10,F11,F11.binds fun _ _ _ _ _ _ us hl=>of_len2 (fun _ _=>rfl) us hl,PySem.W.mg_of X G a11,F12,F12.binds fun _ _ _ _ _ _ us hl=>of_len2 (fun _ _=>rfl) us hl,⟨mk_Classes,a12,i12,kc_Classes⟩,F13,F13.binds fun _ _ _ _ _ _ us hl=>of_len2 (fun _ _=>rfl) us hl,⟨a13,i13,k13⟩,F14,F14.binds fun _ _ _ _ _ _ us hl=>of_len3 (fun _ _ _=>rfl) us hl,⟨a14,i14,k14⟩,F15,F15.binds fun _ _ _ _ _ _ us hl=>of_len3 (fun _ _ _=>rfl) us hl,⟨a15,i15,k15⟩,F16,F16.binds fun _ _ _ _ _ _ us hl=>of_len3 (fun _ _ _=>rfl) us hl,PySem.W.mg_of X G a16,F17,F17.binds fun _ _ _ _ _ _ us hl=>of_len2 (fun _ _=>rfl) us hl,PySem.W.mg_of X G a17,F18,F18.binds fun _ _ _ _ _ _ us hl=>of_len3 (fun _ _ _=>rfl) us hl,PySem.W.mg_of X G a18,F19,F19.binds fun _ _ _ _ _ _ us hl=>of_len4 (fun _ _ _ _=>rfl) us hl,PySem.W.mg_of X G a19,F20,F20.binds fun _ _ _ _ _ _ us hl=>of_len5 (fun _ _ _ _ _=>rfl) us hl,PySem.W.mg_of X G a20,F21,F21.binds fun _ _ _ _ _ _ us hl=>of_len3 (fun _ _ _=>rfl) us hl,PySem.W.mg_of X G a21,F22,F22.binds fun _ _ _ _ _ _ us hl=>of_len2 (fun _ _=>rfl) us hl,PySem.W.mg_of X G a22,F23,F23.binds fun _ _ _ _ _ _ us hl=>of_len2 (fun _ _=>rfl) us hl,PySem.W.mg_of X G a23,F24,F24.binds fun _ _ _ _ _ _ us hl=>of_len1 (fun _=>rfl) us hl,PySem.W.mg_of X G a24,⟨pg_Classes,hd_Classes,po_Classes,sa_Classes⟩,PySem.W.mg_of X G aC_Classes,n_Classes_lesser,rfl,rfl⟩
theorem walk{l:PySem.W.OpenLaw}{q:Program}{loose:List Str}{XP:(Str->Option Value)->Heap->Prop}{YP:World->Heap->Prop}{d:DefRec}{K:Params->PySem.W.Frag}(hn:l.most=some 63)(hdf:d.params.defaults=[])(hnm:d.name = "law")
  (hY:∀ (w:World) (h:Heap),YP w h->(K w.params).In h) (hNo:∀ w:World,PySem.W.noTabs (K w.params)=true) (hr_bits_of_both:∃ d,(PyProof.Rows.recsOf q).find? (fun e=>e.name == ("bits_of_both" : Str))=some d) (hr_sets_of_both:∃ d,(PyProof.Rows.recsOf q).find? (fun e=>e.name == ("sets_of_both" : Str))=some d)
  (F:∀ (w:World) (mg:Str->Option Value) (fa:Addr) (h:Heap),(K w.params).In h->h.Ns mainGlobals mg->mg "law" = some (.ref fa) ->
   ∃ A:Ad,A.a_law=fa/\(∀ (s:Shared) (v:Value),BindsTo s A.d_law ⟨[v],[]⟩ [("_law_script",v)])/\Tx w (K w.params) mg A/\PySem.W.tabIn (K w.params) "bits_of_both" = some (A.tc_bits_of_both,A.tp_bits_of_both)/\PySem.W.tabIn (K w.params) "sets_of_both" = some (A.tc_sets_of_both,A.tp_sets_of_both)/\([A.tp_bits_of_both,A.tp_sets_of_both]:List Addr).Nodup) :
  PySem.W.WalkO q loose XP YP l.row.toRowW d [] (fun f vs=>PySem.call f vs):=by
 refine L2.walk_ofT (n:=63) (k:=6) (x := "_law_script") hn (by decide) hdf ⟨rfl,by decide,by decide⟩ hY (fun w mg mb ls mean fa h k1 k2 TT k3=>?_)
 obtain ⟨A,rfl,hb,T,tb_bits_of_both,tb_sets_of_both,nd⟩:=F w mg fa h k1 k2 (by rw [<-hnm];exact k3)
 refine ⟨A.d_law,[(A.tc_bits_of_both,A.tp_bits_of_both,z_v,z_t),(A.tc_sets_of_both,A.tp_sets_of_both,y_q,y_r)],(sp_law (K w.params) A.tp_bits_of_both z_v z_t A.tp_sets_of_both y_q y_r),hb,fun t ht=>?_,nd,hNo w,fun base _ _ C=>all_ok T (C (A.tc_bits_of_both,A.tp_bits_of_both,z_v,z_t) (by simp)) (C (A.tc_sets_of_both,A.tp_sets_of_both,y_q,y_r) (by simp)),fun H a ns hl ht hS=>⟨a,ns,rfl,hS,hl,ht (A.tc_bits_of_both,A.tp_bits_of_both,z_v,z_t) (by simp),ht (A.tc_sets_of_both,A.tp_sets_of_both,y_q,y_r) (by simp),fun _=>rfl⟩⟩
 simp only [List.mem_cons,List.not_mem_nil,or_false] at ht
 rcases ht with rfl | rfl
 ·obtain ⟨_,z⟩:=hr_bits_of_both
  exact PySem.W.tab_of TT k1 z tb_bits_of_both
 ·obtain ⟨_,z⟩:=hr_sets_of_both
  exact PySem.W.tab_of TT k1 z tb_sets_of_both
abbrev hS(x:String)(t:Nat):Value:=.str (Str.ofString x) t
abbrev hE(P:Params)(x:String)(t:Nat)(v:Value):DictEntry:=⟨PyData.keyHash P (Str.ofString x),.str (Str.ofString x) t,v⟩
abbrev hF(n q:String)(st:Stmt)(df kd doc pm:Value)(an:Option Addr)(cd ct:Value):Obj:=⟨.type "function",none,.func (PySem.W.fnOf n q (z_m st) (z_k st) (z_e st) df kd doc pm an cd ct),#[]⟩
abbrev hC(n q:String)(t:Nat)(l a k:Int)(r1 r2:Nat)(x y:Value)(r3:Nat)(u:Int)(z:Nat):Obj:=⟨.type "code",none,.fields [hS n t,hS q (t+1),hS "/claim/cut.py" (t+2),.int l 0,.int a 0,.int 0 0,.int 0 0,.int k 0,.ref r1,.bool true,.int 181 0,.ref r2,.none,x,y,.ref r3,.int u 0,.int l 0,hS "/claim/cut.py" z].toArray,#[]⟩
def hK:Params->PySem.W.Frag:=fun P =>
 (nat_lit 2,⟨.none,none,.dict ([]).toArray 0,#[]⟩) ::
 (nat_lit 3,⟨(.type "dict"),none,.dict (hE P "__name__" 165 (hS "law_lampforge_k36_stands_good_or_not" 369)::hE P "__doc__" 166 .none::hE P "__package__" 167 .none::hE P "__loader__" 168 (.builtin "__main__.__loader__#opaque")::hE P "__spec__" 169 .none::hE P "__annotations__" 170 (.ref 6)::hE P "__builtins__" 171 (.ref 4)::hE P "__file__" 173 (hS "/claim/cut.py" 172)::hE P "__cached__" 174 .none::hE P "is_whole" 195 (.ref 21)::hE P "is_between" 204 (.ref 28)::hE P "all_stands" 212 (.ref 33)::hE P "is_end" 222 (.ref 40)::hE P "MOST_LEAVES" 231 (.ref 41)::hE P "LOW" 233 (hS "low" 232)::hE P "is_good" 243 (.ref 48)::hE P "is_step" 249 (.ref 53)::hE P "bits_of_both" 264 (.ref 60)::hE P "both_bits" 272 (.ref 67)::hE P "sets_of_both" 284 (.ref 74)::hE P "both_sets" 294 (.ref 81)::hE P "found_of" 300 (.ref 86)::hE P "below" 308 (.ref 93)::hE P "Classes" 368 (.ref 129)::hE P "_law_row" 385 (.ref 140)::hE P "_law_net" 396 (.ref 147)::hE P "_law_joined" 402 (.ref 152)::hE P "_law_bit" 414 (.ref 159)::hE P "_law_told" 420 (.ref 164)::hE P "_law_due" 437 (.ref 171)::hE P "_law_step" 443 (.ref 176)::hE P "_law_twin" 453 (.ref 183)::hE P "law" 459 (.ref 188)::[]).toArray 33,#[]⟩) ::
 (nat_lit 20,hC "is_whole" "is_whole" 189 2 1 3 15 16 (.ref 17) (.ref 18) 19 193 194) ::
 (nat_lit 21,hF "is_whole" "is_whole" y_y .none .none .none (hS "lampforge.words" 187) none (.ref 20) .none) ::
 (nat_lit 27,hC "is_between" "is_between" 196 4 3 3 22 23 (.ref 24) (.ref 25) 26 202 203) ::
 (nat_lit 28,hF "is_between" "is_between" y_i .none .none .none (hS "lampforge.words" 187) none (.ref 27) .none) ::
 (nat_lit 32,hC "all_stands" "all_stands" 207 7 1 3 29 30 .none .none 31 210 211) ::
 (nat_lit 33,hF "all_stands" "all_stands" y_h .none .none .none (hS "lampforge.many" 205) none (.ref 32) .none) ::
 (nat_lit 39,hC "is_end" "is_end" 215 18 2 3 34 35 (.ref 36) (.ref 37) 38 220 221) ::
 (nat_lit 40,hF "is_end" "is_end" s_is_end .none .none .none (hS "lampforge.works" 213) none (.ref 39) .none) ::
 (nat_lit 41,⟨(.type "dict"),none,.dict (hE P "stands" 225 (.int 6 226)::hE P "row" 227 (.int 64 228)::[]).toArray 2,#[]⟩) ::
 (nat_lit 47,hC "is_good" "is_good" 234 23 3 3 42 43 (.ref 44) (.ref 45) 46 241 242) ::
 (nat_lit 48,hF "is_good" "is_good" x_e .none .none .none (hS "lampforge.steps" 223) none (.ref 47) .none) ::
 (nat_lit 52,hC "is_step" "is_step" 244 31 3 3 49 50 .none .none 51 247 248) ::
 (nat_lit 53,hF "is_step" "is_step" x_f .none .none .none (hS "lampforge.steps" 223) none (.ref 52) .none) ::
 (nat_lit 59,hC "bits_of_both" "bits_of_both" 250 41 3 3 54 55 (.ref 56) (.ref 57) 58 262 263) ::
 (nat_lit 60,hF "bits_of_both" "bits_of_both" y_a .none .none .none (hS "lampforge.steps" 223) none (.ref 59) .none) ::
 (nat_lit 66,hC "both_bits" "both_bits" 265 52 2 3 61 62 (.ref 63) (.ref 64) 65 270 271) ::
 (nat_lit 67,hF "both_bits" "both_bits" y_l .none .none .none (hS "lampforge.steps" 223) none (.ref 66) .none) ::
 (nat_lit 73,hC "sets_of_both" "sets_of_both" 273 54 3 3 68 69 (.ref 70) (.ref 71) 72 282 283) ::
 (nat_lit 74,hF "sets_of_both" "sets_of_both" y_c .none .none .none (hS "lampforge.steps" 223) none (.ref 73) .none) ::
 (nat_lit 80,hC "both_sets" "both_sets" 285 62 2 3 75 76 (.ref 77) (.ref 78) 79 292 293) ::
 (nat_lit 81,hF "both_sets" "both_sets" y_u .none .none .none (hS "lampforge.steps" 223) none (.ref 80) .none) ::
 (nat_lit 85,hC "found_of" "found_of" 295 70 6 3 82 83 .none .none 84 298 299) ::
 (nat_lit 86,hF "found_of" "found_of" y_x .none .none .none (hS "lampforge.steps" 223) none (.ref 85) .none) ::
 (nat_lit 92,hC "below" "below" 301 86 2 3 87 88 (.ref 89) (.ref 90) 91 306 307) ::
 (nat_lit 93,hF "below" "below" s_below .none .none .none (hS "lampforge.steps" 223) none (.ref 92) .none) ::
 (nat_lit 104,hC "__init__" "Classes.__init__" 323 91 2 3 101 102 .none .none 103 326 327) ::
 (nat_lit 105,hF "__init__" "Classes.__init__" z_y .none .none .none (hS "lampforge.classes" 309) none (.ref 104) .none) ::
 (nat_lit 111,hC "least" "Classes.least" 329 94 2 3 106 107 (.ref 108) (.ref 109) 110 337 338) ::
 (nat_lit 112,hF "least" "Classes.least" z_x .none .none .none (hS "lampforge.classes" 309) none (.ref 111) .none) ::
 (nat_lit 118,hC "alike" "Classes.alike" 340 104 3 3 113 114 (.ref 115) (.ref 116) 117 346 347) ::
 (nat_lit 119,hF "alike" "Classes.alike" z_w .none .none .none (hS "lampforge.classes" 309) none (.ref 118) .none) ::
 (nat_lit 125,hC "join" "Classes.join" 349 107 3 3 120 121 (.ref 122) (.ref 123) 124 357 358) ::
 (nat_lit 126,hF "join" "Classes.join" z_z .none .none .none (hS "lampforge.classes" 309) none (.ref 125) .none) ::
 (nat_lit 127,⟨(.type "tuple"),none,.seq [(hS "lesser" 360)].toArray 0,#[]⟩) ::
 (nat_lit 128,⟨(.type "dict"),none,.dict (hE P "__module__" 318 (hS "lampforge.classes" 309)::hE P "__firstlineno__" 322 (.int 89 321)::hE P "__init__" 328 (.ref 105)::hE P "least" 339 (.ref 112)::hE P "alike" 348 (.ref 119)::hE P "join" 359 (.ref 126)::hE P "__static_attributes__" 361 (.ref 127)::hE P "__dict__" 363 (.ref 130)::hE P "__weakref__" 365 (.ref 131)::hE P "__doc__" 366 .none::[]).toArray 4,#[]⟩) ::
 (nat_lit 129,⟨(.type "type"),none,.cls { name := "Classes",bases:=[(.type "object")],mro:=[(.ref 129),(.type "object")],ns:=128,qualname := "Classes",hasDict:=true,subclasses:=[],abstract:=false,hasDel:=false },#[none,none,some (hS "Classes" 311),some (hS "Classes" 319),some (.builtin "object.__new__"),some (.bool true)]⟩) ::
 (nat_lit 130,⟨(.type "getset_descriptor"),none,.fields [(hS "__dict__" 362),(.ref 129),(.builtin "function.__dict__"),(.builtin "function.__dict__#set")].toArray,#[]⟩) ::
 (nat_lit 131,⟨(.type "getset_descriptor"),none,.fields [(hS "__weakref__" 364),(.ref 129),(.builtin "ExceptionGroup.__weakref__"),.none].toArray,#[]⟩) ::
 (nat_lit 139,hC "_law_row" "_law_row" 371 117 3 3 134 135 (.ref 136) (.ref 137) 138 383 384) ::
 (nat_lit 140,hF "_law_row" "_law_row" s_L_row .none .none .none (hS "law_lampforge_k36_stands_good_or_not" 369) none (.ref 139) .none) ::
 (nat_lit 146,hC "_law_net" "_law_net" 386 133 2 3 141 142 (.ref 143) (.ref 144) 145 394 395) ::
 (nat_lit 147,hF "_law_net" "_law_net" s_L_net .none .none .none (hS "law_lampforge_k36_stands_good_or_not" 369) none (.ref 146) .none) ::
 (nat_lit 151,hC "_law_joined" "_law_joined" 397 139 3 3 148 149 .none .none 150 400 401) ::
 (nat_lit 152,hF "_law_joined" "_law_joined" y_w .none .none .none (hS "law_lampforge_k36_stands_good_or_not" 369) none (.ref 151) .none) ::
 (nat_lit 158,hC "_law_bit" "_law_bit" 403 144 4 3 153 154 (.ref 155) (.ref 156) 157 412 413) ::
 (nat_lit 159,hF "_law_bit" "_law_bit" s_L_bit .none .none .none (hS "law_lampforge_k36_stands_good_or_not" 369) none (.ref 158) .none) ::
 (nat_lit 163,hC "_law_told" "_law_told" 415 153 5 3 160 161 .none .none 162 418 419) ::
 (nat_lit 164,hF "_law_told" "_law_told" s_L_told .none .none .none (hS "law_lampforge_k36_stands_good_or_not" 369) none (.ref 163) .none) ::
 (nat_lit 170,hC "_law_due" "_law_due" 421 163 3 3 165 166 (.ref 167) (.ref 168) 169 435 436) ::
 (nat_lit 171,hF "_law_due" "_law_due" s_L_due .none .none .none (hS "law_lampforge_k36_stands_good_or_not" 369) none (.ref 170) .none) ::
 (nat_lit 175,hC "_law_step" "_law_step" 438 180 2 3 172 173 .none .none 174 441 442) ::
 (nat_lit 176,hF "_law_step" "_law_step" s_L_step .none .none .none (hS "law_lampforge_k36_stands_good_or_not" 369) none (.ref 175) .none) ::
 (nat_lit 182,hC "_law_twin" "_law_twin" 444 195 2 3 177 178 (.ref 179) (.ref 180) 181 451 452) ::
 (nat_lit 183,hF "_law_twin" "_law_twin" s_L_twin .none .none .none (hS "law_lampforge_k36_stands_good_or_not" 369) none (.ref 182) .none) ::
 (nat_lit 187,hC "law" "law" 454 200 1 3 184 185 .none .none 186 457 458) ::
 (nat_lit 188,hF "law" "law" s_law .none .none .none (hS "law_lampforge_k36_stands_good_or_not" 369) none (.ref 187) .none)::[]
def hA:List Addr:=nat_lit 2::nat_lit 3::nat_lit 20::nat_lit 21::nat_lit 27::nat_lit 28::nat_lit 32::nat_lit 33::nat_lit 39::nat_lit 40::nat_lit 41::nat_lit 47::nat_lit 48::nat_lit 52::nat_lit 53::nat_lit 59::nat_lit 60::nat_lit 66::nat_lit 67::nat_lit 73::nat_lit 74::nat_lit 80::nat_lit 81::nat_lit 85::nat_lit 86::nat_lit 92::nat_lit 93::nat_lit 104::nat_lit 105::nat_lit 111::nat_lit 112::nat_lit 118::nat_lit 119::nat_lit 125::nat_lit 126::nat_lit 127::nat_lit 128::nat_lit 129::nat_lit 130::nat_lit 131::nat_lit 139::nat_lit 140::nat_lit 146::nat_lit 147::nat_lit 151::nat_lit 152::nat_lit 158::nat_lit 159::nat_lit 163::nat_lit 164::nat_lit 170::nat_lit 171::nat_lit 175::nat_lit 176::nat_lit 182::nat_lit 183::nat_lit 187::nat_lit 188::[]
def hV:Program:={ PySem.Challenge.pw_lampforge_k36_stands_good_or_not with main:={ PySem.Challenge.pw_lampforge_k36_stands_good_or_not.main with body:=[top 1,top 2,top 4,top 6,top 8,top 9,top 10,top 11,top 12,top 13,top 14,top 15,top 16,top 17,top 19,top 21,top 22,top 23,top 24,top 25,top 26,top 27,top 28,top 29] } }
abbrev hL:List Str:=[Str.ofString "MOST_LEAVES"]
theorem hQ:∀ P,hA=(hK P).map (·.1):=fun _=>by kernel_rfl
end K36
open PySem PySem.W PyProof.Rows
set_option maxRecDepth 100000 in
set_option maxHeartbeats 0 in
theorem PySem.Challenge.cw_lampforge_k36_stands_good_or_not_holds : PySem.Challenge.rw_lampforge_k36_stands_good_or_not.Holds := by
 w_on;o_law
 refine PySem.W.holds_open (q:=K36.hV) (loose:=K36.hL) (Xt:=fun s=>PySem.W.xlAt K36.hV [] s&&PySem.W.recOk (PySem.W.RowW.records PySem.Challenge.rw_lampforge_k36_stands_good_or_not.row.toRowW) s) (XP:=PySem.W.XL K36.hV []) (Yf:=PySem.W.Hook.obs (PySem.W.kHook K36.hK K36.hA K36.hQ)) (Ya:=PySem.W.Hook.val (PySem.W.kHook K36.hK K36.hA K36.hQ)) (YP:=PySem.W.Hook.says (PySem.W.kHook K36.hK K36.hA K36.hQ)) (N:=2258) ?hl (PySem.W.Hook.of (PySem.W.kHook K36.hK K36.hA K36.hQ)) (PySem.W.Hook.keeps (PySem.W.kHook K36.hK K36.hA K36.hQ)) (fun s e=>PySem.W.xl_of s (Bool.and_eq_true_iff.mp e).1) PySem.W.XL.keeps (by rfl) (by rfl) (by rfl) (fun s e=>PySem.W.recFacts_of (Bool.and_eq_true_iff.mp e).2) (by rfl) (by first | assumption | decide +kernel) (by decide +kernel) ⟨rfl,rfl,rfl,rfl,rfl,by decide +kernel⟩ ?hw ?hc
 case hl=>exact PySem.W.LeftO.of_split "special-get-raises" (fun w=>by kernel_rfl)
 (case hw=>w_witness2)
 k_fill
 refine K36.walk (l:=PySem.Challenge.rw_lampforge_k36_stands_good_or_not) rfl rfl rfl (fun w h Y=>PySem.W.kIn_of Y) (fun w=>by kernel_rfl) ⟨_,rfl⟩ ⟨_,rfl⟩ ?F
 case F =>
  intro w mg fa h KX G hmg
  refine' K36.all_mk KX G hmg ?aC_Classes ?a0 ?l0 ?c0 ?k0 ?a1 ?l1 ?c1 ?k1 ?a2 ?l2 ?c2 ?k2 ?a3 ?l3 ?c3 ?k3 ?a4 ?l4 ?c4 ?k4 ?a5 ?l5 ?c5 ?k5 ?a6 ?l6 ?c6 ?k6 ?a7 ?l7 ?c7 ?k7 ?a8 ?l8 ?c8 ?k8 ?a9 ?l9 ?c9 ?k9 ?a10 ?l10 ?c10 ?k10 ?a11 ?l11 ?c11 ?k11 ?a12 ?i12 ?l12 ?c12 ?k12 ?a13 ?i13 ?l13 ?c13 ?k13 ?a14 ?i14 ?l14 ?c14 ?k14 ?a15 ?i15 ?l15 ?c15 ?k15 ?a16 ?l16 ?c16 ?k16 ?a17 ?l17 ?c17 ?k17 ?a18 ?l18 ?c18 ?k18 ?a19 ?l19 ?c19 ?k19 ?a20 ?l20 ?c20 ?k20 ?a21 ?l21 ?c21 ?k21 ?a22 ?l22 ?c22 ?k22 ?a23 ?l23 ?c23 ?k23 ?a24 ?l24 ?c24 ?k24 ?z0 ?z1 ?z2 ?z3 ?z4 ?z5 ?z6 ?z7 ?z8 ?z9 ?z10 ?z11 ?z12 ?z13 ?z14 ?pg_Classes ?hd_Classes ?po_Classes ?sa_Classes ?mk_Classes ?kc_Classes ?n_Classes_lesser ?g_MOST_LEAVES ?l_MOST_LEAVES ?kF ?lo_F ?eF ?g_LOW ?ee_bits_of_both ?lc_bits_of_both ?vp_bits_of_both ?ee_sets_of_both ?lc_sets_of_both ?vp_sets_of_both ?ndT
  (case aC_Classes=>k_is)
  (case a0=>k_is)
  (case l0=>k_is)
  (case c0=>k_is)
  (case k0=>k_is)
  (case a1=>k_is)
  (case l1=>k_is)
  (case c1=>k_is)
  (case k1=>k_is)
  (case a2=>k_is)
  (case l2=>k_is)
  (case c2=>k_is)
  (case k2=>k_is)
  (case a3=>k_is)
  (case l3=>k_is)
  (case c3=>k_is)
  (case k3=>k_is)
  (case a4=>k_is)
  (case l4=>k_is)
  (case c4=>k_is)
  (case k4=>k_is)
  (case a5=>k_is)
  (case l5=>k_is)
  (case c5=>k_is)
  (case k5=>k_is)
  (case a6=>k_is)
  (case l6=>k_is)
  (case c6=>k_is)
  (case k6=>k_is)
  (case a7=>k_is)
  (case l7=>k_is)
  (case c7=>k_is)
  (case k7=>k_is)
  (case a8=>k_is)
  (case l8=>k_is)
  (case c8=>k_is)
  (case k8=>k_is)
  (case a9=>k_is)
  (case l9=>k_is)
  (case c9=>k_is)
  (case k9=>k_is)
  (case a10=>k_is)
  (case l10=>k_is)
  (case c10=>k_is)
  (case k10=>k_is)
  (case a11=>k_is)
  (case l11=>k_is)
  (case c11=>k_is)
  (case k11=>k_is)
  (case a12=>k_is)
  (case i12=>k_is)
  (case l12=>k_is)
  (case c12=>k_is)
  (case k12=>k_is)
  (case a13=>k_is)
  (case i13=>k_is)
  (case l13=>k_is)
  (case c13=>k_is)
  (case k13=>k_is)
  (case a14=>k_is)
  (case i14=>k_is)
  (case l14=>k_is)
  (case c14=>k_is)
  (case k14=>k_is)
  (case a15=>k_is)
  (case i15=>k_is)
  (case l15=>k_is)
  (case c15=>k_is)
  (case k15=>k_is)
  (case a16=>k_is)
  (case l16=>k_is)
  (case c16=>k_is)
  (case k16=>k_is)
  (case a17=>k_is)
  (case l17=>k_is)
  (case c17=>k_is)
  (case k17=>k_is)
  (case a18=>k_is)
  (case l18=>k_is)
  (case c18=>k_is)
  (case k18=>k_is)
  (case a19=>k_is)
  (case l19=>k_is)
  (case c19=>k_is)
  (case k19=>k_is)
  (case a20=>k_is)
  (case l20=>k_is)
  (case c20=>k_is)
  (case k20=>k_is)
  (case a21=>k_is)
  (case l21=>k_is)
  (case c21=>k_is)
  (case k21=>k_is)
  (case a22=>k_is)
  (case l22=>k_is)
  (case c22=>k_is)
  (case k22=>k_is)
  (case a23=>k_is)
  (case l23=>k_is)
  (case c23=>k_is)
  (case k23=>k_is)
  (case a24=>k_is)
  (case l24=>k_is)
  (case c24=>k_is)
  (case k24=>k_is)
  (case z0=>k_is)
  (case z1=>k_is)
  (case z2=>k_is)
  (case z3=>k_is)
  (case z4=>k_is)
  (case z5=>k_is)
  (case z6=>k_is)
  (case z7=>k_is)
  (case z8=>k_is)
  (case z9=>k_is)
  (case z10=>k_is)
  (case z11=>k_is)
  (case z12=>k_is)
  (case z13=>k_is)
  (case z14=>k_is)
  (case pg_Classes=>k_is)
  (case hd_Classes=>k_is)
  (case po_Classes=>k_is)
  (case sa_Classes=>k_is)
  (case mk_Classes=>k_is)
  (case kc_Classes=>k_is)
  (case n_Classes_lesser=>k_is)
  (case g_MOST_LEAVES=>k_is)
  (case l_MOST_LEAVES=>k_is)
  (case kF=>k_keys)
  (case lo_F=>decide)
  (case eF=>rfl)
  (case g_LOW=>k_is)
  (case ee_bits_of_both=>exact rfl)
  (case lc_bits_of_both=>k_is)
  (case vp_bits_of_both=>exact rfl)
  (case ee_sets_of_both=>exact rfl)
  (case lc_sets_of_both=>k_is)
  (case vp_sets_of_both=>exact rfl)
  (case ndT=>decide)
