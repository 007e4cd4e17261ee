import PyProof.Rows.All
import Wide.All
import OpenK.AllK
import Wide.FinOn
import Lean
import PyProof.EqAt
import PyProof.EqKinds
import PyProof.TupleCall
import PySem.Challenge.RW_growbook_k12_whole_keys_behind
set_option Elab.async false
set_option linter.all false
set_option maxRecDepth 100000
set_option maxHeartbeats 4000000
theorem U{α:Sort _}{a:α}:a=a:=rfl
theorem om {p:Prop}(h:p:=by first|decide|lia|omega):p:=h
theorem GO {A0 W:Type}{v:A0->List W}{p:A0->Prop}{vs:List W}{n:Nat}(h:∃ a0,vs=v a0/\p a0)(k:∀ a0,(v a0).length=n):vs.length=n:=by
 obtain⟨a0,rfl,_⟩:=h;exact k a0
theorem HJ {A0 A1 W:Type}{v:A0->A1->List W}{p:A0->A1->Prop}{vs:List W}{n:Nat}(h:∃ a0 a1,vs=v a0 a1/\p a0 a1)(k:∀ a0 a1,(v a0 a1).length=n):vs.length=n:=by
 obtain⟨a0,a1,rfl,_⟩:=h;exact k a0 a1
theorem HN {A0 A1 A2 W:Type}{v:A0->A1->A2->List W}{p:A0->A1->A2->Prop}{vs:List W}{n:Nat}(h:∃ a0 a1 a2,vs=v a0 a1 a2/\p a0 a1 a2)(k:∀ a0 a1 a2,(v a0 a1 a2).length=n):vs.length=n:=by
 obtain⟨a0,a1,a2,rfl,_⟩:=h;exact k a0 a1 a2
theorem KL {A0 A1 A2 A3 W:Type}{v:A0->A1->A2->A3->List W}{p:A0->A1->A2->A3->Prop}{vs:List W}{n:Nat}(h:∃ a0 a1 a2 a3,vs=v a0 a1 a2 a3/\p a0 a1 a2 a3)(k:∀ a0 a1 a2 a3,(v a0 a1 a2 a3).length=n):vs.length=n:=by
 obtain⟨a0,a1,a2,a3,rfl,_⟩:=h;exact k a0 a1 a2 a3
theorem DS {A0 A1 A2 A3 A4 W:Type}{v:A0->A1->A2->A3->A4->List W}{p:A0->A1->A2->A3->A4->Prop}{vs:List W}{n:Nat}(h:∃ a0 a1 a2 a3 a4,vs=v a0 a1 a2 a3 a4/\p a0 a1 a2 a3 a4)(k:∀ a0 a1 a2 a3 a4,(v a0 a1 a2 a3 a4).length=n):vs.length=n:=by
 obtain⟨a0,a1,a2,a3,a4,rfl,_⟩:=h;exact k a0 a1 a2 a3 a4
theorem Do {A0 A1 A2 A3 A4 A5 W:Type}{v:A0->A1->A2->A3->A4->A5->List W}{p:A0->A1->A2->A3->A4->A5->Prop}{vs:List W}{n:Nat}(h:∃ a0 a1 a2 a3 a4 a5,vs=v a0 a1 a2 a3 a4 a5/\p a0 a1 a2 a3 a4 a5)(k:∀ a0 a1 a2 a3 a4 a5,(v a0 a1 a2 a3 a4 a5).length=n):vs.length=n:=by
 obtain⟨a0,a1,a2,a3,a4,a5,rfl,_⟩:=h;exact k a0 a1 a2 a3 a4 a5
theorem Fx {A0 A1 A2 A3 A4 A5 A6 W:Type}{v:A0->A1->A2->A3->A4->A5->A6->List W}{p:A0->A1->A2->A3->A4->A5->A6->Prop}{vs:List W}{n:Nat}(h:∃ a0 a1 a2 a3 a4 a5 a6,vs=v a0 a1 a2 a3 a4 a5 a6/\p a0 a1 a2 a3 a4 a5 a6)(k:∀ a0 a1 a2 a3 a4 a5 a6,(v a0 a1 a2 a3 a4 a5 a6).length=n):vs.length=n:=by
 obtain⟨a0,a1,a2,a3,a4,a5,a6,rfl,_⟩:=h;exact k a0 a1 a2 a3 a4 a5 a6
theorem Ss {A0 A1 A2 A3 A4 A5 A6 A7 W:Type}{v:A0->A1->A2->A3->A4->A5->A6->A7->List W}{p:A0->A1->A2->A3->A4->A5->A6->A7->Prop}{vs:List W}{n:Nat}(h:∃ a0 a1 a2 a3 a4 a5 a6 a7,vs=v a0 a1 a2 a3 a4 a5 a6 a7/\p a0 a1 a2 a3 a4 a5 a6 a7)(k:∀ a0 a1 a2 a3 a4 a5 a6 a7,(v a0 a1 a2 a3 a4 a5 a6 a7).length=n):vs.length=n:=by
 obtain⟨a0,a1,a2,a3,a4,a5,a6,a7,rfl,_⟩:=h;exact k a0 a1 a2 a3 a4 a5 a6 a7
theorem Iz {A0 A1 A2 A3 A4 A5 A6 A7 A8 W:Type}{v:A0->A1->A2->A3->A4->A5->A6->A7->A8->List W}{p:A0->A1->A2->A3->A4->A5->A6->A7->A8->Prop}{vs:List W}{n:Nat}(h:∃ a0 a1 a2 a3 a4 a5 a6 a7 a8,vs=v a0 a1 a2 a3 a4 a5 a6 a7 a8/\p a0 a1 a2 a3 a4 a5 a6 a7 a8)(k:∀ a0 a1 a2 a3 a4 a5 a6 a7 a8,(v a0 a1 a2 a3 a4 a5 a6 a7 a8).length=n):vs.length=n:=by
 obtain⟨a0,a1,a2,a3,a4,a5,a6,a7,a8,rfl,_⟩:=h;exact k a0 a1 a2 a3 a4 a5 a6 a7 a8
theorem QU {A0 A1 A2 A3 A4 A5 A6 A7 A8 A9 W:Type}{v:A0->A1->A2->A3->A4->A5->A6->A7->A8->A9->List W}{p:A0->A1->A2->A3->A4->A5->A6->A7->A8->A9->Prop}{vs:List W}{n:Nat}(h:∃ a0 a1 a2 a3 a4 a5 a6 a7 a8 a9,vs=v a0 a1 a2 a3 a4 a5 a6 a7 a8 a9/\p a0 a1 a2 a3 a4 a5 a6 a7 a8 a9)(k:∀ a0 a1 a2 a3 a4 a5 a6 a7 a8 a9,(v a0 a1 a2 a3 a4 a5 a6 a7 a8 a9).length=n):vs.length=n:=by
 obtain⟨a0,a1,a2,a3,a4,a5,a6,a7,a8,a9,rfl,_⟩:=h;exact k a0 a1 a2 a3 a4 a5 a6 a7 a8 a9
theorem XU {A0 A1 A2 A3 A4 A5 A6 A7 A8 A9 A10 W:Type}{v:A0->A1->A2->A3->A4->A5->A6->A7->A8->A9->A10->List W}{p:A0->A1->A2->A3->A4->A5->A6->A7->A8->A9->A10->Prop}{vs:List W}{n:Nat}(h:∃ a0 a1 a2 a3 a4 a5 a6 a7 a8 a9 a10,vs=v a0 a1 a2 a3 a4 a5 a6 a7 a8 a9 a10/\p a0 a1 a2 a3 a4 a5 a6 a7 a8 a9 a10)(k:∀ a0 a1 a2 a3 a4 a5 a6 a7 a8 a9 a10,(v a0 a1 a2 a3 a4 a5 a6 a7 a8 a9 a10).length=n):vs.length=n:=by
 obtain⟨a0,a1,a2,a3,a4,a5,a6,a7,a8,a9,a10,rfl,_⟩:=h;exact k a0 a1 a2 a3 a4 a5 a6 a7 a8 a9 a10
theorem Ue {A0 A1 A2 A3 A4 A5 A6 A7 A8 A9 A10 A11 A12 W:Type}{v:A0->A1->A2->A3->A4->A5->A6->A7->A8->A9->A10->A11->A12->List W}{p:A0->A1->A2->A3->A4->A5->A6->A7->A8->A9->A10->A11->A12->Prop}{vs:List W}{n:Nat}(h:∃ a0 a1 a2 a3 a4 a5 a6 a7 a8 a9 a10 a11 a12,vs=v a0 a1 a2 a3 a4 a5 a6 a7 a8 a9 a10 a11 a12/\p a0 a1 a2 a3 a4 a5 a6 a7 a8 a9 a10 a11 a12)(k:∀ a0 a1 a2 a3 a4 a5 a6 a7 a8 a9 a10 a11 a12,(v a0 a1 a2 a3 a4 a5 a6 a7 a8 a9 a10 a11 a12).length=n):vs.length=n:=by
 obtain⟨a0,a1,a2,a3,a4,a5,a6,a7,a8,a9,a10,a11,a12,rfl,_⟩:=h;exact k a0 a1 a2 a3 a4 a5 a6 a7 a8 a9 a10 a11 a12
theorem bK {A0 A1 A2 A3 A4 A5 A6 A7 A8 A9 A10 A11 A12 A13 W:Type}{v:A0->A1->A2->A3->A4->A5->A6->A7->A8->A9->A10->A11->A12->A13->List W}{p:A0->A1->A2->A3->A4->A5->A6->A7->A8->A9->A10->A11->A12->A13->Prop}{vs:List W}{n:Nat}(h:∃ a0 a1 a2 a3 a4 a5 a6 a7 a8 a9 a10 a11 a12 a13,vs=v a0 a1 a2 a3 a4 a5 a6 a7 a8 a9 a10 a11 a12 a13/\p a0 a1 a2 a3 a4 a5 a6 a7 a8 a9 a10 a11 a12 a13)(k:∀ a0 a1 a2 a3 a4 a5 a6 a7 a8 a9 a10 a11 a12 a13,(v a0 a1 a2 a3 a4 a5 a6 a7 a8 a9 a10 a11 a12 a13).length=n):vs.length=n:=by
 obtain⟨a0,a1,a2,a3,a4,a5,a6,a7,a8,a9,a10,a11,a12,a13,rfl,_⟩:=h;exact k a0 a1 a2 a3 a4 a5 a6 a7 a8 a9 a10 a11 a12 a13
theorem b9 {A0 A1 A2 A3 A4 A5 A6 A7 A8 A9 A10 A11 A12 A13 A14 W:Type}{v:A0->A1->A2->A3->A4->A5->A6->A7->A8->A9->A10->A11->A12->A13->A14->List W}{p:A0->A1->A2->A3->A4->A5->A6->A7->A8->A9->A10->A11->A12->A13->A14->Prop}{vs:List W}{n:Nat}(h:∃ a0 a1 a2 a3 a4 a5 a6 a7 a8 a9 a10 a11 a12 a13 a14,vs=v a0 a1 a2 a3 a4 a5 a6 a7 a8 a9 a10 a11 a12 a13 a14/\p a0 a1 a2 a3 a4 a5 a6 a7 a8 a9 a10 a11 a12 a13 a14)(k:∀ a0 a1 a2 a3 a4 a5 a6 a7 a8 a9 a10 a11 a12 a13 a14,(v a0 a1 a2 a3 a4 a5 a6 a7 a8 a9 a10 a11 a12 a13 a14).length=n):vs.length=n:=by
 obtain⟨a0,a1,a2,a3,a4,a5,a6,a7,a8,a9,a10,a11,a12,a13,a14,rfl,_⟩:=h;exact k a0 a1 a2 a3 a4 a5 a6 a7 a8 a9 a10 a11 a12 a13 a14
theorem Ha {A0:Type}{p:A0->Prop}{L:Prop}(h:∃ a0,p a0)(k:∀ a0,p a0->L):L:=by
 obtain⟨a0,h⟩:=h;exact k a0 h
theorem HD {A0 A1:Type}{p:A0->A1->Prop}{L:Prop}(h:∃ a0 a1,p a0 a1)(k:∀ a0 a1,p a0 a1->L):L:=by
 obtain⟨a0,a1,h⟩:=h;exact k a0 a1 h
theorem HM {A0 A1 A2:Type}{p:A0->A1->A2->Prop}{L:Prop}(h:∃ a0 a1 a2,p a0 a1 a2)(k:∀ a0 a1 a2,p a0 a1 a2->L):L:=by
 obtain⟨a0,a1,a2,h⟩:=h;exact k a0 a1 a2 h
theorem KP {A0 A1 A2 A3:Type}{p:A0->A1->A2->A3->Prop}{L:Prop}(h:∃ a0 a1 a2 a3,p a0 a1 a2 a3)(k:∀ a0 a1 a2 a3,p a0 a1 a2 a3->L):L:=by
 obtain⟨a0,a1,a2,a3,h⟩:=h;exact k a0 a1 a2 a3 h
theorem DQ {A0 A1 A2 A3 A4:Type}{p:A0->A1->A2->A3->A4->Prop}{L:Prop}(h:∃ a0 a1 a2 a3 a4,p a0 a1 a2 a3 a4)(k:∀ a0 a1 a2 a3 a4,p a0 a1 a2 a3 a4->L):L:=by
 obtain⟨a0,a1,a2,a3,a4,h⟩:=h;exact k a0 a1 a2 a3 a4 h
theorem Df {A0 A1 A2 A3 A4 A5:Type}{p:A0->A1->A2->A3->A4->A5->Prop}{L:Prop}(h:∃ a0 a1 a2 a3 a4 a5,p a0 a1 a2 a3 a4 a5)(k:∀ a0 a1 a2 a3 a4 a5,p a0 a1 a2 a3 a4 a5->L):L:=by
 obtain⟨a0,a1,a2,a3,a4,a5,h⟩:=h;exact k a0 a1 a2 a3 a4 a5 h
theorem EY {A0 A1 A2 A3 A4 A5 A6:Type}{p:A0->A1->A2->A3->A4->A5->A6->Prop}{L:Prop}(h:∃ a0 a1 a2 a3 a4 a5 a6,p a0 a1 a2 a3 a4 a5 a6)(k:∀ a0 a1 a2 a3 a4 a5 a6,p a0 a1 a2 a3 a4 a5 a6->L):L:=by
 obtain⟨a0,a1,a2,a3,a4,a5,a6,h⟩:=h;exact k a0 a1 a2 a3 a4 a5 a6 h
theorem R6 {A0 A1 A2 A3 A4 A5 A6 A7:Type}{p:A0->A1->A2->A3->A4->A5->A6->A7->Prop}{L:Prop}(h:∃ a0 a1 a2 a3 a4 a5 a6 a7,p a0 a1 a2 a3 a4 a5 a6 a7)(k:∀ a0 a1 a2 a3 a4 a5 a6 a7,p a0 a1 a2 a3 a4 a5 a6 a7->L):L:=by
 obtain⟨a0,a1,a2,a3,a4,a5,a6,a7,h⟩:=h;exact k a0 a1 a2 a3 a4 a5 a6 a7 h
theorem Ig {A0 A1 A2 A3 A4 A5 A6 A7 A8:Type}{p:A0->A1->A2->A3->A4->A5->A6->A7->A8->Prop}{L:Prop}(h:∃ a0 a1 a2 a3 a4 a5 a6 a7 a8,p a0 a1 a2 a3 a4 a5 a6 a7 a8)(k:∀ a0 a1 a2 a3 a4 a5 a6 a7 a8,p a0 a1 a2 a3 a4 a5 a6 a7 a8->L):L:=by
 obtain⟨a0,a1,a2,a3,a4,a5,a6,a7,a8,h⟩:=h;exact k a0 a1 a2 a3 a4 a5 a6 a7 a8 h
theorem OZ {A0 A1 A2 A3 A4 A5 A6 A7 A8 A9:Type}{p:A0->A1->A2->A3->A4->A5->A6->A7->A8->A9->Prop}{L:Prop}(h:∃ a0 a1 a2 a3 a4 a5 a6 a7 a8 a9,p a0 a1 a2 a3 a4 a5 a6 a7 a8 a9)(k:∀ a0 a1 a2 a3 a4 a5 a6 a7 a8 a9,p a0 a1 a2 a3 a4 a5 a6 a7 a8 a9->L):L:=by
 obtain⟨a0,a1,a2,a3,a4,a5,a6,a7,a8,a9,h⟩:=h;exact k a0 a1 a2 a3 a4 a5 a6 a7 a8 a9 h
theorem ZO {A0 A1 A2 A3 A4 A5 A6 A7 A8 A9 A10:Type}{p:A0->A1->A2->A3->A4->A5->A6->A7->A8->A9->A10->Prop}{L:Prop}(h:∃ a0 a1 a2 a3 a4 a5 a6 a7 a8 a9 a10,p a0 a1 a2 a3 a4 a5 a6 a7 a8 a9 a10)(k:∀ a0 a1 a2 a3 a4 a5 a6 a7 a8 a9 a10,p a0 a1 a2 a3 a4 a5 a6 a7 a8 a9 a10->L):L:=by
 obtain⟨a0,a1,a2,a3,a4,a5,a6,a7,a8,a9,a10,h⟩:=h;exact k a0 a1 a2 a3 a4 a5 a6 a7 a8 a9 a10 h
theorem TX {A0 A1 A2 A3 A4 A5 A6 A7 A8 A9 A10 A11 A12:Type}{p:A0->A1->A2->A3->A4->A5->A6->A7->A8->A9->A10->A11->A12->Prop}{L:Prop}(h:∃ a0 a1 a2 a3 a4 a5 a6 a7 a8 a9 a10 a11 a12,p a0 a1 a2 a3 a4 a5 a6 a7 a8 a9 a10 a11 a12)(k:∀ a0 a1 a2 a3 a4 a5 a6 a7 a8 a9 a10 a11 a12,p a0 a1 a2 a3 a4 a5 a6 a7 a8 a9 a10 a11 a12->L):L:=by
 obtain⟨a0,a1,a2,a3,a4,a5,a6,a7,a8,a9,a10,a11,a12,h⟩:=h;exact k a0 a1 a2 a3 a4 a5 a6 a7 a8 a9 a10 a11 a12 h
theorem gH {A0 A1 A2 A3 A4 A5 A6 A7 A8 A9 A10 A11 A12 A13:Type}{p:A0->A1->A2->A3->A4->A5->A6->A7->A8->A9->A10->A11->A12->A13->Prop}{L:Prop}(h:∃ a0 a1 a2 a3 a4 a5 a6 a7 a8 a9 a10 a11 a12 a13,p a0 a1 a2 a3 a4 a5 a6 a7 a8 a9 a10 a11 a12 a13)(k:∀ a0 a1 a2 a3 a4 a5 a6 a7 a8 a9 a10 a11 a12 a13,p a0 a1 a2 a3 a4 a5 a6 a7 a8 a9 a10 a11 a12 a13->L):L:=by
 obtain⟨a0,a1,a2,a3,a4,a5,a6,a7,a8,a9,a10,a11,a12,a13,h⟩:=h;exact k a0 a1 a2 a3 a4 a5 a6 a7 a8 a9 a10 a11 a12 a13 h
theorem dD {A0 A1 A2 A3 A4 A5 A6 A7 A8 A9 A10 A11 A12 A13 A14:Type}{p:A0->A1->A2->A3->A4->A5->A6->A7->A8->A9->A10->A11->A12->A13->A14->Prop}{L:Prop}(h:∃ a0 a1 a2 a3 a4 a5 a6 a7 a8 a9 a10 a11 a12 a13 a14,p a0 a1 a2 a3 a4 a5 a6 a7 a8 a9 a10 a11 a12 a13 a14)(k:∀ a0 a1 a2 a3 a4 a5 a6 a7 a8 a9 a10 a11 a12 a13 a14,p a0 a1 a2 a3 a4 a5 a6 a7 a8 a9 a10 a11 a12 a13 a14->L):L:=by
 obtain⟨a0,a1,a2,a3,a4,a5,a6,a7,a8,a9,a10,a11,a12,a13,a14,h⟩:=h;exact k a0 a1 a2 a3 a4 a5 a6 a7 a8 a9 a10 a11 a12 a13 a14 h
theorem Ez {A0 A1 A2 L:Prop}(h:A0/\A1/\A2)(k:A0->A1->A2->L):L:=by
 obtain⟨a0,a1,a2⟩:=h;exact k a0 a1 a2
theorem Ej {A0 A1 A2 A3 L:Prop}(h:A0/\A1/\A2/\A3)(k:A0->A1->A2->A3->L):L:=by
 obtain⟨a0,a1,a2,a3⟩:=h;exact k a0 a1 a2 a3
theorem G6 {A0 A1 A2 A3 A4 L:Prop}(h:A0/\A1/\A2/\A3/\A4)(k:A0->A1->A2->A3->A4->L):L:=by
 obtain⟨a0,a1,a2,a3,a4⟩:=h;exact k a0 a1 a2 a3 a4
theorem G9 {A0 A1 A2 A3 A4 A5 L:Prop}(h:A0/\A1/\A2/\A3/\A4/\A5)(k:A0->A1->A2->A3->A4->A5->L):L:=by
 obtain⟨a0,a1,a2,a3,a4,a5⟩:=h;exact k a0 a1 a2 a3 a4 a5
theorem Ey {A0 A1 A2 A3 A4 A5 A6 L:Prop}(h:A0/\A1/\A2/\A3/\A4/\A5/\A6)(k:A0->A1->A2->A3->A4->A5->A6->L):L:=by
 obtain⟨a0,a1,a2,a3,a4,a5,a6⟩:=h;exact k a0 a1 a2 a3 a4 a5 a6
theorem E6 {A0 A1 A2 A3 A4 A5 A6 A7 L:Prop}(h:A0/\A1/\A2/\A3/\A4/\A5/\A6/\A7)(k:A0->A1->A2->A3->A4->A5->A6->A7->L):L:=by
 obtain⟨a0,a1,a2,a3,a4,a5,a6,a7⟩:=h;exact k a0 a1 a2 a3 a4 a5 a6 a7
theorem Qz {A0 A1 A2 A3 A4 A5 A6 A7 A8 L:Prop}(h:A0/\A1/\A2/\A3/\A4/\A5/\A6/\A7/\A8)(k:A0->A1->A2->A3->A4->A5->A6->A7->A8->L):L:=by
 obtain⟨a0,a1,a2,a3,a4,a5,a6,a7,a8⟩:=h;exact k a0 a1 a2 a3 a4 a5 a6 a7 a8
theorem bL {A0 A1 A2 A3 A4 A5 A6 A7 A8 A9 L:Prop}(h:A0/\A1/\A2/\A3/\A4/\A5/\A6/\A7/\A8/\A9)(k:A0->A1->A2->A3->A4->A5->A6->A7->A8->A9->L):L:=by
 obtain⟨a0,a1,a2,a3,a4,a5,a6,a7,a8,a9⟩:=h;exact k a0 a1 a2 a3 a4 a5 a6 a7 a8 a9
theorem Gw {A0 A1 A2 A3 A4 A5 A6 A7 A8 A9 A10 L:Prop}(h:A0/\A1/\A2/\A3/\A4/\A5/\A6/\A7/\A8/\A9/\A10)(k:A0->A1->A2->A3->A4->A5->A6->A7->A8->A9->A10->L):L:=by
 obtain⟨a0,a1,a2,a3,a4,a5,a6,a7,a8,a9,a10⟩:=h;exact k a0 a1 a2 a3 a4 a5 a6 a7 a8 a9 a10
theorem WD {A0 A1 A2 A3 A4 A5 A6 A7 A8 A9 A10 A11 A12 L:Prop}(h:A0/\A1/\A2/\A3/\A4/\A5/\A6/\A7/\A8/\A9/\A10/\A11/\A12)(k:A0->A1->A2->A3->A4->A5->A6->A7->A8->A9->A10->A11->A12->L):L:=by
 obtain⟨a0,a1,a2,a3,a4,a5,a6,a7,a8,a9,a10,a11,a12⟩:=h;exact k a0 a1 a2 a3 a4 a5 a6 a7 a8 a9 a10 a11 a12
theorem Aa {A:Type}{q p:A->Prop}{x:A}(e:q x)(h:p x):∃ u,q u/\p u:=⟨x,e,h⟩
namespace HT
open PySem PyProof.Rows
section
open PySem.SeqAt
open PySem.AutoSeq1 (wpAny_loadPart')
open PySem.MeetsSeq PySem.MeetsSeq2 PySem.MeetsSeq3
end
section
variable {prog:Program}{w:World}{A:Around}{E:Value->Shared->Prop}{s:Shared}
theorem cat_tup {t b:Addr}{vs ws:List Value}{Q:Value->Shared->Prop}(ht:IsTup s.heap t vs.toArray)(hb:IsTup s.heap b ws.toArray)(hv:vs≠[])
 (h1:ws=[]->Q (.ref t) s)(h2:ws≠[]->Q (.ref s.heap.objs.size) { s with heap:=s.heap.push { cls:=.type "tuple",data:=.seq (vs++ws).toArray } })
 (hsz:vs.length+ws.length<=sizeLine):wpAny (model prog w) A (binaryOp .Add (.ref t) (.ref b)) Q E s:=by
 obtain⟨⟨cls,dd,data,sl⟩,ho,hc,n,hd⟩:=id ht;obtain⟨⟨cls2,dd2,data2,Cd⟩,ho2,hc2,n2,hd2⟩:=id hb;simp only at hc hd hc2 hd2;subst hc hd hc2 hd2;have e:vs.toArray++ws.toArray=(vs++ws).toArray:=by simp
 by_cases hw:ws=[]
 . exact concat_meets ⟨_,ho,U⟩ ⟨_,ho2,U⟩ noFill_tuple_add seq_tuple_add PySem.F.slot_tuple_add PySem.F.entry_tuple_add (PySem.F.args_tuple_add_2 _ _)
    (tuple_addW1 t b vs.toArray ws.toArray n n2 dd dd2 sl Cd (by simpa using hv) (by simp[hw])) ⟨ho,ho2,h1 hw⟩
 . refine concat_meets ⟨_,ho,U⟩ ⟨_,ho2,U⟩ noFill_tuple_add seq_tuple_add PySem.F.slot_tuple_add PySem.F.entry_tuple_add (PySem.F.args_tuple_add_2 _ _)
    (tuple_addW2 t b vs.toArray ws.toArray n n2 dd dd2 sl Cd (by simpa using hv) (by simpa using hw) (by rw[List.size_toArray,List.size_toArray];exact hsz)) ⟨ho,ho2,?_⟩
   rw[e];exact h2 hw
noncomputable def sIx (n d:Nat):Option Int->Nat
 | none=>d
 | some v=>if v<0 then(v+(n:Int)).toNat else min v.toNat n
theorem sIx_none (n d:Nat):sIx n d none=d:=rfl
theorem sIx_nat (n d k:Nat):sIx n d (some (k:Int))=min k n:=by
 show(if (k:Int)<0 then((k:Int)+(n:Int)).toNat else min (k:Int).toNat n)=min k n;rw[if_neg om,Int.toNat_natCast]
theorem Yv (n d:Nat)(hd:d<=n)(o:Option Int):sIx n d o<=n:=by
 cases o with
 | none=>exact hd
 | some v=>
  show(if v<0 then(v+(n:Int)).toNat else min v.toNat n)<=n;by_cases hv:v<0
  . rw[if_pos hv];exact om
  . rw[if_neg hv];exact Nat.min_le_right _ _
theorem Uu (v:Int)(n d:Nat):(if v<0 then max (v+(n:Int)) 0 else min v (n:Int))=((sIx n d (some v):Nat):Int):=by
 show(if v<0 then max (v+(n:Int)) 0 else min v (n:Int))=(((if v<0 then(v+(n:Int)).toNat else min v.toNat n):Nat):Int);by_cases hv:v<0
 . simp only[if_pos hv];exact om
 . simp only[if_neg hv];exact om
theorem YT (lo hi:Option Int)(n:Nat):Builtin.Slice.sliceAdjust lo hi 1 (n:Int)=(((sIx n 0 lo:Nat):Int),((sIx n n hi:Nat):Int)):=by
 have h1:¬ ((1:Int)<0):=by exact om
 unfold Builtin.Slice.sliceAdjust;simp only[h1,if_false];refine Prod.ext ?_ ?_
 . cases lo with
   | none=>rfl
   | some v=>exact Uu v n 0
 . cases hi with
   | none=>rfl
   | some v=>exact Uu v n n
theorem Z3 (i j:Nat):Builtin.Slice.slicePlaces (i:Int) (j:Int) 1=j - i:=by
 unfold Builtin.Slice.slicePlaces;have h1:(1:Int) > 0:=by exact om
 simp only[h1,if_true,Int.ediv_one];split <;> exact om
theorem V8 {v:Value}{o:Option Int}{Q:Option Int->Shared->Prop}(p:IsPart v o)(h:Q o s):wpAny (model prog w) A (Builtin.Slice.slicePartIndex v) Q E s:=by
 cases p with
 | none=>exact slicePart_none h
 | int i t=>exact slicePart_int h
theorem ZY {sl:Addr}{vl vu:Value}{lo hi:Option Int}{n:Nat}{Q:Int×Int×Nat->Shared->Prop}(hs:s.heap.IsSliceOf sl vl vu .none)(pl:IsPart vl lo)(pu:IsPart vu hi)
 (h:Q (((sIx n 0 lo:Nat):Int),1,sIx n n hi - sIx n 0 lo) s):wpAny (model prog w) A (Builtin.Slice.sliceApplied (.ref sl) (pure (n:Int))) Q E s:=by
 obtain⟨os,hos,hcs,hds⟩:=id hs;unfold Builtin.Slice.sliceApplied Builtin.Slice.sliceFields;refine wpAny_bind (wpAny_bind (wpAny_field hos hds (x:=vl) rfl (wpAny_bind (wpAny_field hos hds (x:=vu) rfl (wpAny_bind (wpAny_field hos hds (x:=.none) rfl (wpAny_pure ?_)))))));refine wpAny_bind (slicePart_none ?_);show wpAny _ _ (if ((1:Int) == 0)=true then _ else _) _ _ s;rw[if_neg (by decide)];refine wpAny_bind (V8 pl (wpAny_bind (V8 pu (wpAny_bind (wpAny_pure ?_)))));show wpAny _ _ (match Builtin.Slice.sliceAdjust lo hi 1 (n:Int) with | (lo,hi)=>pure (lo,(1:Int),Builtin.Slice.slicePlaces lo hi 1)) _ _ s;rw[YT lo hi n];show wpAny _ _ (pure (((sIx n 0 lo:Nat):Int),(1:Int),Builtin.Slice.slicePlaces ((sIx n 0 lo:Nat):Int) ((sIx n n hi:Nat):Int) 1)) _ _ s;rw[Z3];exact wpAny_pure h
theorem eV (xs:Array Value)(i k:Nat):((List.range k).filterMap fun(m:Nat)=>xs[((i:Int)+(m:Int) * 1).toNat]?).toArray=((xs.toList.drop i).take k).toArray:=by
 have e:(fun(m:Nat)=>xs[((i:Int)+(m:Int) * 1).toNat]?)=fun m=>xs[i+m]?:=by
  funext m
  have:((i:Int)+(m:Int) * 1).toNat=i+m:=by exact om
  rw[this]
 rw[e];have:=pick_run xs i k;rw[List.filterMap_map] at this;have e2:((fun x=>xs[x]?) ∘ fun x=>i+x)=fun m=>xs[i+m]?:=rfl;rw[e2] at this;rw[this]
theorem getItem_tuple_cut {t sl:Addr}{items:Array Value}{vl vu:Value}{lo hi:Option Int}{Q:Value->Shared->Prop}(ht:IsTup s.heap t items)(hs:s.heap.IsSliceOf sl vl vu .none)(pl:IsPart vl lo)(pu:IsPart vu hi)
 (hw:¬ (sIx items.size 0 lo=0/\sIx items.size items.size hi=items.size))
 (h:Q (.ref s.heap.objs.size) { s with heap:=s.heap.push { cls:=.type "tuple",data:=.seq ((items.toList.drop (sIx items.size 0 lo)).take (sIx items.size items.size hi - sIx items.size 0 lo)).toArray } })
 (hsz:items.size<=sizeLine):wpAny (model prog w) A (getItem (.ref t) (.ref sl)) Q E s:=by
 have htake:sizeOk (.seq ((items.toList.drop (sIx items.size 0 lo)).take (sIx items.size items.size hi - sIx items.size 0 lo)).toArray):=by
  show((items.toList.drop (sIx items.size 0 lo)).take (sIx items.size items.size hi - sIx items.size 0 lo)).toArray.size<=sizeLine;rw[List.size_toArray,List.length_take,List.length_drop,Array.length_toList];exact om
 have hj:sIx items.size items.size hi<=items.size:=Yv _ _ (Nat.le_refl _) hi;obtain⟨os,hos,hcs,hds⟩:=id hs;have hTs:s.TypeIs (.ref sl) "slice":=⟨os,hos,hcs⟩
 unfold getItem
 try with_reducible refine wpAny_holding ?_
 first | refine wpAny_bind (wpAny_pure ?_) | skip
 refine wpAny_bind (wpAny_sequenceKey ht.typeIs (by decide) ?_);refine wpAny_bind (wpAny_callSpecial?_slot (name:=Str.ofString "__getitem__") ht.typeIs PyProof.Rows.slot_tuple_getitem
  (wpAny_call_entry PyProof.Rows.slot_tuple_getitem ht.typeIs entry_tuple_getitem ?_ (args_tuple_getitem _ _)))
 show wpAny _ _ (Builtin.Tuple.tupleItemsOf (.ref t) >>= _) _ _ s;refine wpAny_bind (tupleItemsOf_ ht ?_);refine wpAny_bind (wpAny_typeOf hTs ?_);rw[if_pos (by decide)];refine wpAny_bind (ZY hs pl pu ?_);have hno:¬ ((((sIx items.size 0 lo:Nat):Int) == 0 && (1:Int) == 1 && (sIx items.size items.size hi - sIx items.size 0 lo) == items.size)=true):=by
  intro q;rw[Bool.and_eq_true,Bool.and_eq_true] at q;have q1:((sIx items.size 0 lo:Nat):Int)=0:=eq_of_beq q.1.1;have q2:sIx items.size items.size hi - sIx items.size 0 lo=items.size:=eq_of_beq q.2;exact hw ⟨om,om⟩
 show wpAny _ _ (if (((sIx items.size 0 lo:Nat):Int) == 0 && (1:Int) == 1 && (sIx items.size items.size hi - sIx items.size 0 lo) == items.size)=true then _ else _) _ _ s;rw[if_neg hno,eV]
 first
  | exact wpAny_bind (m:=Builtin.Tuple.tupleExact _) (wpAny_newObj_type (wpAny_pure ⟨_,rfl,wpAny_pure h⟩) htake)
  | exact wpAny_bind (m:=Builtin.Tuple.tupleExact _) (wpAny_newObj_type (wpAny_bind (wpAny_pure (wpAny_pure ⟨_,rfl,wpAny_pure h⟩))) htake)
  | exact wpAny_bind (wpAny_bind (m:=Builtin.Tuple.tupleExact _) (wpAny_newObj_type (wpAny_pure (wpAny_pure ⟨_,rfl,wpAny_pure h⟩)) htake))
  | exact wpAny_bind (wpAny_bind (m:=Builtin.Tuple.tupleExact _) (wpAny_newObj_type (wpAny_pure ⟨_,rfl,wpAny_pure h⟩) htake))
end
end HT
namespace Att
open PySem PySem.W PySem.Calls PyProof.Rows
theorem dw {P:Params}{h:Heap}:∀ (ns:List Int)(vs:List Value),WellAll P h vs (ns.map WData.int)->IntsAre vs ns:=by
 intro ns
 induction ns with
 | nil=>
  intro vs w;rw[List.map_nil] at w;cases w
  exact .nil
 | cons n ns ih=>
  intro vs w;rw[List.map_cons] at w;cases w with
  | cons a b=>
   cases a
   exact .cons _ _ (ih _ b)
theorem Y1 {l:OpenLaw}{n:Nat}(hn:l.most=some n){P:Params}{h:Heap}{args:List WData}{vals:List Value}
 (hpre:l.row.toRowW.claim.pre args=true)(hwl:WellAll P h vals args) :
 ∃ a vs ns,vals=[Value.ref a]/\args=[WData.list (ns.map WData.int)]/\h.get? a=some { cls:=.type "list",data:=.seq vs.toArray }/\IntsAre vs ns/\ns.length<=n:=by
 have hsh:WShape.hasAll [] args [.list .int]=true:=(pre_splitW hpre).1;have hc:l.pre.holds [] { args:=args }=true:=(pre_splitW hpre).2;obtain⟨d,r,rfl,h1,h2⟩:=hasAllW_cons hsh;obtain rfl:=hasAllW_nil h2;obtain⟨xs,rfl,h3⟩:=hasW_list h1;obtain⟨ns,rfl⟩:=items_int h3;have ah:ns.length<=n:=by
  unfold OpenLaw.pre at hc;have h4:(WTm.not (.lt (.lit (.int (n:Int))) (.len (.arg 0)))).holds [] { args:=[.list (ns.map .int)] }=true:=by
   have h4:=(holds_andW hc).1;rw[hn] at h4;exact h4
  have h5:=condW_of h4 (w_not (w_lt w_lit (w_len_list (w_arg rfl))));rw[List.length_map] at h5;refine Nat.le_of_not_lt fun q=>?_;have q':(n:Int)<((ns.length:Nat):Int):=by exact om
  first
   | (rw[decide_eq_true q'] at h5;exact absurd h5 (by decide))
   | (simp at h5;exact om)
 cases hwl with
 | cons w1 w2=>
  cases w2
  cases w1 with
  | list ho hall=>exact⟨_,_,ns,U,U,ho,dw ns _ hall,ah⟩
theorem dI (l:OpenLaw)(args:List WData):l.row.toRowW.claim.post args (.bool true) args=true:=
 postW_of (r:=l.row.toRowW) (X:=(true == true))
  (show WShape.has [] (.bool true) .bool=true by first | rfl | decide | simp[WShape.has,WShape.arms,WShape.armsAll])
  (show(WTm.eq .res (.lit (.bool true))).value [] { args:=args,res:=some (.bool true),after:=args }=some (.bool (true == true)) from w_eq_bool (w_res rfl) w_lit) rfl
theorem attach_call {l:OpenLaw}{n:Nat}{q:Program}{loose:List Str}{XP:(Str->Option Value)->Heap->Prop}{YP:World->Heap->Prop}{d:DefRec}
 (hn:l.most=some n)(hdf:d.params.defaults=[])
 (call:∀ (w:World)(s₀ s₁:Shared)(mg mb:Str->Option Value)(fa:Addr)(o:Obj)(pm cd doc:Value)(a:Addr)(vs:List Value)(ns:List Int),
  Ground q loose [] XP w s₀ mg mb s₁.heap->YP w s₁.heap->
  s₁.heap.get? fa=some o->o.data = .func (docDef d.name d.params d.body d.scope pm cd doc)->s₁.heap.CodeRec cd d.name->mg d.name=some (.ref fa)->
  s₁.heap.get? a=some { cls:=.type "list",data:=.seq vs.toArray }->IntsAre vs ns->ns.length<=n->s₁.gens = #[]->
  codeAny (model l.prog w) callerA (.call (.ref fa) ⟨[.ref a],[]⟩) (fun r s'=>r = .ok (.ret (.bool true))/\OldK s₁.heap s'.heap/\s'.os=s₁.os/\AllBare s'.gens) s₁) :
 WalkO q loose XP YP l.row.toRowW d [] (fun f vs=>PySem.call f vs):=by
 intro w s₀ s₁ mg mb G Y fa o pm cd doc dV kV ho hd hcd hD hmg hg args vals as hpre hlay hrd hwl hlo;obtain rfl:dV = .none:=Dflts.none hD hdf;obtain rfl:kV = .none:=Dflts.noKw hD;obtain⟨a,vs,ns,rfl,rfl,hobj,hints,ah⟩:=Y1 hn hpre hwl;refine enter_call (codeAny_mono (call w s₀ s₁ mg mb fa o pm cd doc a vs ns G Y ho (fd_plain hd) hcd hmg hobj hints ah hg) fun r s' hq=>?_);obtain⟨rfl,h2,h3,h4⟩:=hq;exact⟨.inl ⟨.bool true,.bool true,[],U,fun _=>rfl,.bool true,dI l _,fun _=>⟨List.Pairwise.nil,fun _ hm=>(nomatch hm)⟩⟩,h2,h3,h4⟩
section
variable {prog:Program}{w:World}{A:Around}{E:Value->Shared->Prop}{s:Shared}{K:Frag}
noncomputable def gf (h:Heap) (L d:Addr):List (Addr×Obj):=(List.range h.objs.size).filterMap fun a=>if a=L\/a=d then none else(h.get? a).map fun o=>(a,o)
end
end Att
namespace Gb
noncomputable def spl (n:Nat):Nat:=2 ^ Nat.log2 (n - 1)
theorem spl_pos (n:Nat):1<=spl n:=Nat.one_le_two_pow
theorem spl_lt {n:Nat}(h:2<=n):spl n<n:=by
 have:=Nat.log2_self_le (n:=n - 1) om;unfold spl;exact om
theorem spl_ge {n:Nat}(h:2<=n):n<=2 * spl n:=by
 have:=Nat.lt_log2_self (n:=n - 1);unfold spl;rw[Nat.pow_succ] at this;exact om
theorem spl_unique {n j:Nat}(h1:2 ^ j<n)(h2:n<=2 * 2 ^ j):2 ^ j=spl n:=by
 unfold spl;have hp:1<=2 ^ j:=Nat.one_le_two_pow;have e:Nat.log2 (n - 1)=j:=(Nat.log2_eq_iff om).mpr ⟨om,by rw[Nat.pow_succ];exact om⟩;rw[e]
section
variable {α:Type}(nl:α)(pr:α->α->α)
noncomputable def topT (ts:List α):α:=
 if h:ts.length<2 then ts.headD nl
 else pr (topT (ts.take (spl ts.length))) (topT (ts.drop (spl ts.length)))
termination_by ts.length
decreasing_by
 . have:=spl_lt (n:=ts.length) om;simp;exact om
 . have:=spl_pos ts.length;simp;exact om
theorem topT_nil:topT nl pr []=nl:=by unfold topT;rfl
theorem topT_one (t:α):topT nl pr [t]=t:=by unfold topT;rfl
theorem topT_more {ts:List α}(h:2<=ts.length):topT nl pr ts=pr (topT nl pr (ts.take (spl ts.length))) (topT nl pr (ts.drop (spl ts.length))):=by
 rw[topT,dif_neg om]
noncomputable def pathT (ts:List α):Nat->List α:=
 if h:ts.length<2 then fun _=>[]
 else fun place=>if place<spl ts.length then pathT (ts.take (spl ts.length)) place++[topT nl pr (ts.drop (spl ts.length))]
 else pathT (ts.drop (spl ts.length)) (place - spl ts.length)++[topT nl pr (ts.take (spl ts.length))]
termination_by ts.length
decreasing_by
 . have:=spl_lt (n:=ts.length) om;simp;exact om
 . have:=spl_pos ts.length;simp;exact om
theorem pathT_few {ts:List α}{place:Nat}(h:ts.length<2):pathT nl pr ts place=[]:=by rw[pathT,dif_pos h]
theorem pathT_low {ts:List α}{place:Nat}(h:2<=ts.length)(h2:place<spl ts.length):pathT nl pr ts place=pathT nl pr (ts.take (spl ts.length)) place++[topT nl pr (ts.drop (spl ts.length))]:=by
 rw[pathT,dif_neg om];exact if_pos h2
theorem pathT_high {ts:List α}{place:Nat}(h:2<=ts.length)(h2:¬ place<spl ts.length):pathT nl pr ts place=pathT nl pr (ts.drop (spl ts.length)) (place - spl ts.length)++[topT nl pr (ts.take (spl ts.length))]:=by
 rw[pathT,dif_neg om];exact if_neg h2
end
end Gb
namespace Gb
section
variable {α:Type}(nl:α)(pr:α->α->α)
noncomputable def hp (n:Nat):Nat:=2 ^ Nat.log2 n
noncomputable def fr:List α->α
 | []=>nl
 | [x]=>x
 | x :: y :: r=>pr x (fr (y :: r))
end
end Gb
namespace Gb
section
variable {α:Type}(nl:α)(pr:α->α->α)
noncomputable def turnsT (n p:Nat):List Bool:=
 if h:n<2 then [] else if p<spl n then true :: turnsT (spl n) p else false :: turnsT (n - spl n) (p - spl n)
termination_by n
decreasing_by
 . exact spl_lt om
 . have:=spl_pos n;exact om
theorem turnsT_few {n p:Nat}(h:n<2):turnsT n p=[]:=by rw[turnsT,dif_pos h]
theorem turnsT_low {n p:Nat}(h:2<=n)(h2:p<spl n):turnsT n p=true :: turnsT (spl n) p:=by rw[turnsT,dif_neg om,if_pos h2]
theorem turnsT_high {n p:Nat}(h:2<=n)(h2:¬ p<spl n):turnsT n p=false :: turnsT (n - spl n) (p - spl n):=by rw[turnsT,dif_neg om,if_neg h2]
noncomputable def rise:List Bool->List α->α->α
 | u :: us,o :: os,x=>rise us os (if u then pr x o else pr o x)
 | _,_,x=>x
theorem Mu:∀ {us:List Bool}{os:List α}{u:Bool}{o x:α},us.length=os.length->rise pr (us++[u]) (os++[o]) x=if u then pr (rise pr us os x) o else pr o (rise pr us os x)
 | [],[],u,o,x,_=>rfl
 | v :: us,p :: os,u,o,x,h=>by
  show rise pr (us++[u]) (os++[o]) _=_;rw[Mu (by simpa using h)]
  rfl
theorem path_turns:∀ (n:Nat)(ts:List α)(p:Nat),ts.length=n->p<n->(pathT nl pr ts p).length=(turnsT n p).length/\∀ x,ts[p]? = some x->rise pr (turnsT n p).reverse (pathT nl pr ts p) x=topT nl pr ts:=by
 intro n
 induction n using Nat.strongRecOn with
 | ind n ih=>
  intro ts p hn hp;by_cases h:n<2
  . rw[pathT_few nl pr om,turnsT_few h];refine⟨U,fun x hx=>?_⟩;have h1:n=1:=by exact om
    subst h1;obtain⟨t,rfl⟩:=List.length_eq_one_iff.mp hn;have:p=0:=by exact om
    subst this;simp at hx;rw[topT_one,<- hx];rfl
  . have h2:2<=ts.length:=by exact om
    have a1:=spl_lt h2;have a2:=spl_pos ts.length;by_cases hq:p<spl n
    . have hq':p<spl ts.length:=by rw[hn];exact hq
      rw[pathT_low nl pr h2 hq',turnsT_low om hq,topT_more nl pr h2];obtain⟨i1,i2⟩:=ih (spl n) (by rw[<- hn];exact a1) (ts.take (spl ts.length)) p (by simp;rw[hn];rw[hn] at a1;exact om) hq;refine⟨by simp[i1],fun x hx=>?_⟩;rw[List.reverse_cons,Mu pr (by simp[i1])];rw[i2 x (by rw[List.getElem?_take_of_lt hq'];exact hx)]
      rfl
    . have hq':¬ p<spl ts.length:=by rw[hn];exact hq
      rw[pathT_high nl pr h2 hq',turnsT_high om hq,topT_more nl pr h2];have e1:(ts.drop (spl ts.length)).length=n - spl n:=by simp;rw[hn]
      have b2:1<=spl n:=spl_pos n;have b1:spl n<n:=spl_lt om;obtain⟨i1,i2⟩:=ih (n - spl n) om (ts.drop (spl ts.length)) (p - spl ts.length) e1 (by rw[hn];exact om);rw[hn] at i1 i2 ⊢;refine⟨by simp[i1],fun x hx=>?_⟩;rw[List.reverse_cons,Mu pr (by simp[i1])];rw[i2 x (by rw[List.getElem?_drop,show spl n+(p - spl n)=p by exact om];exact hx)]
      rfl
theorem turns_len:∀ (j n p:Nat),n<=2 ^ j->(turnsT n p).length<=j
 | j,n,p,h=>by
  by_cases h2:n<2
  . rw[turnsT_few h2];simp
  match j,h with
  | 0,h=>simp at h;exact om
  | j+1,h=>
   have a1:=spl_lt (n:=n) om;have a2:=spl_ge (n:=n) om;have c:spl n<=2 ^ j:=by
    unfold spl;refine Nat.pow_le_pow_right om ?_;have:2 ^ Nat.log2 (n - 1)<2 ^ (j+1):=Nat.lt_of_lt_of_le (spl_lt om) h;have:=(Nat.pow_lt_pow_iff_right (by exact om:1<2)).mp this;exact om
   by_cases h3:p<spl n
   . rw[turnsT_low om h3];have:=turns_len j (spl n) p c;simp;exact om
   . rw[turnsT_high om h3];have:=turns_len j (n - spl n) (p - spl n) om;simp;exact om
theorem rise_take {us:List Bool}{os:List α}{i:Nat}{u:Bool}{o x:α}(hl:us.length=os.length)(hu:us[i]? = some u)(ho:os[i]? = some o) :
 rise pr (us.take (i+1)) (os.take (i+1)) x=if u then pr (rise pr (us.take i) (os.take i) x) o else pr o (rise pr (us.take i) (os.take i) x):=by
 have e1:us.take (i+1)=us.take i++[u]:=by rw[List.take_add_one,hu];rfl
 have e2:os.take (i+1)=os.take i++[o]:=by rw[List.take_add_one,ho];rfl
 rw[e1,e2,Mu pr (by simp[hl])]
end
end Gb
namespace Gb
section
variable {α:Type}(pr:α->α->α)
theorem rise_inj (inj:∀ a b c d,pr a b=pr c d->a=c/\b=d):∀ {us:List Bool}{os os':List α}{x x':α},us.length=os.length->us.length=os'.length->rise pr us os x=rise pr us os' x'->os=os'/\x=x'
 | [],[],[],x,x',_,_,h=>⟨U,h⟩
 | u :: us,o :: os,o' :: os',x,x',h1,h2,h=>by
  have h:rise pr us os (if u then pr x o else pr o x)=rise pr us os' (if u then pr x' o' else pr o' x'):=h;obtain⟨e1,e2⟩:=rise_inj inj (by simpa using h1) (by simpa using h2) h;cases u with
  | true=>
   obtain⟨a,b⟩:=inj _ _ _ _ e2;exact⟨by rw[e1,b],a⟩
  | false=>
   obtain⟨a,b⟩:=inj _ _ _ _ e2;exact⟨by rw[e1,a],b⟩
end
end Gb
namespace Gb
section
variable {α:Type}(nl:α)(pr:α->α->α)
def Sub (ts sub:List α):Prop:=sub.length<=ts.length/\∀ x∈sub,x∈ts
theorem Sub.trans {a b c:List α}(h:Sub a b)(h':Sub b c):Sub a c:=⟨Nat.le_trans h'.1 h.1,fun x hx=>h.2 x (h'.2 x hx)⟩
theorem Sub.take (ts:List α)(k:Nat):Sub ts (ts.take k):=⟨by rw[List.length_take];exact om,fun x h=>List.mem_of_mem_take h⟩
theorem Sub.drop (ts:List α)(k:Nat):Sub ts (ts.drop k):=⟨by rw[List.length_drop];exact om,fun x h=>List.mem_of_mem_drop h⟩
theorem path_sub:∀ (n:Nat)(ts:List α)(p:Nat),ts.length<=n->∀ t∈pathT nl pr ts p,∃ sub,Sub ts sub/\t=topT nl pr sub
 | n,ts,p,hn,t,ht=>by
  by_cases h2:ts.length<2
  . rw[pathT_few nl pr h2] at ht;cases ht
  have h2':2<=ts.length:=by exact om
  have x1:=spl_lt h2';have x2:=spl_pos ts.length;cases n with
  | zero=>exact om
  | succ n=>
   by_cases h3:p<spl ts.length
   . rw[pathT_low nl pr h2' h3] at ht;rcases List.mem_append.mp ht with ht | ht
     . obtain⟨sub,h,e⟩:=path_sub n _ p (by simp;exact om) t ht;exact⟨sub,(Sub.take ts _).trans h,e⟩
     . exact⟨_,Sub.drop ts _,List.mem_singleton.mp ht⟩
   . rw[pathT_high nl pr h2' h3] at ht;rcases List.mem_append.mp ht with ht | ht
     . obtain⟨sub,h,e⟩:=path_sub n _ (p - spl ts.length) (by simp;exact om) t ht;exact⟨sub,(Sub.drop ts _).trans h,e⟩
     . exact⟨_,Sub.take ts _,List.mem_singleton.mp ht⟩
theorem top_all {Pd:α->Prop}(h0:Pd nl)(hp:∀ a b,Pd a->Pd b->Pd (pr a b)):∀ (n:Nat)(ts:List α),ts.length<=n->(∀ t∈ts,Pd t)->Pd (topT nl pr ts)
 | _,[],_,_=>by rw[topT_nil];exact h0
 | _,[t],_,h=>by rw[topT_one];exact h t (by simp)
 | 0,a :: b :: r,hl,_=>by simp at hl
 | n+1,a :: b :: r,hl,h=>by
  generalize hts:a :: b :: r=ts at hl h ⊢;have h2:2<=ts.length:=by rw[<- hts];simp
  have x1:=spl_lt h2;have x2:=spl_pos ts.length;rw[topT_more nl pr h2];exact hp _ _ (top_all h0 hp n _ (by simp;exact om) fun t ht=>h t (List.mem_of_mem_take ht)) (top_all h0 hp n _ (by simp;exact om) fun t ht=>h t (List.mem_of_mem_drop ht))
theorem rise_all {Pd:α->Prop}(hp:∀ a b,Pd a->Pd b->Pd (pr a b)):∀ (us:List Bool)(os:List α)(x:α),(∀ t∈os,Pd t)->Pd x->Pd (rise pr us os x)
 | [],_,x,_,hx=>by unfold rise;exact hx
 | u :: us,[],x,_,hx=>by unfold rise;exact hx
 | u :: us,o :: os,x,h,hx=>by
  show Pd (rise pr us os (if u then pr x o else pr o x));refine rise_all hp us os _ (fun t ht=>h t (List.mem_cons_of_mem _ ht)) ?_;have ho:=h o List.mem_cons_self;cases u
  . exact hp _ _ ho hx
  . exact hp _ _ hx ho
end
end Gb
namespace Gb
section
variable {α:Type}(nl:α)(pr:α->α->α)
end
end Gb
namespace Tx
open PySem PySem.Builtin.Str
noncomputable abbrev sg (z:Str):List Nat:=z.cps.toList
noncomputable abbrev bl:Str:=" "
theorem KW:(bl:Str)=⟨#[32]⟩:=by decide +kernel
theorem Kg {a b:Str}(h:sg a=sg b):a=b:=by
 cases a;cases b
 exact congrArg Str.mk (Array.toList_inj.mp h)
theorem F0 (a b:Str):sg (a++b)=sg a++sg b:=by
 show(a.cps++b.cps).toList=_;rw[Array.toList_append]
theorem CA (z:Str):z.length=(sg z).length:=by simp[Str.length]
theorem NI (z:Str)(i j:Nat):sg (strSub z i j)=((sg z).drop i).take (j - i):=StrLaws.strSub_toList z i j
theorem tw_dw {p:Nat->Bool}:∀ l:List Nat,l.drop (l.takeWhile p).length=l.dropWhile p
 | []=>rfl
 | a :: l=>by
  by_cases h:p a=true
  . rw[List.takeWhile_cons_of_pos h,List.dropWhile_cons_of_pos h];exact tw_dw l
  . rw[List.takeWhile_cons_of_neg h,List.dropWhile_cons_of_neg h];rfl
theorem Sn:(bl:Str).cps.contains=(fun c:Nat=>c == 32):=by
 funext c
 rw[KW,Bool.eq_iff_iff];simp
theorem YC (z:Str):sg (Txt.lstripChars z bl)=(sg z).dropWhile (· == 32):=by
 rw[Txt.lstripChars,PySem.W.stripBy_eq];unfold W.stripped;simp only[if_true,Bool.false_eq_true,if_false];rw[NI,Sn,tw_dw];exact List.take_of_length_le (by rw[<- tw_dw,List.length_drop,CA];exact Nat.le_refl _)
theorem Zq {p:Nat->Bool}(l:List Nat):l.take (l.length - (l.reverse.takeWhile p).length)=(l.reverse.dropWhile p).reverse:=by
 rw[<- tw_dw,List.drop_reverse,List.reverse_reverse]
theorem aP (z:Str):sg (Txt.rstripChars z bl)=((sg z).reverse.dropWhile (· == 32)).reverse:=by
 rw[Txt.rstripChars,PySem.W.stripBy_eq];unfold W.stripped;simp only[if_true,Bool.false_eq_true,if_false];rw[NI,Sn,List.drop_zero,Nat.sub_zero,CA];exact Zq _
theorem OL (z y:Str):Txt.startswith z y=(sg y).isPrefixOf (sg z):=by
 unfold Txt.startswith;rw[StrLaws.subAt_eq,List.drop_zero,CA,CA];rw[Bool.eq_iff_iff,List.isPrefixOf_iff_prefix,Bool.and_eq_true,decide_eq_true_eq,beq_iff_eq,List.prefix_iff_eq_take]
 constructor
 . exact fun h=>h.2.symm
 . intro h;refine⟨?_,h.symm⟩;have:=congrArg List.length h;rw[List.length_take] at this;exact om
theorem eT {z:Str}(h:32∉sg z):Txt.partition z bl=(z,Str.empty,Str.empty):=by
 unfold Txt.partition;rcases StrLaws.occ_head z bl 1 (Nat.le_refl 1) with⟨h0,_⟩ | ⟨i,r,h0,hi,hn⟩
 . rw[h0]
 . rw[KW] at hi;exact absurd (List.mem_of_getElem? ((StrLaws.subAt_one z 32 i).mp hi)) h
theorem fS {z:Str}{a b:List Nat}(h:sg z=a++32 :: b)(ha:32∉a):sg (Txt.partition z bl).1=a/\(Txt.partition z bl).2.1=bl/\sg (Txt.partition z bl).2.2=b:=by
 unfold Txt.partition;have at_a:(sg z)[a.length]? = some 32:=by rw[h];simp
 rcases StrLaws.occ_head z bl 1 (Nat.le_refl 1) with⟨h0,hn⟩ | ⟨i,r,h0,hi,hn⟩
 . rw[KW] at hn;exact absurd ((StrLaws.subAt_one z 32 _).mpr at_a) (hn _)
 . rw[h0];rw[KW] at hi hn;have e1:=(StrLaws.subAt_one z 32 i).mp hi;have e2:¬ a.length<i:=fun c=>hn _ c ((StrLaws.subAt_one z 32 _).mpr at_a);have e3:¬ i<a.length:=fun c=>by
    have e1:(sg z)[i]? = some 32:=e1;rw[h,List.getElem?_append_left c] at e1;exact ha (List.mem_of_getElem? e1)
   have e:i=a.length:=by exact om
   subst e;refine⟨?_,U,?_⟩
   . rw[NI,h];simp
   . rw[NI,CA,CA,h,KW];simp;exact List.take_of_length_le om
theorem bp (c:Nat):Txt.contains "0123456789" ⟨#[c]⟩=decide (48<=c/\c<=57):=by
 unfold Txt.contains;have hs:sg "0123456789" = [48,49,50,51,52,53,54,55,56,57]:=by decide +kernel
 rw[Bool.eq_iff_iff,decide_eq_true_eq];rcases StrLaws.occ_head "0123456789" ⟨#[c]⟩ 1 (Nat.le_refl 1) with⟨h0,hn⟩ | ⟨i,r,h0,hi,hn⟩
 . rw[h0]
   constructor
   . intro z;cases z
   . intro z;have hm:c∈sg "0123456789":=by rw[hs];simp;exact om
     obtain⟨j,hj⟩:=List.getElem?_of_mem hm;exact absurd ((StrLaws.subAt_one _ c j).mpr hj) (hn j)
 . rw[h0]
   constructor
   . intro _;have hm:=List.mem_of_getElem? ((StrLaws.subAt_one _ c i).mp hi);have hm:c∈sg "0123456789":=hm;rw[hs] at hm;simp at hm;exact om
   . intro _;rfl
end Tx
namespace Tx
open PySem PySem.Builtin.Str PySem.NumText
theorem Wh (z:Str)(k:Nat):sg (Txt.slice z (some (k:Int)) none)=(sg z).drop k:=by
 by_cases h:(k:Int)<=z.length
 . rw[PyProof.Rows.slice_from_eq (b:=z.length) om h rfl];show((sg z).drop ((k:Int)).toNat).take _=_;rw[show((k:Int)).toNat=k from rfl];exact List.take_of_length_le (by rw[List.length_drop,<- CA];exact om)
 . rw[PyProof.Rows.slice_beyond om];rw[List.drop_eq_nil_of_le (by rw[<- CA];exact om)]
   rfl
noncomputable def dg (w:List Nat):Bool:=w.all fun c=>decide (48<=c/\c<=57)
theorem dg_iff {w:List Nat}:dg w=true↔AllDigits w:=by
 unfold dg AllDigits;rw[List.all_eq_true];exact⟨fun h c hc=>of_decide_eq_true (h c hc),fun h c hc=>decide_eq_true (h c hc)⟩
noncomputable def D5 (w:List Nat) (D:Nat):Option Nat:=if 0<w.length/\w.length<=9/\dg w=true/\digitsVal w<2 ^ D then some (digitsVal w) else none
inductive jw where
 | put (k:Nat) (v:Str)
 | cut (k:Nat)
noncomputable def putL:List Nat:=[112,117,116,32]
noncomputable def cutL:List Nat:=[99,117,116,32]
theorem T5:sg "put " = putL:=by decide +kernel
theorem XI:sg "cut " = cutL:=by decide +kernel
noncomputable def FT (b:List Nat) (D:Nat):Option (Option jw):=
 if b=[]\/[35].isPrefixOf b=true then some none
 else if putL.isPrefixOf b=true then
  (if 32∈b.drop 4 then(D5 ((b.drop 4).takeWhile (· != 32)) D).map fun k=>some (.put k ⟨(((b.drop 4).dropWhile (· != 32)).drop 1).toArray⟩) else none)
 else if cutL.isPrefixOf b=true then(D5 ((b.drop 4).reverse.dropWhile (· == 32)).reverse D).map fun k=>some (.cut k)
 else none
noncomputable def BA (z:Str) (D:Nat):Option (Option jw):=FT ((sg z).dropWhile (· == 32)) D
theorem Nh {n c:Nat}{l:List Nat}(hc:c≠32):(List.replicate n 32++c :: l).dropWhile (· == 32)=c :: l:=by
 induction n with
 | zero=>rw[List.replicate_zero,List.nil_append,List.dropWhile_cons_of_neg (by simpa using hc)]
 | succ n ih=>rw[List.replicate_succ,List.cons_append,List.dropWhile_cons_of_pos (by simp)];exact ih
theorem UT {n:Nat}:(List.replicate n 32).dropWhile (· == 32)=[]:=by
 induction n with
 | zero=>rfl
 | succ n ih=>rw[List.replicate_succ,List.dropWhile_cons_of_pos (by simp)];exact ih
theorem tw_no {a b:List Nat}(h:32∉a):(a++32 :: b).takeWhile (· != 32)=a/\(a++32 :: b).dropWhile (· != 32)=32 :: b:=by
 induction a with
 | nil=>exact⟨by rw[List.nil_append,List.takeWhile_cons_of_neg (by simp)],by rw[List.nil_append,List.dropWhile_cons_of_neg (by simp)]⟩
 | cons c a ih=>
  have hc:c≠32:=fun e=>h (e ▸ List.mem_cons_self);obtain⟨i1,i2⟩:=ih fun e=>h (List.mem_cons_of_mem _ e);exact⟨by rw[List.cons_append,List.takeWhile_cons_of_pos (by simpa using hc),i1],by rw[List.cons_append,List.dropWhile_cons_of_pos (by simpa using hc),i2]⟩
theorem YM {w:List Nat}(h:AllDigits w):32∉w:=fun m=>by have:=h 32 m;exact om
theorem U8 {n D:Nat}{z:Str}(h:sg z=List.replicate n 32):BA z D=some none:=by
 unfold BA;rw[h,UT];rfl
theorem U7 {n D:Nat}{z:Str}{l:List Nat}(h:sg z=List.replicate n 32++35 :: l):BA z D=some none:=by
 unfold BA;rw[h,Nh (by decide)];unfold FT;rw[if_pos (Or.inr (by simp[List.isPrefixOf]))]
theorem Wz {n D:Nat}{z v:Str}{w:List Nat}(hw:AllDigits w)(h:sg z=List.replicate n 32++(putL++(w++32 :: sg v))):BA z D=(D5 w D).map fun k=>some (.put k v):=by
 unfold BA;rw[h];show FT ((List.replicate n 32++112 :: (117 :: 116 :: 32 :: (w++32 :: sg v))).dropWhile (· == 32)) D=_;rw[Nh (by decide)];obtain⟨t1,t2⟩:=tw_no (a:=w) (b:=sg v) (YM hw);unfold FT;rw[if_neg (by simp[List.isPrefixOf]),if_pos (by simp[List.isPrefixOf,putL])];show(if 32∈(w++32 :: sg v) then _ else _)=_;rw[if_pos (by simp)];show(D5 ((w++32 :: sg v).takeWhile (· != 32)) D).map (fun k=>some (jw.put k ⟨(((w++32 :: sg v).dropWhile (· != 32)).drop 1).toArray⟩))=_;rw[t1,t2];have e:(⟨((32 :: sg v).drop 1).toArray⟩:Str)=v:=Kg (by simp);rw[e]
theorem fL {w:List Nat}{m:Nat}(hw:AllDigits w):((w++List.replicate m 32).reverse.dropWhile (· == 32)).reverse=w:=by
 rw[List.reverse_append,List.reverse_replicate];cases hr:w.reverse with
 | nil=>
  have:w=[]:=List.reverse_eq_nil_iff.mp hr;rw[List.append_nil,UT,this];rfl
 | cons c l=>
  have hc:c∈w:=by rw[<- List.mem_reverse,hr];exact List.mem_cons_self
  have:=hw c hc;rw[Nh om,<- hr,List.reverse_reverse]
theorem Xj {n m D:Nat}{z:Str}{w:List Nat}(hw:AllDigits w)(h:sg z=List.replicate n 32++(cutL++(w++List.replicate m 32))):BA z D=(D5 w D).map fun k=>some (.cut k):=by
 unfold BA;rw[h];show FT ((List.replicate n 32++99 :: (117 :: 116 :: 32 :: (w++List.replicate m 32))).dropWhile (· == 32)) D=_;rw[Nh (by decide)];unfold FT;rw[if_neg (by simp[List.isPrefixOf]),if_neg (by simp[List.isPrefixOf,putL]),if_pos (by simp[List.isPrefixOf,cutL])];show(D5 ((w++List.replicate m 32).reverse.dropWhile (· == 32)).reverse D).map _=_;rw[fL hw]
theorem LY (m:Nat):sg (Str.ofString (toString ((m:Nat):Int)))=(Nat.toDigits 10 m).map Char.toNat:=PySem.W.KIN.signs_num m
theorem O4 (m:Nat):AllDigits ((Nat.toDigits 10 m).map Char.toNat):=fun c hc=>by
 obtain⟨ch,hch,e⟩:=List.mem_map.mp hc;have r:=PyProof.Rows.digit_range (Nat.isDigit_of_mem_toDigits (by decide) (by decide) hch);rw[<- e];exact r
theorem dF (k:Nat)(l:List Nat):digitsVal (List.replicate k 48++l)=digitsVal l:=by
 induction k with
 | zero=>rfl
 | succ k ih=>
  rw[List.replicate_succ,List.cons_append];show List.foldl _ (0 * 10+(48 - 48)) _=_;exact ih
theorem Vp {k:Nat}{l:List Nat}(h:AllDigits l):AllDigits (List.replicate k 48++l):=fun c hc=>by
 rcases List.mem_append.mp hc with z | z
 . rw[(List.mem_replicate.mp z).2];exact om
 . exact h c z
theorem Va {k m D:Nat}(hl:k+((Nat.toDigits 10 m).map Char.toNat).length<=9):D5 (List.replicate k 48++(Nat.toDigits 10 m).map Char.toNat) D=if m<2 ^ D then some m else none:=by
 unfold D5;have hv:digitsVal (List.replicate k 48++(Nat.toDigits 10 m).map Char.toNat)=m:=by rw[dF,PySem.W.KIN.val_back]
 have hp:0<(List.replicate k 48++(Nat.toDigits 10 m).map Char.toNat).length:=by
  have:=PySem.toDigits_len_ge 10 m;simp;exact om
 rw[hv];by_cases c:m<2 ^ D
 . rw[if_pos ⟨hp,by simpa using hl,dg_iff.mpr (Vp (O4 m)),c⟩,if_pos c]
 . rw[if_neg (fun z=>c z.2.2.2),if_neg c]
end Tx
namespace Tx
open PySem PySem.Builtin.Str PySem.NumText
noncomputable abbrev nl:Str:=⟨#[10]⟩
theorem KG (a b:Str)(l:List Str):sg (Str.join nl (a :: b :: l))=sg a++10 :: sg (Str.join nl (b :: l)):=by
 show sg (a++nl++Str.join nl (b :: l))=_;rw[F0,F0,List.append_assoc]
 rfl
theorem tw10 {a b:List Nat}(h:10∉a):(a++10 :: b).takeWhile (· != 10)=a/\(a++10 :: b).dropWhile (· != 10)=10 :: b:=by
 induction a with
 | nil=>exact⟨by rw[List.nil_append,List.takeWhile_cons_of_neg (by simp)],by rw[List.nil_append,List.dropWhile_cons_of_neg (by simp)]⟩
 | cons c a ih=>
  have hc:c≠10:=fun e=>h (e ▸ List.mem_cons_self);obtain⟨i1,i2⟩:=ih fun e=>h (List.mem_cons_of_mem _ e);exact⟨by rw[List.cons_append,List.takeWhile_cons_of_pos (by simpa using hc),i1],by rw[List.cons_append,List.dropWhile_cons_of_pos (by simpa using hc),i2]⟩
theorem TJ:∀ (l l':List Str),l≠[]->l'≠[]->(∀ z∈l,10∉sg z)->(∀ z∈l',10∉sg z)->Str.join nl l=Str.join nl l'->l=l'
 | [],_,h,_,_,_,_=>absurd rfl h
 | _,[],_,h,_,_,_=>absurd rfl h
 | [a],[b],_,_,_,_,h=>by rw[show a=b from h]
 | [a],b :: c :: r,_,_,ha,hb,h=>by
  have e:=congrArg sg h;rw[KG] at e;have e:sg a=sg b++10 :: sg (Str.join nl (c :: r)):=e;exact absurd (by rw[e];simp) (ha a List.mem_cons_self)
 | a :: c :: r,[b],_,_,ha,hb,h=>by
  have e:=congrArg sg h;rw[KG] at e;have e:sg a++10 :: sg (Str.join nl (c :: r))=sg b:=e;exact absurd (by rw[<- e];simp) (hb b List.mem_cons_self)
 | a :: c :: r,b :: d :: t,_,_,ha,hb,h=>by
  have e:=congrArg sg h;rw[KG,KG] at e;have x1:=tw10 (b:=sg (Str.join nl (c :: r))) (ha a List.mem_cons_self);have x2:=tw10 (b:=sg (Str.join nl (d :: t))) (hb b List.mem_cons_self);rw[e] at x1;have ab:a=b:=Kg (x1.1.symm.trans x2.1);have rest:=x1.2.symm.trans x2.2;injection rest with _ rest
  rw[ab,TJ (c :: r) (d :: t) (by simp) (by simp) (fun z hz=>ha z (List.mem_cons_of_mem _ hz)) (fun z hz=>hb z (List.mem_cons_of_mem _ hz)) (Kg rest)]
theorem aS {l:List Str}(hn:l≠[])(hf:∀ z∈l,10∉sg z):Txt.split (Str.join nl l) nl=l:=by
 have hj:=StrLaws.join_split (Str.join nl l) nl;refine TJ _ _ (fun e=>?_) hn (fun z hz=>StrLaws.split_free _ 10 z hz) hf hj;have hy:(nl.length == 0)=false:=rfl;unfold Txt.split at e;split at e
 . cases e
 . split at e
   . cases e
   . obtain⟨p,r,h⟩:=StrLaws.partsFrom_ne (Str.join nl l) nl.length 0 (occurrences (Str.join nl l) nl 0 (Str.join nl l).length ((Str.join nl l).length+1));rw[StrLaws.partsBetween_eq,h] at e;cases e
end Tx
namespace L2
open PySem PySem.Spec PyProof.Rows
abbrev gj:=Str->Option Value
abbrev gk:=Value->Shared->Prop
variable {P:Program}{w:World}{K:W.Frag}{mg:gj}{base:Heap}
abbrev Bc:=@List.getElem?_eq_getElem
abbrev Bb:=@Heap.get?_push_of_some
abbrev Am:=@wpAny_bind
abbrev Ay:=@Nat.le_refl
abbrev AS:=@List.length_map
abbrev Bm:=@of_decide_eq_true
abbrev Bj:=@decide_eq_false
abbrev Be:=@decide_eq_true
abbrev B8:=@of_decide_eq_false
abbrev Bg:=@Heap.lt_size
abbrev CZ:=@PyProof.Rows.boot_isinstance
abbrev BE:=@List.size_toArray
abbrev BG:=@List.getElem?_map
abbrev Bf:=@sizeLine_eq
abbrev AY:=@wpAny_pure
abbrev BX:=@Bool.false_ne_true
abbrev Cn:=@Heap.get?_push_size
abbrev Bu:=@Nat.le_trans
abbrev Cf:=@List.length_append
abbrev Cq:=@Nat.lt_of_lt_of_le
abbrev CK:=@List.mem_of_getElem?
abbrev CH:=@List.mem_cons_of_mem
abbrev DI:=@List.getD_eq_getElem?_getD
abbrev Cc:=@List.length_take
abbrev C5:=@List.length_cons
abbrev DZ:=@PySem.F.type_list_append
abbrev DX:=@PySem.F.slot_list_append
abbrev BC:=@Nat.ne_of_lt
abbrev CO:=@List.mem_cons_self
abbrev Ec:=@PySem.F.plainAttrs_list
abbrev Cw:=@Bool.eq_iff_iff
abbrev DN:=@List.mem_append_right
abbrev CW:=@List.not_mem_nil
abbrev Gk:=@List.eq_nil_of_length_eq_zero
abbrev D3:=@List.getElem_mem
abbrev CJ:=@List.map_cons
abbrev EU:=@List.length_singleton
abbrev Dc:=@List.mem_cons
abbrev FX:=@PySem.F.plainAttrs_str
abbrev C6:=@wpAny_mono
abbrev Fy:=@PySem.mem_of_lookup
abbrev Ex:=@List.map_append
abbrev E8:=@List.append_nil
abbrev EL:=@PySem.W.kia_one
abbrev HR:=@PyProof.Rows.boot_tuple
abbrev IT:=@PyProof.Rows.callWith_type1
abbrev GX:=@Nat.add_le_add_left
abbrev E2:=@PySem.W.mg_of
abbrev GK:=@Nat.lt_of_le_of_lt
abbrev FS:=@List.length_drop
abbrev Gc:=@Bool.and_eq_true
abbrev EH:=@Bool.true_and
abbrev E4:=@List.map_map
abbrev Es:=@Nat.zero_le
abbrev Ht:=@List.length_reverse
abbrev Hn:=@Array.length_toList
abbrev Jt:=@PyProof.Rows.boot_list
abbrev KY:=@List.getElem?_append_right
abbrev EZ:=@Nat.lt_irrefl
abbrev HG:=@wpAny_Call_Name_kw
abbrev IS:=@List.length_filter_le
abbrev Ij:=@List.getElem?_eq_none
abbrev JR:=@Array.getElem?_eq_getElem
abbrev Jq:=@Nat.pow_le_pow_right
abbrev Hu:=@wpAny_truthy_bool
abbrev FB:=@List.map_nil
abbrev EV:=@wpAny_field
abbrev Hw:=@List.lookup_cons
abbrev KH:=@List.take_of_length_le
abbrev Hr:=@wpAny_passesOwn
abbrev KI:=@PyProof.Rows.boot_str
abbrev GM:=@wpAny_holding
abbrev JW:=@List.mem_of_mem_drop
abbrev O6:=@List.getElem?_append_left
abbrev JA:=@wpAny_execs_cons
abbrev Lv:=@List.filterMap_cons
abbrev JB:=@wpAny_execs_nil
abbrev HW:=@Nat.min_eq_left
abbrev Jr:=@List.find?_cons
abbrev Kz:=@wpAny_setField_rec
abbrev LU:=@wpAny_getItem_str_slice
abbrev NS:=@List.getElem?_cons_succ
abbrev O1:=@Calls.callWith_builtin
abbrev FQ:=@wpAny_call
abbrev JO:=@List.append_assoc
abbrev IK:=@wpAny_seqItems
abbrev Jg:=@Nat.add_le_add
abbrev J9:=@List.take_succ
abbrev HF:=@Nat.le_of_lt
abbrev Ng:=@Heap.get?_update_self
abbrev Lo:=@List.all_eq_true
abbrev LJ:=@Nat.pow_lt_pow_right
abbrev Ot:=@List.mem_append_left
abbrev LK:=@Calls.evalArgs_plain
abbrev KS:=@List.of_mem_zip
abbrev Kl:=@List.forIn_cons
abbrev Na:=@List.map_congr_left
abbrev Pq:=@PySem.F.type_str_startswith
abbrev PK:=@PySem.F.slot_str_startswith
abbrev Qr:=@Array.getD_eq_getD_getElem?
abbrev J6:=@Txt.slice_le
abbrev MI:=@SeqAt.EqAt.of_refs
abbrev Ov:=@PySem.W.callWith_K
abbrev Nu:=@Nat.one_le_two_pow
abbrev Nm:=@Calls.spliced_cons
abbrev Ld:=@wpAny_newTuple
abbrev JF:=@Nat.mul_le_mul
abbrev LA:=@Bool.false_and
abbrev JJ:=@Bool.and_false
abbrev PU:=@List.drop_eq_getElem_cons
abbrev OO:=@SeqAt.RcAt.lists_lengths
abbrev Q4:=@PyProof.Rows.boot_sorted
abbrev Pf:=@Nat.pow_lt_pow_iff_right
abbrev Pe:=@PySem.F.plainAttrs_dict
abbrev OJ:=@List.getElem?_cons_zero
abbrev Qd:=@List.filter_cons_of_pos
abbrev P7:=@List.filter_cons_of_neg
abbrev O9:=@List.take_length
abbrev O0:=@List.filter_cons
abbrev QW:=@PySem.W.cellsFrom_some
abbrev P0:=@PyProof.Rows.boot_dict
abbrev QK:=@PyProof.Rows.boot_bool
abbrev OW:=@List.dropWhile_sublist
abbrev Qv:=@Int.ediv_eq_zero_of_lt
abbrev OB:=@SeqAt.EqAt.same
abbrev NX:=@Int.emod_nonneg
abbrev OG:=@Bool.decide_and
abbrev Qs:=@PySem.F.slot_dict_get
abbrev OX:=@PyProof.Rows.boot_min
abbrev Rn:=@wpAny_pyIter_revIter
abbrev OK:=@Nat.add_le_add_right
abbrev Rb:=@List.mem_of_mem_take
abbrev Km:=@Int.one_mul
abbrev Pk:=@PySem.W.plainGet_of
abbrev Po:=@List.getElem?_take
abbrev Rg:=@List.filter_append
abbrev Qi:=@Bool.false_eq_true
abbrev QB:=@Array.append_empty
abbrev QF:=@wpAny_pyIter_list
abbrev OQ:=@wpAny_newObj_type
abbrev Qy:=@wpAny_assign_Name
abbrev Qf:=@SeqAt.RcAt.tuples
abbrev Pn:=@Option.isSome_map
abbrev OY:=@List.ext_getElem?
abbrev PX:=@Calls.spliced_nil
abbrev NR:=@Nat.ne_of_gt
abbrev Q6:=@SeqAt.RcAt.lists
abbrev P1:=@Nat.min_eq_right
abbrev QH:=@Nat.lt_succ_self
abbrev Pm:=@List.getElem_inj
abbrev OR:=@List.drop_length
abbrev PV:=@List.cons_append
abbrev S0:=@PySem.F.type_int_bit_length
abbrev U0:=@PySem.F.slot_int_bit_length
abbrev Sz:=@wpAny_newFunctionEnv_cells
abbrev T0:=@Int.fdiv_eq_ediv_of_nonneg
abbrev Q7:=@List.nodup_nil
abbrev Rj:=@List.forIn_nil
abbrev QG:=@Heap.size_push
abbrev VE:=@Calls.call_function_entry
abbrev RD:=@PyProof.Rows.bitAnd_zero
abbrev QC:=@wpAny_onRaise
abbrev PJ:=@List.map_take
abbrev QA:=@List.any_cons
abbrev Ur:=@PySem.F.slot_dict_items
abbrev R3:=@PySem.F.args_dict_get_2
abbrev Sf:=@PyProof.Rows.bitXor_and
abbrev Sa:=@Int.ediv_ediv_of_nonneg
abbrev Su:=@PySem.F.plainAttrs_int
abbrev Uf:=@PySem.F.entry_dict_get
abbrev Wa:=@Nat.le_of_succ_le_succ
abbrev RL:=@List.takeWhile_sublist
abbrev Sv:=@List.getElem?_set_self
abbrev VC:=@List.drop_eq_nil_of_le
abbrev Uy:=@Heap.get?_update_other
variable {ep i j kk n t':Nat}{Pt T a b c0 dx f fa i1 i2 it l1 l2 z:Addr}{its its' us:List Value}{H H' H1 H2:Hp}{o:HO}{h h':Heap}{ob:Obj}{as ch fp:List Addr}{name qual x:Str}{c e elt iter tg:Expr}{N:List Str}{A:Around}{E Q:gk}{v y:V}{s s':Shared}{np p2 pos pos' px tp:Pos}{aa:List (Addr×Obj)}{σ:St}{D:DE}{st:Stmt}{tc tt:TT}{es ifs:List Expr}{ta te tl:TE}{g:TG}{body:List Stmt}{tb:TS}{vs ws:List V}{l:List (List Al×V)}{lo:Int}{p:Array Nat}{R:Addr->Hp->Prop}{mA:gj}{kw:List (Str×Value)}{fd:FuncData}{sp:Sp}{outer:List Env}{sc scope:Scope}{cd ad dV doc oc oc2 pm:Value}{an od od2:Option Addr}{osl osl2 sl:Array (Option Value)}{kvs:List (Al×V)}{ks:List Int}{B:Prop}{js:List Nat}{cl:List (Str×Addr)}{S:Sl}{ts:List Tm}{key:Nat->Int}{ac:List Rw}{lf:iG}
section
variable {R:List Value->Prop}
theorem Sk (h:R []):∀ us,us.length=0->R us:=fun us e=>by
 cases us with
 | nil=>exact h
 | cons=>exact nomatch e
theorem F8 (h:∀ a us,us.length=n->R (a :: us)):∀ us,us.length=n+1->R us:=fun us e=>by
 cases us with
 | nil=>exact nomatch e
 | cons a t=>exact h a t (Nat.succ.inj e)
theorem CM (h:∀ a,R [a]):∀ us,us.length=1->R us:=F8 fun a=>Sk (R:=fun t=>R (a :: t)) (h a)
theorem CB (h:∀ a b,R [a,b]):∀ us,us.length=2->R us:=F8 fun a=>CM (R:=fun t=>R (a :: t)) (h a)
theorem Bx (h:∀ a b c,R [a,b,c]):∀ us,us.length=3->R us:=F8 fun a=>CB (R:=fun t=>R (a :: t)) (h a)
theorem Ho (h:∀ a b c d,R [a,b,c,d]):∀ us,us.length=4->R us:=F8 fun a=>Bx (R:=fun t=>R (a :: t)) (h a)
theorem FJ (h:∀ a b c d e,R [a,b,c,d,e]):∀ us,us.length=5->R us:=F8 fun a=>Ho (R:=fun t=>R (a :: t)) (h a)
theorem Nx (h:∀ a b c d e f,R [a,b,c,d,e,f]):∀ us,us.length=6->R us:=F8 fun a=>F8 fun b=>Ho (R:=fun t=>R (a :: b :: t)) (h a b)
theorem l8e (h:∀ a b c d e f g i,R [a,b,c,d,e,f,g,i]):∀ us,us.length=8->R us:=F8 fun a=>F8 fun b=>Nx (R:=fun t=>R (a :: b :: t)) (h a b)
theorem gT (h:∀ a b c d e f g,R [a,b,c,d,e,f,g]):∀ us,us.length=7->R us:=F8 fun a=>Nx (R:=fun t=>R (a :: t)) (h a)
theorem m1e (h:∀ a,R [a]):∀ us,us.length+1=2->R us:=fun u e=>CM h u (Nat.succ.inj e)
theorem Wk (h:∀ a b,R [a,b]):∀ us,us.length+1=3->R us:=fun u e=>CB h u (Nat.succ.inj e)
theorem cU (h:∀ a b c,R [a,b,c]):∀ us,us.length+1=4->R us:=fun u e=>Bx h u (Nat.succ.inj e)
end
theorem via {a b:Prop}(f:a->b)(x:a):b:=f x
theorem Dk:0<=sizeLine:=by decide
theorem EJ:1<=sizeLine:=by decide
theorem Cd:2<=sizeLine:=by decide
theorem Eg:3<=sizeLine:=by decide
theorem E9:4<=sizeLine:=by decide
theorem cV:5<=sizeLine:=by decide
theorem Wq:6<=sizeLine:=by decide
theorem Xw:7<=sizeLine:=by decide
abbrev Al:=Sum Int Str
noncomputable def HB:Al->Value->Bool
 | .inl k,v=>Value.isInt k v
 | .inr x,v=>Value.isStrOf x v
noncomputable def bA (w:World):Al->Int
 | .inl k=>hashInt k
 | .inr x=>hashStr w x
theorem FO:∀ {k:Al}{v:Value},HB k v=true->(∃ i t,k=Sum.inl i/\v=Value.int i t)\/(∃ x t,k=Sum.inr x/\v=Value.str x t)
 | .inl i,v,h=>by
  obtain⟨t,e⟩:=Value.isInt_shape (k:=i) (v:=v) h;exact .inl ⟨i,t,U,e⟩
 | .inr x,v,h=>by
  obtain⟨t,e⟩:=Value.isStrOf_shape (x:=x) (v:=v) h;exact .inr ⟨x,t,U,e⟩
theorem XF (i:Int)(t:Tok):HB (.inl i) (.int i t)=true:=by simp[HB,Value.isInt]
theorem fJ (x:Str)(t:Tok):HB (.inr x) (.str x t)=true:=by simp[HB,Value.isStrOf]
theorem bG (a b:Int):decide ((Sum.inl a:Al)=Sum.inl b)=(a == b):=by
 by_cases e:a=b
 . subst e;simp
 . have h:¬ (Sum.inl a:Al)=Sum.inl b:=fun q=>e (Sum.inl.inj q);rw[Bj h];exact(beq_eq_false_iff_ne.mpr e).symm
theorem YW (a b:Str):decide ((Sum.inr a:Al)=Sum.inr b)=decide (a=b):=by
 by_cases e:a=b
 . subst e;simp
 . have h:¬ (Sum.inr a:Al)=Sum.inr b:=fun q=>e (Sum.inr.inj q);rw[Bj h,Bj e]
theorem dc (a:Int)(b:Str):decide ((Sum.inl a:Al)=Sum.inr b)=false:=Bj (fun q=>nomatch q)
theorem bR (a:Str)(b:Int):decide ((Sum.inr a:Al)=Sum.inl b)=false:=Bj (fun q=>nomatch q)
noncomputable def C7 (prog:Program) (w:World):PySem.KeyKind prog w Al where
 is:=HB
 hash:=bA w
 inj:=fun v a b ha hb=>by
  rcases FO ha with⟨i,t,rfl,rfl⟩ | ⟨x,t,rfl,rfl⟩
  . rcases FO hb with⟨j,u,rfl,e⟩ | ⟨y,u,rfl,e⟩
    . injection e with e1 _;rw[e1]
    . exact nomatch e
  . rcases FO hb with⟨j,u,rfl,e⟩ | ⟨y,u,rfl,e⟩
    . exact nomatch e
    . injection e with e1 _;rw[e1]
 byValue:=fun k v h=>by
  rcases FO h with⟨i,t,rfl,rfl⟩ | ⟨x,t,rfl,rfl⟩ <;> rfl
 pyHash:=fun hv h=>by
  rcases FO hv with⟨i,t,rfl,rfl⟩ | ⟨x,t,rfl,rfl⟩
  . exact wpAny_pyHash_int h
  . exact wpAny_pyHash_str h
 eqBool:=fun hu hv h=>by
  rcases FO hu with⟨i,t,rfl,rfl⟩ | ⟨x,t,rfl,rfl⟩
  . rcases FO hv with⟨j,u,rfl,rfl⟩ | ⟨y,u,rfl,rfl⟩
    . rw[bG] at h;exact wpAny_eqBool_int h
    . rw[dc] at h;exact SeqAt.EqAt.int_str i t y u _ _ _ _ h
  . rcases FO hv with⟨j,u,rfl,rfl⟩ | ⟨y,u,rfl,rfl⟩
    . rw[bR] at h;exact SeqAt.EqAt.str_int x t j u _ _ _ _ h
    . rw[YW] at h;exact wpAny_eqBool_str h
 «strs»:=fun k x t v h=>by
  rcases FO h with⟨i,u,rfl,e⟩ | ⟨y,u,rfl,e⟩
  . exact nomatch e
  . injection e with e1 _
    subst e1;cases v <;> rfl
theorem b7 (prog:Program)(w:World)(k:Al)(v:Value):(C7 prog w).is k v=HB k v:=rfl
theorem gR (prog:Program)(w:World)(i:Int)(t:Tok):(C7 prog w).is (.inl i) (.int i t)=true:=XF i t
theorem WY (prog:Program)(w:World)(x:Str)(t:Tok):(C7 prog w).is (.inr x) (.str x t)=true:=fJ x t
inductive V where
 | non | bl (b:Bool) | int (i:Int) | str (x:Str) | byt (b:Array UInt8) | flt (b:UInt64) | ref (a:Addr) | ty (n:String)
 deriving DecidableEq
def hG:V->Value->Prop
 | .non,u=>u=Value.none
 | .bl b,u=>u=Value.bool b
 | .int i,u=>∃ t,u=Value.int i t
 | .str x,u=>∃ t,u=Value.str x t
 | .byt b,u=>∃ t,u=Value.bytes b t
 | .flt b,u=>∃ t,u=Value.float b t
 | .ref a,u=>u=Value.ref a
 | .ty n,u=>u=Value.type n
abbrev hI:List V->List Value->Prop:=Paired hG
theorem hI.length {xs:List V}(r:hI xs us):xs.length=us.length:=Paired.length r
theorem hI.get:∀ {xs:List V}{us:List Value}{i:Nat}{x:V},hI xs us->xs[i]? = some x->∃ u,us[i]? = some u/\hG x u
 | _,_,_,_,.nil,e=>by simp at e
 | _,_,0,_,.cons r _,e=>by simp at e;subst e;exact⟨_,U,r⟩
 | _,_,i+1,x,.cons _ t,e=>by
  obtain⟨u,h1,h2⟩:=hI.get (i:=i) (x:=x) t (by simpa using e);exact⟨u,by simpa using h1,h2⟩
theorem hI.set {x:V}{u:Value}(r:hG x u):∀ {xs:List V}{us:List Value}(i:Nat),hI xs us->hI (xs.set i x) (us.set i u)
 | _,_,_,.nil=>.nil
 | _,_,0,.cons _ t=>.cons r t
 | _,_,i+1,.cons q t=>.cons q (hI.set r i t)
theorem hI.append:∀ {xs ys:List V}{us ws:List Value},hI xs us->hI ys ws->hI (xs++ys) (us++ws)
 | _,_,_,_,.nil,s=>s
 | _,_,_,_,.cons r t,s=>.cons r (hI.append t s)
theorem hI.take:∀ {xs:List V}{us:List Value}(n:Nat),hI xs us->hI (xs.take n) (us.take n)
 | _,_,0,_=>.nil
 | _,_,_+1,.nil=>.nil
 | _,_,n+1,.cons r t=>.cons r (hI.take n t)
theorem hI.drop:∀ {xs:List V}{us:List Value}(n:Nat),hI xs us->hI (xs.drop n) (us.drop n)
 | _,_,0,r=>r
 | _,_,_+1,.nil=>.nil
 | _,_,n+1,.cons _ t=>hI.drop n t
def iP:Option V->Option Value->Prop
 | some v,some u=>hG v u
 | none,none=>True
 | _,_=>False
def KV {κ:Type}:List (κ×V)->List (κ×Value)->Prop:=Paired fun(p:κ×V)(q:κ×Value)=>p.1=q.1/\hG p.2 q.2
noncomputable def kV:Al->V
 | .inl i=>.int i
 | .inr x=>.str x
inductive HO where
 | lst (xs:List V)
 | tup (xs:List V)
 | dK (kvs:List (Al×V)) | dT (kvs:List (List Al×V))
 | set (S:Int->Bool) (n:Nat)
 | ins (C dx:Addr) (fs:List (Str×V))
 | own (x:Addr)
 | xd (fs:List (Str×V))
 | met (f x:Addr)
 | rng (lo hi:Int)
 | frz (o:Obj) (u:HO)
 | iZ (ps:Array Value)
 | ext (φ:Heap->Prop)
abbrev Hp:=Addr->Option HO
noncomputable def Ab (H:Hp) (a:Addr) (o:HO):Hp:=fun b=>if b=a then some o else H b
theorem Ad:Ab H a o a=some o:=by unfold Ab;rw[if_pos rfl]
theorem Af (h:b≠a):Ab H a o b=H b:=by unfold Ab;rw[if_neg h]
theorem GG {u:HO}:Ab (Ab H a o) a u=Ab H a u:=by
 funext b;unfold Ab;split <;> rfl
theorem XS {u:HO}(h:H a=some o)(h':H b=some u)(d:o≠u):a≠b:=by
 intro e;subst e;rw[h] at h';exact d (Option.some.inj h')
theorem Aq (h:H a=some o)(h':H b=none):a≠b:=by
 intro e;subst e;rw[h] at h';cases h'
section
variable (P:Program)(w:World)
def im (H:Hp)(h:Heap)(a:Addr):HO->Prop
 | .lst xs=>xs.length<=sizeLine/\∃ (its:List Value) (n:Nat),hI xs its/\h.get? a=some { cls:=.type "list",data:=.seq its.toArray n }
 | .tup xs=>xs.length<=sizeLine/\∃ its:List Value,hI xs its/\IsTup h a its.toArray
 | .dK kvs=>kvs.length<=sizeLine/\(a == sysModules)=false/\∃ vs,KV kvs vs/\h.DictOf (C7 P w) a vs
 | .dT kvs=>kvs.length<=sizeLine/\(a == sysModules)=false/\∃ xs:List (List Al×Addr×Value),
  Paired (fun(p:List Al×V) (q:List Al×Addr×Value)=>p.1=q.1/\H q.2.1=some (.tup (p.1.map kV))/\hG p.2 q.2.2) kvs xs/\
  ∃ o es ep,h.get? a=some o/\o.ExactDict/\o.data = .dict es ep/\es.toList=xs.map (entryOfKey (tupleKind (C7 P w)))/\(xs.map (·.1)).Nodup
 | .set S n=>h.SetOf (intKind P w) a S n
 | .ins C dx fs=>H dx=some (.own a)/\fs.length<=1000/\dx≠a/\h.get? a=some (PySem.W.instObj C dx)/\
  ∃ mA,h.Ns1 dx mA/\(∀ f,iP (fs.lookup f) (mA f))/\PySem.Within mA (fs.map (·.1))
 | .own _=>∃ o,h.get? a=some o
 | .xd fs=>∃ mA,h.Ns1 a mA/\∀ f,iP (fs.lookup f) (mA f)
 | .rng lo hi=>∃ t u v,h.get? a=some { cls:=.type "range",data:=.fields #[.int lo t,.int hi u,.int 1 v] }
 | .frz o u=>h.get? a=some o/\im H h a u
 | .iZ ps=>h.get? a=some { cls:=.none,data:=.fields ps }
 | .met f x=>h.get? a=some (PySem.W.methodObj (.ref f) (.ref x))
 | .ext φ=>φ h/\(∃ o,h.get? a=some o)/\∀ h1 h2:Heap,φ h1->(∀ o,h1.get? a=some o->h2.get? a=some o)->φ h2
def iQ (H:Hp)(h:Heap):Prop:=∀ a o,H a=some o->im P w H h a o
end
section
variable {P:Program}{w:World}
theorem im.lt (x:im P w H h a o):a<h.objs.size:=by
 cases o with
 | lst xs=>obtain⟨_,_,_,_,e⟩:=x;exact Bg e
 | tup xs=>obtain⟨_,_,_,p⟩:=x;exact p.lt
 | dK kvs=>obtain⟨_,_,_,_,o,_,_,e,_⟩:=x;exact Bg e
 | dT kvs=>obtain⟨_,_,_,_,o,_,_,e,_⟩:=x;exact Bg e
 | set S n=>obtain⟨o,_,_,_,e,_⟩:=x;exact Bg e
 | ins C dx fs=>obtain⟨_,_,_,e,_⟩:=x;exact Bg e
 | own y=>obtain⟨_,e⟩:=x;exact Bg e
 | xd fs=>obtain⟨_,⟨_,_,_,e,_⟩,_⟩:=x;exact Bg e
 | rng lo hi=>obtain⟨_,_,_,e⟩:=x;exact Bg e
 | frz ob u=>obtain⟨e,_⟩:=x;exact Bg e
 | iZ ps=>exact Bg (show h.get? a=some _ from x)
 | met f y=>exact Bg (show h.get? a=some _ from x)
 | ext φ=>obtain⟨_,⟨_,e⟩,_⟩:=x;exact Bg e
theorem Paired.kJ {α β:Type}{F G:α->β->Prop}:∀ {l₁:List α}{l₂:List β},Paired F l₁ l₂->(∀ a b,F a b->G a b)->Paired G l₁ l₂
 | _,_,.nil,_=>.nil
 | _,_,.cons r t,f=>.cons (f _ _ r) (Paired.kJ t f)
theorem im.jo (x:im P w H h a o)(k:∀ b u,(b=a\/H b=some (.own a))->h.get? b=some u->h'.get? b=some u)
 (ho:∀ b,H b=some (.own a)->H' b=some (.own a))(ht:∀ b xs,H b=some (.tup xs)->H' b=some (.tup xs)):im P w H' h' a o:=by
 induction o with
 | lst xs=>obtain⟨z,its,n,r,e⟩:=x;exact⟨z,its,n,r,k _ _ (.inl rfl) e⟩
 | tup xs=>obtain⟨z,its,r,ob,e,c⟩:=x;exact⟨z,its,r,ob,k _ _ (.inl rfl) e,c⟩
 | dK kvs=>obtain⟨z,y,vs,r,ob,es,ep,e,c⟩:=x;exact⟨z,y,vs,r,ob,es,ep,k _ _ (.inl rfl) e,c⟩
 | dT kvs=>
  obtain⟨z,y,xs,r,ob,es,ep,e,c⟩:=x;exact⟨z,y,xs,Paired.kJ r fun p q z=>⟨z.1,ht _ _ z.2.1,z.2.2⟩,ob,es,ep,k _ _ (.inl rfl) e,c⟩
 | set S n=>obtain⟨ob,es,ep,t,e,c⟩:=x;exact⟨ob,es,ep,t,k _ _ (.inl rfl) e,c⟩
 | ins C dx fs=>
  obtain⟨d,z,ne,e,mA,⟨od,es,ep,e2,c⟩,r⟩:=x;exact⟨ho _ d,z,ne,k _ _ (.inl rfl) e,mA,⟨od,es,ep,k _ _ (.inr d) e2,c⟩,r⟩
 | own y=>obtain⟨ob,e⟩:=x;exact⟨ob,k _ _ (.inl rfl) e⟩
 | xd fs=>obtain⟨mA,⟨od,es,ep,e,c⟩,r⟩:=x;exact⟨mA,⟨od,es,ep,k _ _ (.inl rfl) e,c⟩,r⟩
 | rng lo hi=>obtain⟨t,u,v,e⟩:=x;exact⟨t,u,v,k _ _ (.inl rfl) e⟩
 | frz ob u ih=>obtain⟨e,q⟩:=x;exact⟨k _ _ (.inl rfl) e,ih q⟩
 | iZ ps=>
  have e:h.get? a=some { cls:=.none,data:=.fields ps }:=x;show h'.get? a=some { cls:=.none,data:=.fields ps };exact k a _ (.inl rfl) e
 | met f y=>
  have e:h.get? a=some (PySem.W.methodObj (.ref f) (.ref y)):=x;show h'.get? a=some (PySem.W.methodObj (.ref f) (.ref y));exact k a _ (.inl rfl) e
 | ext φ=>obtain⟨p,⟨o,e⟩,st⟩:=x;exact⟨st _ _ p fun o q=>k _ _ (.inl rfl) q,⟨o,k _ _ (.inl rfl) e⟩,st⟩
theorem iQ.lt (x:iQ P w H h)(e:H a=some o):a<h.objs.size:=(x a o e).lt
theorem iQ.fresh (x:iQ P w H h)(e:h.objs.size<=a):H a=none:=by
 cases q:H a with
 | none=>rfl
 | some u=>exact absurd (Cq (x.lt q) e) (EZ _)
theorem iQ.kept (x:iQ P w H h)(k:∀ b u,h.get? b=some u->h'.get? b=some u):iQ P w H h':=fun a o e=>
 (x a o e).jo (fun b u _ q=>k b u q) (fun _ q=>q) fun _ _ q=>q
theorem iQ.laid (x:iQ P w H h)(k:∀ b u,h.get? b=some u->h'.get? b=some u)(hp:h.objs.size<=a)(new:im P w (Ab H a o) h' a o):iQ P w (Ab H a o) h':=fun b u e=>by
 have hn:=x.fresh hp;by_cases hb:b=a
 . subst hb;rw[Ad] at e;cases e;exact new
 . rw[Af hb] at e;exact(x b u e).jo (fun c v _ q=>k c v q) (fun c q=>by rw[Af (Aq q hn)];exact q) fun c xs q=>by rw[Af (Aq q hn)];exact q
end
def Rd (H:Hp)(a:Addr)(u:HO):Prop:=H a=some u\/∃ o,H a=some (.frz o u)
theorem Rd.ok {P:Program}{w:World}{u:HO}(r:Rd H a u)(x:iQ P w H h):im P w H h a u:=by
 rcases r with r | ⟨o,r⟩
 . exact x a u r
 . obtain⟨_,q⟩:=x a _ r;exact q
def KM:Option HO->Prop
 | some (.lst _)=>True
 | some (.dK _)=>True
 | some (.dT _)=>True
 | some (.set _ _)=>True
 | some (.ins _ _ _)=>True
 | some (.ext _)=>True
 | _=>False
section
variable {P:Program}{w:World}{x e:Addr}{o':HO}
theorem iQ.write (ok:iQ P w H h)(mu:KM (H x))(he:e=x\/H e=some (.own x))(k:∀ b u,b≠e->h.get? b=some u->h'.get? b=some u)(heo:∃ u,h'.get? e=some u)
 (new:im P w (Ab H x o') h' x o'):iQ P w (Ab H x o') h':=fun b u q=>by
 have nown:∀ c y,H c=some (.own y)->c≠x:=fun c y r z=>by subst z;rw[r] at mu;exact mu
 have ntup:∀ c xs,H c=some (.tup xs)->c≠x:=fun c xs r z=>by subst z;rw[r] at mu;exact mu
 by_cases hb:b=x
 . subst hb;rw[Ad] at q;cases q;exact new
 . rw[Af hb] at q;by_cases hbe:b=e
   . have q':H b=some (.own x):=by
      rcases he with z | z
      . exact absurd (hbe.trans z) hb
      . rw[hbe];exact z
     rw[q] at q';cases q';obtain⟨v,hv⟩:=heo;exact⟨v,by rw[hbe];exact hv⟩
   . refine(ok b u q).jo (fun c v hc r=>k c v ?_ r) (fun c r=>by rw[Af (nown c b r)];exact r) fun c xs r=>by rw[Af (ntup c xs r)];exact r
     rcases hc with rfl | hc
     . exact hbe
     . rintro rfl;rcases he with z | z
       . exact nown c b hc z
       . rw[hc] at z;cases z;exact hb rfl
end
structure Un (fs ex:List Addr)(H H':Hp)(h h':Heap):Prop where
 keep:∀ b o,h.get? b=some o->H b=none->b∉fs->b∉ex->h'.get? b=some o
 slot:∀ b o,h.get? b=some o->H b=none->b∈fs->b∉ex->∃ sl,h'.get? b=some { o with slots:=sl }
 free:∀ b o,h.get? b=some o->H b=none->b∉ex->H' b=none
 there:∀ b o,h.get? b=some o->b∉ex->∃ o',h'.get? b=some o'
 jp:∀ b xs,H b=some (.tup xs)->H' b=some (.tup xs)
 iX:∀ b o u,H b=some (.frz o u)->H' b=some (.frz o u)
 ji:∀ b ps,H b=some (.iZ ps)->∃ more,H' b=some (.iZ (ps++more))
section
variable {fs fs' ex ex':List Addr}{h1 h2:Heap}{x e:Addr}
theorem Un.any (u:Un fs ex H H1 h h1)(q:h.get? b=some ob)(n:H b=none)(hx:b∉ex):∃ sl,h1.get? b=some { ob with slots:=sl }:=by
 by_cases hb:b∈fs
 . exact u.slot b ob q n hb hx
 . exact⟨ob.slots,u.keep b ob q n hb hx⟩
theorem Un.kept (k:∀ b u,h.get? b=some u->h'.get? b=some u):Un fs ex H H h h':=
 ⟨fun b ob q _ _ _=>k b ob q,fun b ob q _ _ _=>⟨ob.slots,k b ob q⟩,fun _ _ _ n _=>n,fun b ob q _=>⟨ob,k b ob q⟩,fun _ _ q=>q,fun _ _ _ q=>q,fun _ ps q=>⟨#[],by rw[q];simp⟩⟩
theorem Un.refl:Un fs ex H H h h:=Un.kept fun _ _ q=>q
theorem Un.laid (k:∀ b u,h.get? b=some u->h'.get? b=some u)(hp:h.objs.size<=a)(hn:H a=none):Un fs ex H (Ab H a o) h h' where
 keep:=fun b u q _ _ _=>k b u q
 slot:=fun b u q _ _ _=>⟨u.slots,k b u q⟩
 free:=fun b u q n _=>by rw[Af (BC (Cq (Bg q) hp))];exact n
 there:=fun b u q _=>⟨u,k b u q⟩
 jp:=fun b xs q=>by rw[Af (Aq q hn)];exact q
 iX:=fun b u xs q=>by rw[Af (Aq q hn)];exact q
 ji:=fun b ps q=>⟨#[],by rw[Af (Aq q hn),q];simp⟩
theorem Un.write (mu:KM (H x))(he:e=x\/H e=some (.own x))(k:∀ b u,b≠e->h.get? b=some u->h'.get? b=some u)(heo:∃ u,h'.get? e=some u):Un fs ex H (Ab H x o) h h':=by
 have hx:∀ b,H b=none->b≠x:=fun b n z=>by subst z;rw[n] at mu;exact mu
 have hb:∀ b,H b=none->b≠e:=fun b n z=>by
  subst z;rcases he with r | r
  . exact hx b n r
  . rw[n] at r;cases r
 have hm:∀ b u,H b=some u->¬ KM (some u)->b≠x:=fun b u q nm z=>by subst z;rw[q] at mu;exact nm mu
 refine⟨fun b u q n _ _=>k b u (hb b n) q,fun b u q n _ _=>⟨u.slots,k b u (hb b n) q⟩,fun b u q n _=>by rw[Af (hx b n)];exact n,fun b u q _=>?_,
  fun b xs q=>by rw[Af (hm b _ q fun z=>z)];exact q,fun b u xs q=>by rw[Af (hm b _ q fun z=>z)];exact q,fun b ps q=>⟨#[],by rw[Af (hm b _ q fun z=>z),q];simp⟩⟩
 by_cases hbe:b=e
 . subst hbe;exact heo
 . exact⟨u,k b u hbe q⟩
end
noncomputable def trk (h:Heap) (H:Hp):List Addr:=(List.range h.objs.size).filter fun a=>(H a).isSome
noncomputable def EQ (h:Heap) (H:Hp):Heap:=W.hideAll h (trk h H)
theorem ZC (h:Heap)(H:Hp):(EQ h H).objs.size=h.objs.size:=W.hideAll_size _ _
theorem Xi {o:Obj}(e:h.get? b=some o)(n:H b=none):(EQ h H).get? b=some o:=
 W.hideAll_get _ e fun hm=>by
  have q:(H b).isSome=true:=(List.mem_filter.mp hm).2;rw[n] at q;simp at q
theorem Ww {o:Obj}(e:(EQ h H).get? b=some o):h.get? b=some o/\H b=none:=by
 have e':h.get? b=some o:=PySem.W.of_hideAll (trk h H) e;refine⟨e',?_⟩;cases q:H b with
 | none=>rfl
 | some x=>
  have hm:b∈trk h H:=List.mem_filter.mpr ⟨List.mem_range.mpr (Bg e'),by simp[q]⟩;have z:(EQ h H).get? b=none:=W.hideAll_none (trk h H) hm;rw[z] at e;cases e
noncomputable def be (g h:Heap) (L:Addr):List (Addr×Obj):=(List.range h.objs.size).filterMap fun a=>if a=L\/(g.get? a).isSome=true then none else(h.get? a).map fun o=>(a,o)
noncomputable def rest (g h:Heap) (L d:Addr):List (Addr×Obj):=(be g h L).filter fun p=>decide (p.1≠d)
structure Mod (K:W.Frag)(mg:gj)(base:Heap):Prop where
 km:K.In base
 glob:base.Ns mainGlobals mg
 blt:∃ mb,base.Ns builtinsNs mb/\∀ x:Str,x≠"__name__"->mb x=bootBuiltins x
 nolimit:base.NoLimit
structure Cx where
 prog:Program
 w:World
 K:W.Frag
 mg:Str->Option Value
 base:Heap
 A:Around
 N:List Str
 s₀:Shared
 H₀:Hp
 env:Env
 outer:List Env
 stack:List Env
 ex:List Addr
 fn:Str->Bool
 calm:Bool
 pn:List (Addr×Obj)
 xe:Value->Shared->Prop
noncomputable def Bz (l:List Env):List Addr:=l.filterMap (·.frame)
noncomputable abbrev Cx.fs (X:Cx):List Addr:=Bz X.outer
def Kr (sc:Scope)(x:Str):Prop:=sc.names.lookup x=some .local\/sc.names.lookup x=some .cell\/sc.names.lookup x=some .free
def GQ (sc:Scope)(x:Str):Prop:=sc.names.lookup x=some .local\/sc.names.lookup x=some .cell
def cm (env:Env)(h:Heap)(m:gj)(x:Str)(u:Value):Prop:=
 (env.kindOf x=some .local/\m x=some u)\/((env.kindOf x=some .cell\/env.kindOf x=some .free)/\∃ c,env.cells.lookup x=some c/\h.IsCell c (some u))
structure Cx.Ok (X:Cx):Prop where
 mod:Mod X.K X.mg X.base
 kind:X.env.scope.kind = .function
 glob:X.env.globals=mainGlobals
 blt:X.env.builtins=builtinsNs
 above:X.s₀.heap.objs.size<=X.env.locals
 inj:∀ x y c,X.env.cells.lookup x=some c->X.env.cells.lookup y=some c->x=y
 has:∀ x,(X.env.kindOf x=some .cell\/X.env.kindOf x=some .free)->∃ c,X.env.cells.lookup x=some c
 kt:∀ x c,X.fn x=true->X.env.cells.lookup x=some c->X.s₀.heap.objs.size<=c
 hd:X.calm=true->X.A.handled=none
 frames:X.A.frames=some X.stack
 kI:X.stack=X.outer\/(X.stack=X.env :: X.outer/\X.env.frame=some X.env.locals)
 kS:∀ b∈X.ex,b≠X.env.locals/\∀ x c,X.env.cells.lookup x=some c->c≠b
 bs:∀ b o,X.base.get? b=some o->X.s₀.heap.get? b=some o/\X.H₀ b=none
 j5:X.base.objs.size<=X.s₀.heap.objs.size
 jP:∀ b o,X.base.get? b=some o->b∉X.ex
 jU:∀ b∈X.ex,b∉X.fs
 iW:X.s₀.heap.FunFrames X.base X.outer
 j8:∀ b∈X.fs,X.H₀ b=none
structure gv (X:Cx)(aa:List (Addr×Obj))(σ:List (Option V))(H:Hp)(s:Shared):Prop where
 ok:X.Ok
 os:s.os=X.s₀.os
 bare:AllBare s.gens
 base:Un X.fs X.ex X.H₀ H X.s₀.heap s.heap
 loc:∃ m,s.heap.Ns X.env.locals m/\∀ (i:Nat) (x:Str) (v:V),X.N[i]? = some x->σ[i]? = some (some v)->Kr X.env.scope x->∃ u,hG v u/\cm X.env s.heap m x u
 cell:∀ x c,X.env.cells.lookup x=some c->∃ v,s.heap.IsCell c v
 free:H X.env.locals=none
 iF:∀ x c,X.env.cells.lookup x=some c->H c=none\/(X.fn x=false/\∃ o,H c=some (.frz o (.own 0)))
 pin:∀ p∈X.pn++aa,s.heap.get? p.1=some p.2/\H p.1=none/\p.1≠X.env.locals/\p.1∉X.fs/\∀ v,p.2.data≠.cell v
 hW:iQ X.prog X.w H s.heap
 len:σ.length=X.N.length
section
variable {X:Cx}{σ:List (Option V)}
theorem Cx.Ok.nofr (ok:X.Ok){o:Obj}(e:X.base.get? b=some o):b∉X.fs:=fun hb=>by
 have:=(ok.iW.mem hb).1;rw[e] at this;cases this
theorem gv.bs (I:gv X aa σ H s):∀ b o,X.base.get? b=some o->s.heap.get? b=some o/\H b=none:=fun b o e=>
 ⟨I.base.keep b o (I.ok.bs b o e).1 (I.ok.bs b o e).2 (I.ok.nofr e) (I.ok.jP b o e),I.base.free b o (I.ok.bs b o e).1 (I.ok.bs b o e).2 (I.ok.jP b o e)⟩
theorem gv.bk (I:gv X aa σ H s):∀ b o,X.base.get? b=some o->s.heap.get? b=some o:=fun b o e=>(I.bs b o e).1
theorem gv.mod (I:gv X aa σ H s):Mod X.K X.mg X.base:=I.ok.mod
theorem gv.iY (I:gv X aa σ H s):X.K.In s.heap:=I.ok.mod.km.keeps I.bk
theorem gv.lt (I:gv X aa σ H s):X.env.locals<s.heap.objs.size:=let ⟨_,hn,_⟩:=I.loc;hn.lt
theorem gv.sz (I:gv X aa σ H s):X.s₀.heap.objs.size<=s.heap.objs.size:=Bu I.ok.above (HF I.lt)
theorem gv.kU (I:gv X aa σ H s)(h:s.heap.objs.size<=a):a∉X.fs:=fun hb=>by
 obtain⟨_,o,ho,_⟩:=I.ok.iW.mem hb;exact absurd (Cq (Bg ho) (Bu I.sz h)) (EZ _)
theorem gv.kA (I:gv X aa σ H s):∀ x c,X.env.cells.lookup x=some c->c≠X.env.locals:=fun x c e z=>by
 obtain⟨v,o,ho,hd⟩:=I.cell x c e;obtain⟨m,⟨o',es,ep,ho',hd',_⟩,_⟩:=I.loc;rw[z,ho'] at ho;cases ho;rw[hd'] at hd;cases hd
theorem gv.iW (I:gv X aa σ H s):s.heap.FunFrames X.base X.outer:=by
 have all:∀ (l:List Env),(∀ b∈Bz l,b∈X.fs)->X.s₀.heap.FunFrames X.base l->s.heap.FunFrames X.base l:=by
  intro l
  induction l with
  | nil=>intro _ _;trivial
  | cons env r ih=>
   intro hs hl;obtain⟨hk,⟨L,o,hf,hn,ho,hd⟩,hr⟩:=hl;have hL:L∈X.fs:=hs L (by unfold Bz;rw[Lv,hf];exact CO);obtain⟨sl,e⟩:=I.base.slot L o ho (I.ok.j8 L hL) hL fun z=>I.ok.jU L z hL;exact⟨hk,⟨L,_,hf,hn,e,hd⟩,ih (fun b hb=>hs b (by unfold Bz;rw[Lv,hf];exact CH _ hb)) hr⟩
 exact all X.outer (fun _ hb=>hb) I.ok.iW
theorem gv.stack (I:gv X aa σ H s):s.heap.FunFrames X.base X.stack:=by
 rcases I.ok.kI with e | ⟨e,hf⟩
 . rw[e];exact I.iW
 . rw[e];obtain⟨m,hn,_⟩:=I.loc;refine .cons (by rw[I.ok.kind];decide) hf hn ?_ I.iW;exact Heap.get?_none_of_le (Bu I.ok.j5 I.ok.above)
theorem gv.jL (I:gv X aa σ H s):∀ b∈Bz X.stack,b∈X.env.locals :: X.fs:=fun b hb=>by
 rcases I.ok.kI with e | ⟨e,hf⟩
 . rw[e] at hb;exact CH _ hb
 . rw[e] at hb;unfold Bz at hb;rw[Lv,hf] at hb;exact hb
theorem gv.jr (I:gv X aa σ H s):∀ b∈Bz X.stack,H b=none:=fun b hb=>by
 rcases List.mem_cons.mp (I.jL b hb) with e | hb
 . rw[e];exact I.free
 . obtain⟨_,o,ho,_⟩:=I.ok.iW.mem hb;exact I.base.free b o ho (I.ok.j8 b hb) fun z=>I.ok.jU b z hb
theorem gv.step {g':Array GenState}{d':Drawn}(I:gv X aa σ H s)
 (hch:∀ b∈ch,(b∈X.ex\/X.s₀.heap.objs.size<=b)/\b≠X.env.locals/\(∀ x c,X.env.cells.lookup x=some c->c≠b)/\∀ p∈X.pn++aa,p.1≠b)
 (keep:∀ b o,b≠X.env.locals->b∉X.fs->b∉ch->s.heap.get? b=some o->H b=none->h'.get? b=some o)
 (slot:∀ b o,b≠X.env.locals->b∈X.fs->b∉ch->s.heap.get? b=some o->H b=none->∃ sl,h'.get? b=some { o with slots:=sl })(free:∀ b o,b∉ch->s.heap.get? b=some o->H b=none->H' b=none)
 (there:∀ b o,b∉ch->s.heap.get? b=some o->∃ o',h'.get? b=some o')
 (jp:∀ b xs,H b=some (.tup xs)->H' b=some (.tup xs))(iX:∀ b o u,H b=some (.frz o u)->H' b=some (.frz o u))(ji:∀ b ps,H b=some (.iZ ps)->∃ more,H' b=some (.iZ (ps++more)))
 (ns:∀ m,s.heap.Ns X.env.locals m->h'.Ns X.env.locals m)(hW:iQ X.prog X.w H' h')(hg:AllBare g') :
 gv X aa σ H' { s with heap:=h',gens:=g',drawn:=d',toks:=t' }:=by
 have neL:∀ b o,X.s₀.heap.get? b=some o->b≠X.env.locals:=fun b o e=>BC (Cq (Bg e) I.ok.above);have neC:∀ b o,X.s₀.heap.get? b=some o->b∉X.ex->b∉ch:=fun b o e hx hb=>by
  rcases(hch b hb).1 with z | z
  . exact hx z
  . exact absurd (Cq (Bg e) z) (EZ _)
 have cellK:∀ x c,X.env.cells.lookup x=some c->∀ v,s.heap.IsCell c v->h'.IsCell c v:=fun x c e v ⟨o,ho,hd⟩=>by
  have nch:c∉ch:=fun z=>(hch c z).2.2.1 x c e rfl;rcases I.iF x c e with fc | ⟨_,of,hf⟩
  . by_cases hc:c∈X.fs
    . obtain⟨sl,q⟩:=slot c o (I.kA x c e) hc nch ho fc;exact⟨_,q,hd⟩
    . exact⟨o,keep c o (I.kA x c e) hc nch ho fc,hd⟩
  . obtain⟨e1,_⟩:=I.hW c _ hf;obtain⟨e2,_⟩:=hW c _ (iX c _ _ hf);rw[ho] at e1;cases e1;exact⟨o,e2,hd⟩
 refine⟨I.ok,I.os,hg,⟨fun b o e n hb hx=>?_,fun b o e n hb hx=>?_,fun b o e n hx=>?_,fun b o e hx=>?_,fun b xs e=>jp b xs (I.base.jp b xs e),fun b o xs e=>iX b o xs (I.base.iX b o xs e),fun b ps e=>?_⟩,?_,fun x c e=>?_,?_,fun x c e=>?_,fun p hp=>?_,hW,I.len⟩
 . exact keep b o (neL b o e) hb (neC b o e hx) (I.base.keep b o e n hb hx) (I.base.free b o e n hx)
 . obtain⟨sl,e1⟩:=I.base.slot b o e n hb hx;obtain⟨sl',e2⟩:=slot b _ (neL b o e) hb (neC b o e hx) e1 (I.base.free b o e n hx);exact⟨sl',e2⟩
 . obtain⟨o',e1⟩:=I.base.there b o e hx;exact free b o' (neC b o e hx) e1 (I.base.free b o e n hx)
 . obtain⟨o',e1⟩:=I.base.there b o e hx;exact there b o' (neC b o e hx) e1
 . obtain⟨m1,e1⟩:=I.base.ji b ps e;obtain⟨m2,e2⟩:=ji b _ e1;exact⟨m1++m2,by rw[e2,Array.append_assoc]⟩
 . obtain⟨m,hn,hl⟩:=I.loc;refine⟨m,ns m hn,fun i x v e1 e2 e3=>?_⟩;obtain⟨u,r,l⟩:=hl i x v e1 e2 e3;refine⟨u,r,?_⟩;rcases l with l | ⟨k,c,e,z⟩
   . exact .inl l
   . exact .inr ⟨k,c,e,cellK x c e _ z⟩
 . obtain⟨v,z⟩:=I.cell x c e;exact⟨v,cellK x c e v z⟩
 . obtain⟨m,⟨o,_,_,ho,_⟩,_⟩:=I.loc;exact free _ o (fun z=>(hch _ z).2.1 rfl) ho I.free
 . obtain⟨v,o,ho,hd⟩:=I.cell x c e;rcases I.iF x c e with fc | ⟨fn0,of,hf⟩
   . exact .inl (free c o (fun z=>(hch c z).2.2.1 x c e rfl) ho fc)
   . exact .inr ⟨fn0,of,iX c _ _ hf⟩
 . obtain⟨e,n,ne,nf,d⟩:=I.pin p hp;have nch:p.1∉ch:=fun z=>(hch p.1 z).2.2.2 p hp rfl;exact⟨keep p.1 p.2 ne nf nch e n,free p.1 p.2 nch e n,ne,nf,d⟩
theorem gv.un (I:gv X aa σ H s)(u:Un X.fs [] H H' s.heap h')(hW:iQ X.prog X.w H' h'):gv X aa σ H' { s with heap:=h',toks:=t' }:=by
 obtain⟨m,⟨o,es,ep,ho,r⟩,_⟩:=id I.loc;obtain⟨sl,hL⟩:=u.any ho I.free (by simp);exact I.step (g':=s.gens) (d':=s.drawn) (ch:=[]) (fun _ z=>nomatch z) (fun b o _ hb _ e n=>u.keep b o e n hb (by simp)) (fun b o _ hb _ e n=>u.slot b o e n hb (by simp)) (fun b o _ e n=>u.free b o e n (by simp)) (fun b o _ e=>u.there b o e (by simp)) u.jp u.iX u.ji (fun m' hm=>by
  obtain⟨o',es',ep',ho',r'⟩:=hm;rw[ho] at ho';cases ho';exact⟨_,es',ep',hL,r'⟩) hW I.bare
theorem gv.call {g':Array GenState}{d':Drawn}(I:gv X aa σ H s)(u:Un (Bz X.stack) ch H H' s.heap h')(hW:iQ X.prog X.w H' h')(hg:AllBare g')
 (hch:∀ b∈ch,(b∈X.ex\/X.s₀.heap.objs.size<=b)/\b≠X.env.locals/\(∀ x c,X.env.cells.lookup x=some c->c≠b)/\∀ p∈X.pn++aa,p.1≠b) :
 gv X aa σ H' { s with heap:=h',gens:=g',drawn:=d',toks:=t' }:=by
 obtain⟨m,⟨o,es,ep,ho,r⟩,_⟩:=id I.loc;obtain⟨sl,hL⟩:=u.any ho I.free fun z=>(hch _ z).2.1 rfl;exact I.step (ch:=ch) hch (fun b o hL hb hc e n=>u.keep b o e n (fun z=>(List.mem_cons.mp (I.jL b z)).elim hL hb) hc) (fun b o _ _ hc e n=>u.any e n hc) (fun b o hc e n=>u.free b o e n hc) (fun b o hc e=>u.there b o e hc) u.jp u.iX u.ji (fun m' hm=>by
  obtain⟨o',es',ep',ho',r'⟩:=hm;rw[ho] at ho';cases ho';exact⟨_,es',ep',hL,r'⟩) hW hg
theorem gv.turned (I:gv X aa σ H s)(k:∀ b o,b≠it->s.heap.get? b=some o->h'.get? b=some o)(hn:H it=none)(hL:it≠X.env.locals)
 (h1:it∈X.ex\/X.s₀.heap.objs.size<=it)(h2:∀ x c,X.env.cells.lookup x=some c->c≠it)(h3:∀ p∈X.pn++aa,p.1≠it):gv X aa σ H { s with heap:=h',toks:=t' }:=by
 have nit:∀ b u,H b=some u->b≠it:=fun b u e z=>by rw[z,hn] at e;cases e
 refine I.step (g':=s.gens) (d':=s.drawn) (ch:=[it]) (fun b hb=>?_) (fun b o _ _ hc e _=>k b o (fun z=>hc (by simp[z])) e) (fun b o _ _ hc e _=>⟨o.slots,k b o (fun z=>hc (by simp[z])) e⟩) (fun _ _ _ _ n=>n)
  (fun b o hc e=>⟨o,k b o (fun z=>hc (by simp[z])) e⟩) (fun _ _ e=>e) (fun _ _ _ e=>e) (fun b ps e=>⟨#[],by rw[e];simp⟩) (fun m hm=>?_) (fun b u e=>?_) I.bare
 . have e:b=it:=by simpa using hb
   subst e;exact⟨h1,hL,h2,h3⟩
 . obtain⟨o,es,ep,ho,r⟩:=hm;exact⟨o,es,ep,k _ o (Ne.symm hL) ho,r⟩
 . refine(I.hW b u e).jo (fun c v hc q=>k c v ?_ q) (fun _ q=>q) fun _ _ q=>q;rcases hc with z | z
   . rw[z];exact nit b u e
   . exact nit c _ z
theorem gv.tok (I:gv X aa σ H s)(t:Nat):gv X aa σ H { s with toks:=t }:=I.un (h':=s.heap) (t':=t) Un.refl I.hW
theorem gv.kept (I:gv X aa σ H s)(k:∀ b u,s.heap.get? b=some u->h'.get? b=some u):gv X aa σ H { s with heap:=h',toks:=t' }:=I.un (Un.kept k) (I.hW.kept k)
theorem gv.laid (I:gv X aa σ H s)(k:∀ b u,s.heap.get? b=some u->h'.get? b=some u)(hp:s.heap.objs.size<=a)(new:im X.prog X.w (Ab H a o) h' a o) :
 gv X aa σ (Ab H a o) { s with heap:=h',toks:=t' }:=I.un (Un.laid k hp (I.hW.fresh hp)) (I.hW.laid k hp new)
theorem gv.write {x e:Addr}(I:gv X aa σ H s)(mu:KM (H x))(he:e=x\/H e=some (.own x))(k:∀ b u,b≠e->s.heap.get? b=some u->h'.get? b=some u)(heo:∃ u,h'.get? e=some u)
 (new:im X.prog X.w (Ab H x o) h' x o):gv X aa σ (Ab H x o) { s with heap:=h',toks:=t' }:=I.un (Un.write mu he k heo) (I.hW.write mu he k heo new)
theorem gv.jK {pins':List (Addr×Obj)}(I:gv X aa σ H s)(h:∀ p∈pins',s.heap.get? p.1=some p.2/\H p.1=none/\p.1≠X.env.locals/\p.1∉X.fs/\∀ v,p.2.data≠.cell v):gv X pins' σ H s:=
 ⟨I.ok,I.os,I.bare,I.base,I.loc,I.cell,I.free,I.iF,fun p hp=>(List.mem_append.mp hp).elim (fun z=>I.pin p (Ot _ z)) (h p),I.hW,I.len⟩
theorem VI (hN:N.Nodup)(a:N[i]? = some x)(b:N[j]? = some x):i=j:=by
 obtain⟨h1,e1⟩:=List.getElem?_eq_some_iff.mp a;obtain⟨h2,e2⟩:=List.getElem?_eq_some_iff.mp b;exact(Pm hN).mp (e1.trans e2.symm)
theorem Vf {M:Model}{u:Value}{Q:Unit->Shared->Prop}(I:gv X aa σ H s)(hN:X.N.Nodup)(hi:X.N[i]? = some x)(hx:GQ X.env.scope x)(r:hG v u)
 (h:∀ s',gv X aa (σ.set i (some v)) H s'->(∃ a,Heap.SameBut a s.heap s'.heap/\(a=X.env.locals\/X.env.cells.lookup x=some a))->Q () s')(hf:X.fn x=true\/X.env.scope.names.lookup x=some .local:=by first | exact .inl rfl | exact .inr rfl | assumption):wpAny M A (storeName X.env x u) Q E s:=by
 obtain⟨m,hn,hl⟩:=id I.loc;have hcls:(X.env.scope.kind == .class || (X.env.scope.kind == .module && X.env.locals != X.env.globals))=false:=by rw[I.ok.kind];rfl
 have hiσ:i<σ.length:=by rw[I.len];exact(List.getElem?_eq_some_iff.mp hi).1
 have kA:=I.kA;have tracked:∀ {a:Addr}{h':Heap},(∃ o,s.heap.get? a=some o/\H a=none)->Heap.SameBut a s.heap h'->iQ X.prog X.w H h':=fun {a h'} ha hs b ob e=>by
  obtain⟨_,_,hfree⟩:=ha;refine(I.hW b ob e).jo (fun c w' hc q=>(hs.2 c ?_).trans q) (fun _ q=>q) fun _ _ q=>q;rintro rfl;rcases hc with rfl | hc
  . rw[hfree] at e;cases e
  . rw[hfree] at hc;cases hc
 rcases hx with hk | hk
 . refine wpAny_storeName_local hk hn (fun h' hn' hs=>?_) hcls;obtain⟨oL,_,_,hoL,_⟩:=id hn;refine h _ ⟨I.ok,I.os,I.bare,⟨fun b o e n hb hx=>?_,fun b o e n hb hx=>?_,I.base.free,fun b o e hx=>?_,I.base.jp,I.base.iX,I.base.ji⟩,⟨_,hn',fun j y v' e1 e2 e3=>?_⟩,fun y c e=>?_,I.free,I.iF,fun p hp=>?_,tracked ⟨oL,hoL,I.free⟩ hs,by simpa using I.len⟩ ⟨_,hs,.inl rfl⟩
   . exact(hs.2 b (BC (Cq (Bg e) I.ok.above))).trans (I.base.keep b o e n hb hx)
   . obtain⟨sl,e1⟩:=I.base.slot b o e n hb hx;exact⟨sl,(hs.2 b (BC (Cq (Bg e) I.ok.above))).trans e1⟩
   . obtain⟨o',e1⟩:=I.base.there b o e hx;exact⟨o',(hs.2 b (BC (Cq (Bg e) I.ok.above))).trans e1⟩
   . by_cases hj:j=i
     . subst hj;rw[hi] at e1;cases e1;rw[Sv hiσ] at e2;cases e2
       exact⟨u,r,.inl ⟨hk,by simp⟩⟩
     . rw[List.getElem?_set_ne (Ne.symm hj)] at e2;obtain⟨u',r',q⟩:=hl j y v' e1 e2 e3;refine⟨u',r',?_⟩;rcases q with⟨k,e⟩ | ⟨k,c,e,z⟩
       . refine .inl ⟨k,?_⟩;have:y≠x:=fun e=>hj (VI hN e1 (e ▸ hi));simp[this,e]
       . exact .inr ⟨k,c,e,z.sameBut hs (kA y c e)⟩
   . obtain⟨w',z⟩:=I.cell y c e;exact⟨w',z.sameBut hs (kA y c e)⟩
   . obtain⟨e,n,ne,nf,d⟩:=I.pin p hp;exact⟨(hs.2 p.1 ne).trans e,n,ne,nf,d⟩
 . have hfn:X.fn x=true:=by
    rcases hf with z | z
    . exact z
    . rw[z] at hk;cases hk
   obtain⟨c,hc⟩:=I.ok.has x (.inl hk);obtain⟨w',z⟩:=I.cell x c hc;refine wpAny_storeName_cell I.ok.kind hk hc z (fun h' hc' hs=>?_);obtain⟨oc,hoc,hocd⟩:=id z;refine h { s with heap:=h' } ⟨I.ok,I.os,I.bare,⟨fun b o e n hb hx=>?_,fun b o e n hb hx=>?_,I.base.free,fun b o e hx=>?_,I.base.jp,I.base.iX,I.base.ji⟩,⟨m,hn.sameBut hs (Ne.symm (kA x c hc)),fun j y v' e1 e2 e3=>?_⟩,fun y c' e=>?_,I.free,I.iF,fun p hp=>?_,tracked ⟨oc,hoc,(I.iF x c hc).resolve_right fun z=>by rw[hfn] at z;cases z.1⟩ hs,by simpa using I.len⟩ ⟨c,hs,.inr hc⟩
   . exact(hs.2 b (BC (Cq (Bg e) (I.ok.kt x c hfn hc)))).trans (I.base.keep b o e n hb hx)
   . obtain⟨sl,e1⟩:=I.base.slot b o e n hb hx;exact⟨sl,(hs.2 b (BC (Cq (Bg e) (I.ok.kt x c hfn hc)))).trans e1⟩
   . obtain⟨o',e1⟩:=I.base.there b o e hx;exact⟨o',(hs.2 b (BC (Cq (Bg e) (I.ok.kt x c hfn hc)))).trans e1⟩
   . by_cases hj:j=i
     . subst hj;rw[hi] at e1;cases e1;rw[Sv hiσ] at e2;cases e2
       exact⟨u,r,.inr ⟨.inl hk,c,hc,hc'⟩⟩
     . rw[List.getElem?_set_ne (Ne.symm hj)] at e2;obtain⟨u',r',q⟩:=hl j y v' e1 e2 e3;refine⟨u',r',?_⟩;rcases q with q | ⟨k,c',e,z'⟩
       . exact .inl q
       . refine .inr ⟨k,c',e,z'.sameBut hs ?_⟩;rintro rfl;exact hj (VI hN e1 (I.ok.inj _ _ _ e hc ▸ hi))
   . by_cases hcc:c'=c
     . subst hcc;exact⟨_,hc'⟩
     . obtain⟨w2,z2⟩:=I.cell y c' e;exact⟨w2,z2.sameBut hs hcc⟩
   . obtain⟨e,n,ne,nf,d⟩:=I.pin p hp;refine⟨(hs.2 p.1 ?_).trans e,n,ne,nf,d⟩;intro q;rw[q,hoc] at e;have q':oc=p.2:=Option.some.inj e;exact d w' (by rw[<- q'];exact hocd)
theorem Ly {M:Model}{u:Value}{Q:Unit->Shared->Prop}(I:gv X aa σ H s)(hN:X.N.Nodup)(hi:X.N[i]? = some x)(hx:GQ X.env.scope x)(r:hG v u)
 (h:∀ s',gv X aa (σ.set i (some v)) H s'->Q () s')(hf:X.fn x=true\/X.env.scope.names.lookup x=some .local:=by first | exact .inl rfl | exact .inr rfl | assumption):wpAny M A (storeName X.env x u) Q E s:=
 Vf I hN hi hx r (fun s' I' _=>h s' I') hf
theorem gv.jW (I:gv X aa σ H s)(ho:s'.os=s.os)(u:Un (Bz X.stack) ch H H' s.heap s'.heap)(hW:iQ X.prog X.w H' s'.heap)(hg:AllBare s'.gens)
 (hch:∀ b∈ch,(b∈X.ex\/X.s₀.heap.objs.size<=b)/\b≠X.env.locals/\(∀ x c,X.env.cells.lookup x=some c->c≠b)/\∀ p∈X.pn++aa,p.1≠b):gv X aa σ H' s':=by
 obtain⟨h',g',d',t',o'⟩:=s';have e:o'=s.os:=ho;subst e;exact I.call (g':=g') (t':=t') (d':=d') u hW hg hch
end
abbrev XK:=Value->Option Addr->Hp->Prop
abbrev St:=List (Option V)
abbrev VK:=V->Hp->Prop
abbrev TE:=St->Hp->VK->Prop
abbrev TT:=St->Hp->(Bool->Hp->Prop)->Prop
abbrev TA:=St->Hp->(List V->Hp->Prop)->Prop
structure DE where
 nx:St->Hp->Prop
 rt:VK
 bk:St->Hp->Prop:=fun _ _=>False
 ct:St->Hp->Prop:=fun _ _=>False
abbrev TS:=DE->St->Hp->Prop
def EP (X:Cx)(aa:List (Addr×Obj))(σ:St)(Q:VK)(u:Value)(s':Shared):Prop:=∃ v H',gv X aa σ H' s'/\hG v u/\Q v H'
def TP (X:Cx)(aa:List (Addr×Obj))(σ:St)(Q:Bool->Hp->Prop)(b:Bool)(s':Shared):Prop:=∃ H',gv X aa σ H' s'/\Q b H'
def AP (X:Cx)(aa:List (Addr×Obj))(σ:St)(Q:List V->Hp->Prop)(us:List Value)(s':Shared):Prop:=∃ vs H',gv X aa σ H' s'/\hI vs us/\Q vs H'
def SP (X:Cx)(aa:List (Addr×Obj))(D:DE)(f:Flow)(s':Shared):Prop:=
 match f with
 | .next=>∃ σ' H',gv X aa σ' H' s'/\D.nx σ' H'
 | .brk=>∃ σ' H',gv X aa σ' H' s'/\D.bk σ' H'
 | .cont=>∃ σ' H',gv X aa σ' H' s'/\D.ct σ' H'
 | .ret u=>∃ v σ' H',gv X aa σ' H' s'/\hG v u/\D.rt v H'
def PE (X:Cx)(e:Expr)(t:TE):Prop:=
 ∀ (aa:List (Addr×Obj)) (s:Shared) (σ:St) (H:Hp) (Q:VK),gv X aa σ H s->t σ H Q->wpAny (model X.prog X.w) X.A (eval e X.env) (EP X aa σ Q) X.xe s
def PT (X:Cx)(e:Expr)(t:TT):Prop:=
 ∀ (aa:List (Addr×Obj)) (s:Shared) (σ:St) (H:Hp) (Q:Bool->Hp->Prop),gv X aa σ H s->t σ H Q->wpAny (model X.prog X.w) X.A (isTrue e X.env (eval e X.env)) (TP X aa σ Q) X.xe s
def PW (X:Cx)(e:Expr)(t:TT):Prop:=
 ∀ (whole:Sem Value) (aa:List (Addr×Obj)) (s:Shared) (σ:St) (H:Hp) (Q:Bool->Hp->Prop),gv X aa σ H s->t σ H Q->wpAny (model X.prog X.w) X.A (isTrue e X.env whole) (TP X aa σ Q) X.xe s
theorem PW.pt {X:Cx}{t:TT}(h:PW X e t):PT X e t:=h _
def PA (X:Cx)(es:List Expr)(t:TA):Prop:=
 ∀ (pos:Pos) (aa:List (Addr×Obj)) (s:Shared) (σ:St) (H:Hp) (Q:List V->Hp->Prop),gv X aa σ H s->t σ H Q->wpAny (model X.prog X.w) X.A (spliced (backTo pos (starEach es X.env))) (AP X aa σ Q) X.xe s
def PS (X:Cx)(st:Stmt)(t:TS):Prop:=
 ∀ (aa:List (Addr×Obj)) (s:Shared) (σ:St) (H:Hp) (D:DE),gv X aa σ H s->t D σ H->wpAny (model X.prog X.w) X.A (exec st X.env) (SP X aa D) X.xe s
def i0 (X:Cx)(st:List Stmt)(t:TS):Prop:=
 ∀ (aa:List (Addr×Obj)) (s:Shared) (σ:St) (H:Hp) (D:DE),gv X aa σ H s->t D σ H->wpAny (model X.prog X.w) X.A (execs st X.env) (SP X aa D) X.xe s
theorem Av {α:Type}{t:Sem α}{Q Q':α->Shared->Prop}{M:Model}(h:wpAny M A t Q E s)(hQ:∀ a s,Q a s->Q' a s):wpAny M A t Q' E s:=C6 h hQ fun _ _ x=>x
theorem Bl {α β:Type}{p q r:α->β->Prop}{c:Prop}(k:∀ a b,p a b->q a b->r a b->c):(∃ a b,p a b/\q a b/\r a b)->c:=fun h=>by
 obtain⟨a,b,x,y,z⟩:=h;exact k a b x y z
section
variable {X:Cx}
def Eh (i:Nat):TE:=fun σ H Q=>∃ v,σ[i]? = some (some v)/\Q v H
def tC (v:V):TE:=fun _ H Q=>Q v H
theorem VV (hN:X.N[i]? = some x)(hv:Kr X.env.scope x)(hd:(x == ("__debug__" : Str))=false:=by decide)(hcd:(x == ("__classdict__" : Str))=false:=by decide):PE X (.Name x pos) (Eh i):=by
 intro aa s σ H Q I h;obtain⟨v,e,h⟩:=h;obtain⟨m,hn,hl⟩:=I.loc;obtain⟨u,r,l⟩:=hl i x v hN e hv;have fin:EP X aa σ Q u s:=⟨v,H,I,r,h⟩
 rcases l with⟨hk,hm⟩ | ⟨hk,c,hc,hcell⟩
 . exact wpAny_Name (wpAny_loadName_local I.ok.kind hk hn hm fin) hd
 . rcases hk with hk | hk
   . exact wpAny_Name (wpAny_loadName_cell I.ok.kind hk hc hcell fin) hd
   . exact wpAny_Name (wpAny_loadName_free I.ok.kind hk hc hcell fin hcd) hd
theorem Ac {i j pos}:PE X (.Constant (.int i) j pos) (tC (.int i)):=fun _ _ _ H _ I h=>wpAny_Constant_int ⟨.int i,H,I.tok _,⟨_,U⟩,h⟩
theorem Dx {b j pos}:PE X (.Constant (.bool b) j pos) (tC (.bl b)):=fun _ _ _ H _ I h=>Constant_bool ⟨.bl b,H,I,U,h⟩
theorem Db {j pos}:PE X (.Constant .none j pos) (tC .non):=fun _ _ _ H _ I h=>Constant_none ⟨.non,H,I,U,h⟩
theorem AT {x j pos}:PE X (.Constant (.str x) j pos) (tC (.str x)):=fun _ _ _ H _ I h=>Calls.Constant_str ⟨.str x,H,I.tok _,⟨_,U⟩,h⟩
def Gl (X:Cx)(x:Str):Prop:=X.env.kindOf x=some .globalImplicit
theorem Hc {u:Value}(I:gv X aa σ H s)(hg:Gl X x)(hm:X.mg x=some u)(h:Q u s)
 (hd:(x == ("__debug__" : Str))=false:=by decide):wpAny (model X.prog X.w) X.A (eval (.Name x pos) X.env) Q E s:=
 Calls.Name_function_global I.ok.kind hg (Calls.loadGlobal_global (by rw[I.ok.glob];exact I.mod.glob.keeps I.bk) hm h) hd
theorem GC {u:Value}(I:gv X aa σ H s)(hg:Gl X x)(hm:X.mg x=none)(hv:bootBuiltins x=some u)(h:Q u s)
 (hn:x≠"__name__":=by decide)(hd:(x == ("__debug__" : Str))=false:=by decide):wpAny (model X.prog X.w) X.A (eval (.Name x pos) X.env) Q E s:=by
 obtain⟨mb,h1,h2⟩:=I.mod.blt;exact Calls.Name_function_global I.ok.kind hg (Calls.loadGlobal_builtin (by rw[I.ok.glob];exact I.mod.glob.keeps I.bk) hm (by rw[I.ok.blt];exact h1.keeps I.bk) ((h2 x hn).trans hv) h) hd
theorem KC {u:Value}(hg:Gl X x)(hm:X.mg x=some u)(r:hG v u)(hd:(x == ("__debug__" : Str))=false:=by decide):PE X (.Name x pos) (tC v):=
 fun _ _ _ H _ I h=>Hc I hg hm ⟨v,H,I,r,h⟩ hd
theorem XL {u:Value}(hg:Gl X x)(hm:X.mg x=none)(hv:bootBuiltins x=some u)(r:hG v u)(hn:x≠"__name__":=by decide)(hd:(x == ("__debug__" : Str))=false:=by decide):PE X (.Name x pos) (tC v):=
 fun _ _ _ H _ I h=>GC I hg hm hv ⟨v,H,I,r,h⟩ hn hd
variable {a b:Expr}{tb:TE}
def PC (X:Cx)(op:CmpOp)(a b:Expr)(t:TE):Prop:=
 ∀ (aa:List (Addr×Obj)) (s:Shared) (σ:St) (H:Hp) (Q:VK),gv X aa σ H s->t σ H Q->
  wpAny (model X.prog X.w) X.A (eval a X.env) (fun v s₁=>wpAny (model X.prog X.w) X.A (eval b X.env) (fun u s₂=>wpAny (model X.prog X.w) X.A (compareOp op v u) (EP X aa σ Q) X.xe s₂) X.xe s₁) X.xe s
def tB (t:TE):TT:=fun σ H Q=>t σ H fun x H1=>∃ c,x = .bl c/\Q c H1
theorem PH {op:CmpOp}{t:TE}(h:PC X op a b t)(h1:behindInMarks op b=false:=by first | exact nobehind _ (by decide) (by decide) | rfl):PT X (.Compare a [op] [b] pos) (tB t):=by
 intro aa s σ H Q I hw;refine wpAny_isTrue_Compare1 (Av (h aa s σ H _ I hw) fun v s1 h1=>Av h1 fun u s2 h2=>Av h2 fun c s3=>Bl fun x H1 I1 r1 q1=>?_) h1;obtain⟨d,rfl,q⟩:=q1;cases r1
 exact Hu ⟨H1,I1,q⟩
theorem Ca {t:TE}(h:PE X e t)(he:∀ whole,isTrue e X.env whole=(do let v <- whole;standAt e.pos;holding [v] (truthy v)):=by intro _;rfl):PT X e (tB t):=by
 intro aa s σ H Q I hw;refine isTrue_plain (Av (h aa s σ H _ I hw) fun v s1=>Bl fun x H1 I1 r1 q1=>?_) (he _);obtain⟨d,rfl,q⟩:=q1;cases r1
 exact Hu ⟨H1,I1,q⟩
variable {tA tB':TT}{rest:List Expr}
def XH (t u:TT):TT:=fun σ H Q=>t σ H fun c H1=>if c=true then u σ H1 Q else Q false H1
def Zm (t u:TT):TT:=fun σ H Q=>t σ H fun c H1=>if c=true then Q true H1 else u σ H1 Q
def W4 (t:TT):TT:=fun σ H Q=>t σ H fun c H1=>Q (!c) H1
theorem NF (ha:PT X a tA):PW X (.BoolOp .And [a] pos) tA:=by
 intro wh aa s σ H Q I h;refine isTrue_and (Av (ha aa s σ H Q I h) fun c s1 e=>?_);cases c with
 | true=>exact isTrue_and_nil e
 | false=>exact e
theorem Gs (ha:PT X a tA):PW X (.BoolOp .Or [a] pos) tA:=by
 intro wh aa s σ H Q I h;refine isTrue_or (Av (ha aa s σ H Q I h) fun c s1 e=>?_);cases c with
 | false=>exact isTrue_or_nil e
 | true=>exact e
theorem O5 (ha:PT X a tA)(hb:PW X (.BoolOp .And (b :: rest) pos) tB'):PW X (.BoolOp .And (a :: b :: rest) pos) (XH tA tB'):=by
 intro wh aa s σ H Q I h;refine isTrue_and (Av (ha aa s σ H _ I h) fun c s1 hz=>?_);obtain⟨H1,I1,q1⟩:=hz;cases c with
 | true=>exact hb wh aa s1 σ H1 Q I1 q1
 | false=>exact⟨H1,I1,q1⟩
theorem Ge (ha:PT X a tA)(hb:PW X (.BoolOp .Or (b :: rest) pos) tB'):PW X (.BoolOp .Or (a :: b :: rest) pos) (Zm tA tB'):=by
 intro wh aa s σ H Q I h;refine isTrue_or (Av (ha aa s σ H _ I h) fun c s1 hz=>?_);obtain⟨H1,I1,q1⟩:=hz;cases c with
 | true=>exact⟨H1,I1,q1⟩
 | false=>exact hb wh aa s1 σ H1 Q I1 q1
theorem Dg (ha:PT X a tA):PT X (.UnaryOp .Not a pos) (W4 tA):=by
 intro aa s σ H Q I h;exact isTrue_not (ha aa s σ H (fun c H1=>Q (!c) H1) I h)
def Uq (ta tb:TE):TE:=fun σ H Q=>ta σ H fun x H1=>∃ c,x = .bl c/\if c=true then tb σ H1 Q else Q (.bl false) H1
def fB (ta:TE):TE:=fun σ H Q=>ta σ H fun x H1=>∃ c,x = .bl c/\Q (.bl (!c)) H1
theorem EF {op} {t:TE}(h:PE X a t):PE X (.BoolOp op [a] pos) t:=fun aa s σ H Q I hw=>BoolOp_one (h aa s σ H Q I hw)
theorem BV (ha:PE X a ta)(hb:PE X (.BoolOp .And (b :: rest) pos) tb):PE X (.BoolOp .And (a :: b :: rest) pos) (Uq ta tb):=by
 intro aa s σ H Q I h;refine BoolOp_and (Av (ha aa s σ H _ I h) fun v s1=>Bl fun x H1 I1 r1 q1=>?_);obtain⟨c,rfl,q1⟩:=q1;cases r1
 refine Hu ?_;cases c with
 | true=>exact hb aa s1 σ H1 Q I1 q1
 | false=>exact⟨.bl false,H1,I1,U,q1⟩
theorem ce (ha:PE X a ta):PE X (.UnaryOp .Not a pos) (fB ta):=by
 intro aa s σ H Q I h;refine UnaryOp_ (Av (ha aa s σ H _ I h) fun v s1=>Bl fun x H1 I1 r1 q1=>?_);obtain⟨c,rfl,q1⟩:=q1;cases r1
 exact not_of (Hu ⟨.bl (!c),H1,I1,U,q1⟩)
def RS (t:TT)(ta tb:TE):TE:=fun σ H Q=>t σ H fun c H1=>if c=true then ta σ H1 Q else tb σ H1 Q
theorem F7 (hc:PT X c tA)(ha:PE X a ta)(hb:PE X b tb):PE X (.IfExp c a b pos) (RS tA ta tb):=by
 intro aa s σ H Q I h;refine wpAny_IfExp (Av (hc aa s σ H _ I h) fun d s1 hz=>?_);obtain⟨H1,I1,q1⟩:=hz;cases d with
 | true=>exact ha aa s1 σ H1 Q I1 q1
 | false=>exact hb aa s1 σ H1 Q I1 q1
end
def gy (K:W.Frag)(H:Hp)(a:Addr)(xs:List V):Prop:=
 Rd H a (.lst xs)\/
  ∃ (o:Obj) (its:Array Value) (n:Nat),K.lookup a=some o/\o.cls = .type "list"/\o.dict=none/\o.data = .seq its n/\its.size<=sizeLine/\hI xs its.toList
def jx (K:W.Frag)(H:Hp)(a:Addr)(xs:List V):Prop:=
 Rd H a (.tup xs)\/
  ∃ (o:Obj) (its:Array Value) (n:Nat),K.lookup a=some o/\o.cls = .type "tuple"/\o.data = .seq its n/\its.size<=sizeLine/\hI xs its.toList
noncomputable def gU:Value->Option V
 | .none=>some .non
 | .bool b=>some (.bl b)
 | .int i _=>some (.int i)
 | .str x _=>some (.str x)
 | .bytes b _=>some (.byt b)
 | .float b _=>some (.flt b)
 | .ref a=>some (.ref a)
 | .type n=>some (.ty n)
 | _=>none
theorem hG.abs {x:V}{u:Value}(r:hG x u):gU u=some x:=by
 cases x with
 | non=>cases r;rfl
 | bl _=>cases r;rfl
 | int _=>obtain⟨t,rfl⟩:=r;rfl
 | str _=>obtain⟨t,rfl⟩:=r;rfl
 | byt _=>obtain⟨t,rfl⟩:=r;rfl
 | flt _=>obtain⟨t,rfl⟩:=r;rfl
 | ref _=>cases r;rfl
 | ty _=>cases r;rfl
theorem hG.inj {x:V}{u:Value}(r:hG x u)(q:hG y u):x=y:=Option.some.inj (r.abs.symm.trans q.abs)
theorem hI.inj:∀ {xs ys:List V}{us:List Value},hI xs us->hI ys us->xs=ys
 | _,_,_,.nil,.nil=>rfl
 | _,_,_,.cons r t,.cons r' t'=>by rw[r.inj r',hI.inj t t']
section
variable {X:Cx}{xs ys:List V}
theorem gy.of {K:W.Frag}(h:H a=some (.lst xs)):gy K H a xs:=.inl (.inl h)
theorem gv.list (I:gv X aa σ H s)(h:gy X.K H a xs):∃ its:List Value,hI xs its/\PlainL s.heap a its.toArray/\xs.length<=sizeLine:=by
 rcases h with h | ⟨o,its,n,hk,hc,hd,hs,hz,r⟩
 . obtain⟨z,its,n,r,e⟩:=h.ok I.hW;exact⟨its,r,⟨_,n,e,U,U,U⟩,z⟩
 . refine⟨its.toList,r,⟨o,n,I.iY a o hk,hc,hd,by simpa using hs⟩,?_⟩;have e:=r.length;simp only[Hn] at e;exact om
theorem gv.tuple (I:gv X aa σ H s)(h:jx X.K H a xs):∃ its:List Value,hI xs its/\IsTup s.heap a its.toArray/\xs.length<=sizeLine:=by
 rcases h with h | ⟨o,its,n,hk,hc,hs,hz,r⟩
 . obtain⟨z,its,r,p⟩:=h.ok I.hW;exact⟨its,r,p,z⟩
 . refine⟨its.toList,r,⟨o,I.iY a o hk,hc,n,by simpa using hs⟩,?_⟩;have e:=r.length;simp only[Hn] at e;exact om
theorem gv.iV (I:gv X aa σ H s)(h:gy X.K H a xs)(h':gy X.K H a ys):xs=ys:=by
 obtain⟨its,r,⟨o,n,e,_,_,d⟩,_⟩:=I.list h;obtain⟨its',r',⟨o',n',e',_,_,d'⟩,_⟩:=I.list h';rw[e] at e';cases e';rw[d] at d';injection d' with d1 _
 have:its=its':=by simpa using congrArg Array.toList d1
 subst this;exact r.inj r'
theorem gv.j3 (I:gv X aa σ H s)(h:jx X.K H a xs)(h':jx X.K H a ys):xs=ys:=by
 obtain⟨its,r,⟨o,e,_,n,d⟩,_⟩:=I.tuple h;obtain⟨its',r',⟨o',e',_,n',d'⟩,_⟩:=I.tuple h';rw[e] at e';cases e';rw[d] at d';injection d' with d1 _
 have:its=its':=by simpa using congrArg Array.toList d1
 subst this;exact r.inj r'
end
noncomputable abbrev Cx.jn (X:Cx) (E:gk):Cx:={ X with xe:=E }
noncomputable abbrev Cx.jN (X:Cx):Cx:=X.jn fun _ _=>False
theorem Cx.Ok.jn {X:Cx}(ok:X.Ok)(E:gk):(X.jn E).Ok:=
 ⟨ok.mod,ok.kind,ok.glob,ok.blt,ok.above,ok.inj,ok.has,ok.kt,ok.hd,ok.frames,ok.kI,ok.kS,ok.bs,ok.j5,ok.jP,ok.jU,ok.iW,ok.j8⟩
theorem Cx.Ok.iA {X:Cx}(ok:(X.jn E).Ok):X.Ok:=
 ⟨ok.mod,ok.kind,ok.glob,ok.blt,ok.above,ok.inj,ok.has,ok.kt,ok.hd,ok.frames,ok.kI,ok.kS,ok.bs,ok.j5,ok.jP,ok.jU,ok.iW,ok.j8⟩
section
variable {X:Cx}
theorem gv.jn (I:gv X aa σ H s)(E:gk):gv (X.jn E) aa σ H s:=⟨I.ok.jn E,I.os,I.bare,I.base,I.loc,I.cell,I.free,I.iF,I.pin,I.hW,I.len⟩
theorem gv.iA (I:gv (X.jn E) aa σ H s):gv X aa σ H s:=⟨I.ok.iA,I.os,I.bare,I.base,I.loc,I.cell,I.free,I.iF,I.pin,I.hW,I.len⟩
theorem SP.iA {f:Flow}(h:SP (X.jn E) aa D f s'):SP X aa D f s':=by
 cases f with
 | next=>obtain⟨σ',H',I,q⟩:=h;exact⟨σ',H',I.iA,q⟩
 | brk=>obtain⟨σ',H',I,q⟩:=h;exact⟨σ',H',I.iA,q⟩
 | cont=>obtain⟨σ',H',I,q⟩:=h;exact⟨σ',H',I.iA,q⟩
 | ret u=>obtain⟨v,σ',H',I,r,q⟩:=h;exact⟨v,σ',H',I.iA,r,q⟩
theorem i0.jN {st:List Stmt}{t:TS}(h:i0 X.jN st t):i0 X st t:=fun aa s σ H D I hw=>
 C6 (h aa s σ H D (I.jn _) hw) (fun _ _ q=>q.iA) fun _ _ z=>False.elim z
end
section
variable {X:Cx}{rest:List Stmt}{t u:TS}
def VZ:TS:=fun D σ H=>D.nx σ H
def GA (t u:TS):TS:=fun D σ H=>t { D with nx:=u D } σ H
theorem AB:i0 X [] VZ:=fun _ _ σ H _ I h=>JB ⟨σ,H,I,h⟩
theorem Ae (h1:PS X st t)(h2:i0 X rest u):i0 X (st :: rest) (GA t u):=by
 intro aa s σ H D I h;refine JA (Av (h1 aa s σ H { D with nx:=u D } I h) fun f s1 q=>?_);cases f with
 | next=>
  obtain⟨σ',H',I',q⟩:=q;exact h2 aa s1 σ' H' D I' q
 | ret v=>exact q
 | brk=>exact q
 | cont=>exact q
theorem Ba (h1:PS X st t):i0 X [st] t:=by
 intro aa s σ H D I h;refine JA (Av (h1 aa s σ H D I h) fun f s1 q=>?_);cases f with
 | next=>exact JB q
 | ret v=>exact q
 | brk=>exact q
 | cont=>exact q
theorem gv.quiet (I:gv X aa σ H s):interactive X.env=false:=by simp[interactive,I.ok.kind]
def cZ (te:TE):TS:=fun D σ H=>te σ H fun _ H1=>D.nx σ H1
theorem BT (he:PE X e te)(hs:swapsWith e none pos.line X.env=pure false:=by rfl):PS X (.Expr e pos) (cZ te):=by
 intro aa s σ H D I h;exact wpAny_Expr_any (Av (he aa s σ H _ I h) fun v s1=>Bl fun x H1 I1 r1 q1=>⟨σ,H1,I1,q1⟩) I.quiet hs
def Mv (te:TE):TS:=fun D σ H=>te σ H D.rt
theorem Zz (he:PE X e te):PS X (.Return (some e) pos) (Mv te):=by
 intro aa s σ H D I h;exact wpAny_Return_some (Av (he aa s σ H _ I h) fun v s1=>Bl fun x H1 I1 r1 q1=>⟨x,σ,H1,I1,r1,q1⟩)
theorem Aj (he:PE X e te):i0 X [.Return (some e) pos] (Mv te):=Ba (Zz he)
def Pp (c:TT)(t u:TS):TS:=fun D σ H=>c σ H fun b H1=>if b=true then t D σ H1 else u D σ H1
theorem Az {a b:List Stmt}(hc:PT X c tc)(ha:i0 X a t)(hb:i0 X b u):PS X (.If c a b pos) (Pp tc t u):=by
 intro aa s σ H D I h;refine wpAny_If (Av (hc aa s σ H _ I h) fun d s1 hz=>?_);obtain⟨H1,I1,q1⟩:=hz;cases d with
 | true=>exact ha aa s1 σ H1 D I1 q1
 | false=>exact hb aa s1 σ H1 D I1 q1
def d6:TS:=fun _ _ _=>False
theorem BY {sts:List Stmt}:i0 X sts d6:=fun _ _ _ _ _ _ h=>h.elim
end
abbrev TG:=V->St->Hp->(St->Hp->Prop)->Prop
abbrev HI:=List V->St->Hp->(St->Hp->Prop)->Prop
def PG (X:Cx)(target:Expr)(t:TG):Prop:=
 ∀ (aa:List (Addr×Obj)) (s:Shared) (σ:St) (H:Hp) (v:V) (u:Value) (Q:St->Hp->Prop),gv X aa σ H s->hG v u->t v σ H Q->
  wpAny (model X.prog X.w) X.A (assign target X.env u) (fun _ s'=>∃ σ' H',gv X aa σ' H' s'/\Q σ' H') X.xe s
def LP (X:Cx)(ts:List Expr)(t:HI):Prop:=
 ∀ (aa:List (Addr×Obj)) (s:Shared) (σ:St) (H:Hp) (vs:List V) (us:List Value) (Q:St->Hp->Prop),gv X aa σ H s->hI vs us->t vs σ H Q->
  wpAny (model X.prog X.w) X.A (assignInOrder ((assignEach ts X.env).map (·.2)) us) (fun _ s'=>∃ σ' H',gv X aa σ' H' s'/\Q σ' H') X.xe s
abbrev Qw:=V->V->V->Hp->(Hp->Prop)->Prop
def RX (X:Cx)(t:Qw):Prop:=
 ∀ (aa:List (Addr×Obj)) (s:Shared) (σ:St) (H:Hp) (o i v:V) (ov iv u:Value) (Q:Hp->Prop),gv X aa σ H s->hG o ov->hG i iv->hG v u->t o i v H Q->
  wpAny (model X.prog X.w) X.A (setItem ov iv u) (fun _ s'=>∃ H',gv X aa σ H' s'/\Q H') X.xe s
section
variable {X:Cx}
def AZ (i:Nat):TG:=fun v σ H Q=>Q (σ.set i (some v)) H
theorem Fm (hN:X.N.Nodup)(hi:X.N[i]? = some x)(hx:GQ X.env.scope x)(hf:X.fn x=true\/X.env.scope.names.lookup x=some .local:=by first | exact .inl rfl | exact .inr rfl | assumption):PG X (.Name x pos) (AZ i):=by
 intro aa s σ H v u Q I r h;exact Qy (Ly I hN hi hx r (fun s' I'=>⟨_,H,I',h⟩) hf)
def eU:HI:=fun vs σ H Q=>vs=[]/\Q σ H
def bM (t:TG)(u:HI):HI:=fun vs σ H Q=>∃ v r,vs=v :: r/\t v σ H fun σ' H'=>u r σ' H' Q
theorem Ti:LP X [] eU:=by
 intro aa s σ H vs us Q I r h;obtain⟨e,h⟩:=h;subst e;cases r
 exact assignInOrder_nil ⟨σ,H,I,h⟩
theorem MB {t:TG}{u:HI}(h1:PG X e t)(h2:LP X es u)
 (hs:(assignEach (e :: es) X.env).map (·.2)=assign e X.env :: (assignEach es X.env).map (·.2):=by rfl):LP X (e :: es) (bM t u):=by
 intro aa s σ H vs us Q I r h;obtain⟨v,vr,e1,h⟩:=h;subst e1;cases r with
 | cons r rr=>
  rw[hs];refine assignInOrder_cons (Av (h1 aa s σ H _ _ _ I r h) fun _ s1 hz=>?_);obtain⟨σ1,H1,I1,q1⟩:=hz;exact h2 aa s1 σ1 H1 _ _ Q I1 rr q1
def eX (K:W.Frag)(n:Nat)(t:HI):TG:=fun v σ H Q=>∃ a xs,v = .ref a/\jx K H a xs/\xs.length=n/\t xs σ H Q
theorem Sc {k:Nat}{t:HI}(hc:X.calm=true)(h:LP X es t)
 (hn:(assignEach es X.env).length=n:=by rfl)(hst:(assignEach es X.env).findIdx? (·.1)=none:=by rfl):PG X (.Tuple es k pos) (eX X.K n t):=by
 intro aa s σ H v u Q I r hw;obtain⟨a,xs,e1,hq,hl,hw⟩:=hw;subst e1;cases r
 obtain⟨its,rv,ht,hz⟩:=I.tuple hq;refine assign_Tuple_tuple (I.ok.hd hc) ht (by simp[hn,<- hl,rv.length]) hst fun h' hx=>?_;have I1:gv X aa σ H { s with heap:=h' }:=I.kept (t':=s.toks) fun b o e=>hx b o (BC (Bg e)) e;exact h aa _ σ H xs _ Q I1 (by simpa using rv) hw
def dz (to ti:TE)(t:Qw):TG:=fun v σ H Q=>to σ H fun o H1=>ti σ H1 fun i H2=>t o i v H2 fun H3=>Q σ H3
theorem eR {o i:Expr}{to ti:TE}{t:Qw}(ho:PE X o to)(hi:PE X i ti)(hs:RX X t)
 (ha:∀ v,assign (.Subscript o i pos) X.env v=(do
  let ov <- holding [v] (eval o X.env)
  let iv <- holding [v,ov] (eval i X.env)
  standAt pos
  holding [v,ov,iv] (setItem ov iv v)
  release [v,ov,iv] []):=by intro _;rfl):PG X (.Subscript o i pos) (dz to ti t):=by
 intro aa s σ H v u Q I r h;rw[ha];refine Am (GM (Av (ho aa s σ H _ I h) fun ov s1=>Bl fun x H1 I1 r1 q1=>?_));refine Am (GM (Av (hi aa s1 σ H1 _ I1 q1) fun iv s2=>Bl fun y H2 I2 r2 q2=>?_));refine Am (wpAny_standAt (Am (GM (Av (hs aa s2 σ H2 x y v ov iv u _ I2 r1 r2 r q2) fun _ s3 hz=>?_))));obtain⟨H3,I3,q3⟩:=hz;exact wpAny_release ⟨σ,H3,I3,q3⟩
def HY (te:TE)(g:TG):TS:=fun D σ H=>te σ H fun x H1=>g x σ H1 D.nx
theorem ay (he:PE X e te)(hg:PG X tg g)(hs:swapsWithSole [tg] e pos.line X.env=pure false:=by rfl)(hw:swappedStores [tg] e X.env=pure none:=by rfl)
 (h1:(assignEach [tg] X.env).map (·.2)=[assign tg X.env]:=by rfl):PS X (.Assign [tg] e pos) (HY te g):=by
 intro aa s σ H D I h;refine wpAny_Assign_stores (Av (he aa s σ H _ I h) fun v s1=>Bl fun x H1 I1 r1 q1=>?_) hs hw;rw[h1];exact Av (hg aa s1 σ H1 x v _ I1 r1 q1) fun _ s2 q=>q
theorem GY (hN:X.N.Nodup)(hi:X.N[i]? = some x)(hx:GQ X.env.scope x)(he:PE X e te)(hs:swapsWith e (some (.Name x pos')) pos.line X.env=pure false:=by rfl)(hf:X.fn x=true\/X.env.scope.names.lookup x=some .local:=by first | exact .inl rfl | exact .inr rfl | assumption) :
 PS X (.Assign [.Name x pos'] e pos) (HY te (AZ i)):=by
 intro aa s σ H D I h;refine wpAny_Assign_Name (Av (he aa s σ H _ I h) fun v s1=>Bl fun y H1 I1 r1 q1=>?_) hs;exact Ly I1 hN hi hx r1 (fun s2 I2=>⟨_,H1,I2,q1⟩) hf
theorem Ax (i:Nat){x:Str}{e:Expr}{te:TE}{pos':Pos}(hN:X.N.Nodup)(he:PE X e te)(hi:X.N[i]? = some x:=by rfl)(hx:GQ X.env.scope x:=by exact Or.inl rfl)(hs:swapsWith e (some (.Name x pos')) pos.line X.env=pure false:=by rfl)(hf:X.fn x=true\/X.env.scope.names.lookup x=some .local:=by first | exact .inl rfl | exact .inr rfl | assumption) :
 PS X (.Assign [.Name x pos'] e pos) (HY te (AZ i)):=GY hN hi hx he hs hf
end
section
variable {X:Cx}
def Vu (c:TT)(tb:TS):TS:=fun D σ H=>∃ W:Nat->St->Hp->Prop,(∃ m,W m σ H)/\∀ m σ H,W m σ H->
 c σ H fun b H1=>if b=true then ∃ N:St->Hp->Prop,(∀ σ' H',N σ' H'->∃ m',m'<m/\W m' σ' H')/\tb { D with nx:=N,ct:=N,bk:=D.nx } σ H1 else D.nx σ H1
theorem MD (hp:PassesOwn (model X.prog X.w) X.A X.env X.xe)(hc:PT X c tc)(hb:i0 X body tb):PS X (.While c body [] pos) (Vu tc tb):=by
 intro aa s σ H D I h;obtain⟨W,⟨m0,w0⟩,turn⟩:=h;refine wpAny_While (codeAny_whileLoop (fun n s'=>∃ σ' H',gv X aa σ' H' s'/\W n σ' H') ?_ m0 ⟨σ,H,I,w0⟩);rintro n s1 ⟨σ1,H1,I1,w1⟩;refine Hr hp (Av (hc aa s1 σ1 H1 _ I1 (turn n σ1 H1 w1)) fun b s2 hz=>?_);obtain⟨H2,I2,q2⟩:=hz;cases b with
 | true=>
  obtain⟨N,hN,q2⟩:=q2;rw[if_pos rfl];refine Hr hp (Av (hb aa s2 σ1 H2 _ I2 q2) fun f s3 q3=>?_);cases f with
  | next=>
   obtain⟨σ3,H3,I3,n3⟩:=q3;obtain⟨m',hm,w3⟩:=hN σ3 H3 n3;exact⟨m',hm,σ3,H3,I3,w3⟩
  | cont=>
   obtain⟨σ3,H3,I3,n3⟩:=q3;obtain⟨m',hm,w3⟩:=hN σ3 H3 n3;exact⟨m',hm,σ3,H3,I3,w3⟩
  | brk=>exact q3
  | ret v=>exact q3
 | false=>
  rw[if_neg BX];exact JB ⟨σ1,H2,I2,q2⟩
end
structure It where
 go:Nat->Hp->Prop
 jT:Nat->Hp->V->Hp->Prop
 stop:Nat->Hp->Prop
def E3 (X:Cx)(aa:List (Addr×Obj))(H:Hp)(b:Addr):Prop:=
 H b=none/\b≠X.env.locals/\b∉X.fs/\(b∈X.ex\/X.s₀.heap.objs.size<=b)/\(∀ x c,X.env.cells.lookup x=some c->c≠b)/\∀ p∈X.pn++aa,p.1≠b
theorem gv.jv {X:Cx}(I:gv X aa σ H s)(hb:s.heap.objs.size<=b)(hn:H' b=none):E3 X aa H' b:=by
 refine⟨hn,NR (Cq I.lt hb),I.kU hb,.inr (Bu I.sz hb),fun x c e z=>?_,fun p hp z=>?_⟩
 . obtain⟨v,q⟩:=I.cell x c e;exact absurd (Cq q.lt (by rw[z];exact hb)) (EZ _)
 . exact absurd (Cq (Bg (I.pin p hp).1) (by rw[z];exact hb)) (EZ _)
structure GZ (P:Program)(w:World)(K:W.Frag)(tg:Expr)(J:It)(fp:List Addr)(it:Addr)(tn:Nat->Heap->Prop):Prop where
 mem:it∈fp
 obj:∀ i h,tn i h->∀ b∈fp,∃ o,h.get? b=some o/\∀ v,o.data≠.cell v
 keep:∀ i h h',tn i h->(∀ b∈fp,∀ o,h.get? b=some o->h'.get? b=some o)->tn i h'
 item:∀ (X:Cx),X.prog=P->X.w=w->X.K=K->X.calm=true->∀ (i:Nat) (aa:List (Addr×Obj)) (s:Shared) (σ:St) (H:Hp) (E:gk),gv X aa σ H s->(∀ b∈fp,E3 X aa H b)->tn i s.heap->J.go i H->
  wpAny (model P w) X.A (pyNext (.ref it)) (fun r s1=>∃ u,r=some u/\
   wpAny (model P w) X.A (letOwnedTupleGo tg (.ref it) u) (fun _ s2=>∃ x H',gv X aa σ H' s2/\hG x u/\J.jT i H x H'/\tn (i+1) s2.heap/\∀ b∈fp,H' b=none) E s1) E s
 done:∀ (X:Cx),X.prog=P->X.w=w->X.K=K->X.calm=true->∀ (i:Nat) (aa:List (Addr×Obj)) (s:Shared) (σ:St) (H:Hp) (E:gk),gv X aa σ H s->(∀ b∈fp,E3 X aa H b)->tn i s.heap->J.stop i H->
  wpAny (model P w) X.A (pyNext (.ref it)) (fun r s1=>r=none/\gv X aa σ H s1) E s
 self:∀ (A:Around) (i:Nat) (s:Shared) (Q:gk) (E:gk),tn i s.heap->Q (.ref it) s->wpAny (model P w) A (pyIter (.ref it)) Q E s
abbrev TI:=St->Hp->(It->Hp->Prop)->Prop
def UG (X:Cx)(aa:List (Addr×Obj))(σ:St)(tg:Expr)(R:It->Hp->Prop)(itv:Value)(s2:Shared):Prop:=
 ∃ (it:Addr) (fp:List Addr) (tn:Nat->Heap->Prop) (J:It) (H':Hp),itv = .ref it/\gv X aa σ H' s2/\GZ X.prog X.w X.K tg J fp it tn/\tn 0 s2.heap/\(∀ b∈fp,E3 X aa H' b)/\R J H'
def PI (X:Cx)(tg iter:Expr)(wi:TI):Prop:=
 ∀ (aa:List (Addr×Obj)) (s:Shared) (σ:St) (H:Hp) (R:It->Hp->Prop),gv X aa σ H s->wi σ H R->
  wpAny (model X.prog X.w) X.A (eval iter X.env) (fun v s1=>wpAny (model X.prog X.w) X.A (pyIter v) (UG X aa σ tg R) X.xe s1) X.xe s
theorem JG {M:Model}{u:Value}{o:Obj}{n:String}{vs:Array Value}{Q:Unit->Shared->Prop}(ho:s.heap.get? it=some o)(hc:o.cls = .type n)(hd:o.data = .fields vs)
 (hn:["enumerate","zip","dict_itemiterator","dict_reverseitemiterator","odict_iterator","itertools.zip_longest","itertools.pairwise"].contains n=false)(hQ:Q () s):wpAny M A (letOwnedTupleGo tg (.ref it) u) Q E s:=by
 unfold letOwnedTupleGo;cases tg <;> first
  | exact AY hQ
  | (cases u <;> first
      | exact AY hQ
      | (refine Am (wpAny_load ho ?_)
         rw[hc,hd];show wpAny M A (if (["enumerate","zip","dict_itemiterator","dict_reverseitemiterator","odict_iterator","itertools.zip_longest","itertools.pairwise"].contains n && vs[0]? == some (rawInt _))=true then _ else _) Q E s;rw[if_neg (by intro h;rw[hn,LA] at h;cases h)];exact AY hQ))
noncomputable def Ea (K:W.Frag) (a:Addr):It:=
 ⟨fun i H=>∃ xs x,gy K H a xs/\xs[i]? = some x,fun i H x H'=>H'=H/\∀ xs,gy K H a xs->xs[i]? = some x,fun i H=>∃ xs,gy K H a xs/\xs.length<=i⟩
noncomputable def KA (K:W.Frag) (a:Addr):It:=
 ⟨fun i H=>∃ xs x,jx K H a xs/\xs[i]? = some x,fun i H x H'=>H'=H/\∀ xs,jx K H a xs->xs[i]? = some x,fun i H=>∃ xs,jx K H a xs/\xs.length<=i⟩
noncomputable def FW (lo:Int) (n:Nat):It:=⟨fun i _=>i<n,fun i H x H'=>H'=H/\x = .int (lo+i),fun i _=>n<=i⟩
theorem aZ {P:Program}{w:World}{K:W.Frag}(a it:Addr):GZ P w K tg (Ea K a) [it] it (fun i h=>h.IsListIter it a i) where
 mem:=by simp
 obj:=fun i h st b hb=>by
  have e:b=it:=by simpa using hb
  subst e;obtain⟨o,e,c,d⟩:=st;exact⟨o,e,fun v z=>by rw[d] at z;cases z⟩
 keep:=fun i h h' st k=>st.at fun o e=>k it (by simp) o e
 item:=by
  intro X hP hw hK hc i aa s σ H E I hf st hg;subst hP hw hK;obtain⟨xs,x,hq,hx⟩:=hg;obtain⟨its,rv,p,hz⟩:=I.list hq;obtain⟨u,hu,ru⟩:=rv.get hx;obtain⟨f0,f1,f2,f3,f4,f5⟩:=hf it (by simp);refine wpAny_pyNext_list_item st p.isList (x:=u) (by simpa using hu) fun h' st' sb=>?_;have I1:gv X aa σ H { s with heap:=h' }:=I.turned (t':=s.toks) (fun b o hb e=>(sb.2 b hb).trans e) f0 f1 f3 f4 f5;obtain⟨o,e,c,d⟩:=id st';exact⟨u,U,JG (s:={ s with heap:=h' }) e c d (by decide) ⟨x,H,I1,ru,⟨U,fun ys hy=>by rw[I.iV hy hq];exact hx⟩,st',fun b hb=>(hf b hb).1⟩⟩
 done:=by
  intro X hP hw hK hc i aa s σ H E I hf st hg;subst hP hw hK;obtain⟨xs,hq,hx⟩:=hg;obtain⟨its,rv,p,hz⟩:=I.list hq;obtain⟨f0,f1,f2,f3,f4,f5⟩:=hf it (by simp);have hl:=rv.length;exact wpAny_pyNext_list_end (I.ok.hd hc) st p.isList (by simp;exact om) fun h' eb=>⟨U,I.turned (t':=s.toks) (fun b o hb e=>eb b o hb e) f0 f1 f3 f4 f5⟩
 self:=fun _ _ _ _ _ st h=>wpAny_pyIter_listiter st h
theorem aA {P:Program}{w:World}{K:W.Frag}(a it:Addr):GZ P w K tg (KA K a) [it] it (fun i h=>h.IsTupleIter it a i) where
 mem:=by simp
 obj:=fun i h st b hb=>by
  have e:b=it:=by simpa using hb
  subst e;obtain⟨o,e,c,d⟩:=st;exact⟨o,e,fun v z=>by rw[d] at z;cases z⟩
 keep:=fun i h h' st k=>st.at fun o e=>k it (by simp) o e
 item:=by
  intro X hP hw hK hc i aa s σ H E I hf st hg;subst hP hw hK;obtain⟨xs,x,hq,hx⟩:=hg;obtain⟨its,rv,p,hz⟩:=I.tuple hq;obtain⟨u,hu,ru⟩:=rv.get hx;obtain⟨f0,f1,f2,f3,f4,f5⟩:=hf it (by simp);refine wpAny_pyNext_tuple_item st (show s.heap.IsTuple a its.toArray from p) (x:=u) (by simpa using hu) fun h' st' sb=>?_;have I1:gv X aa σ H { s with heap:=h' }:=I.turned (t':=s.toks) (fun b o hb e=>(sb.2 b hb).trans e) f0 f1 f3 f4 f5;obtain⟨o,e,c,d⟩:=id st';exact⟨u,U,JG (s:={ s with heap:=h' }) e c d (by decide) ⟨x,H,I1,ru,⟨U,fun ys hy=>by rw[I.j3 hy hq];exact hx⟩,st',fun b hb=>(hf b hb).1⟩⟩
 done:=by
  intro X hP hw hK hc i aa s σ H E I hf st hg;subst hP hw hK;obtain⟨xs,hq,hx⟩:=hg;obtain⟨its,rv,p,hz⟩:=I.tuple hq;obtain⟨f0,f1,f2,f3,f4,f5⟩:=hf it (by simp);have hl:=rv.length;exact wpAny_pyNext_tuple_end (I.ok.hd hc) st (show s.heap.IsTuple a its.toArray from p) (by simp;exact om) fun h' eb=>⟨U,I.turned (t':=s.toks) (fun b o hb e=>eb b o hb e) f0 f1 f3 f4 f5⟩
 self:=fun _ _ _ _ _ st h=>wpAny_pyIter_tupleiter st h
theorem XA {P:Program}{w:World}{K:W.Frag}(it:Addr)(lo:Int)(n:Nat):GZ P w K tg (FW lo n) [it] it (fun i h=>IsRangeIter h it (lo+(i:Nat) * 1) ((n:Int) - (i:Nat)) 1) where
 mem:=by simp
 obj:=fun i h st b hb=>by
  have e:b=it:=by simpa using hb
  subst e;exact⟨_,st,fun v z=>by
   have z':Data.fields _=Data.cell v:=z;cases z'⟩
 keep:=fun i h h' st k=>k it (by simp) _ st
 item:=by
  intro X hP hw hK hc i aa s σ H E I hf st hg;subst hP hw hK;obtain⟨f0,f1,f2,f3,f4,f5⟩:=hf it (by simp);have W:=Walks.range (prog:=X.prog) (w:=X.w) (I.ok.hd hc) it lo 1 n;refine W.item i s _ _ hg st fun v h' tk hv st' kk=>?_;obtain⟨t,rfl⟩:=hv;have I1:gv X aa σ H { s with heap:=h',toks:=tk }:=I.turned (fun b o hb e=>kk b o (by simpa using hb) e) f0 f1 f3 f4 f5;refine⟨_,U,JG (s:={ s with heap:=h',toks:=tk }) (n:="range_iterator") st' rfl rfl (by decide) ⟨.int (lo+i),H,I1,⟨t,?_⟩,⟨U,U⟩,st',fun b hb=>(hf b hb).1⟩⟩;rw[Int.mul_one]
 done:=by
  intro X hP hw hK hc i aa s σ H E I hf st hg;subst hP hw hK;obtain⟨f0,f1,f2,f3,f4,f5⟩:=hf it (by simp);exact wpAny_pyNext_range_end (I.ok.hd hc) st (by have:n<=i:=hg;exact om) fun h' eb=>⟨U,I.turned (t':=s.toks) (fun b o hb e=>eb b o hb e) f0 f1 f3 f4 f5⟩
 self:=fun _ _ _ _ _ st h=>wpAny_pyIter_rangeiter st h
section
variable {X:Cx}
def au (K:W.Frag)(tl:TE):TI:=fun σ H R=>tl σ H fun x H1=>∃ a,x = .ref a/\(∃ xs,gy K H1 a xs)/\R (Ea K a) H1
def da (K:W.Frag)(tl:TE):TI:=fun σ H R=>tl σ H fun x H1=>∃ a,x = .ref a/\(∃ xs,jx K H1 a xs)/\R (KA K a) H1
theorem EB {l:Expr}(hl:PE X l tl):PI X tg l (au X.K tl):=by
 intro aa s σ H R I h;refine Av (hl aa s σ H _ I h) fun v s1=>Bl fun x H1 I1 r1 q1=>?_;obtain⟨a,e,⟨xs,hq⟩,q⟩:=q1;subst e;cases r1
 obtain⟨its,rv,p,hz⟩:=I1.list hq;refine QF p.isList ?_;refine⟨s1.heap.objs.size,[s1.heap.objs.size],_,_,H1,U,I1.kept (t':=s1.toks) fun b o e=>Bb _ e,aZ a _,⟨_,Cn _ rfl,U,U⟩,fun b hb=>?_,q⟩;have e:b=s1.heap.objs.size:=by simpa using hb
 subst e;exact I1.jv (Ay _) (I1.hW.fresh (Ay _))
theorem WF {l:Expr}(hl:PE X l tl):PI X tg l (da X.K tl):=by
 intro aa s σ H R I h;refine Av (hl aa s σ H _ I h) fun v s1=>Bl fun x H1 I1 r1 q1=>?_;obtain⟨a,e,⟨xs,hq⟩,q⟩:=q1;subst e;cases r1
 obtain⟨its,rv,p,hz⟩:=I1.tuple hq;refine wpAny_pyIter_tuple (show s1.heap.IsTuple a its.toArray from p) ?_;refine⟨s1.heap.objs.size,[s1.heap.objs.size],_,_,H1,U,I1.kept (t':=s1.toks) fun b o e=>Bb _ e,aA a _,⟨_,Cn _ rfl,U,U⟩,fun b hb=>?_,q⟩;have e:b=s1.heap.objs.size:=by simpa using hb
 subst e;exact I1.jv (Ay _) (I1.hW.fresh (Ay _))
theorem br {R:It->Hp->Prop}{hi:Int}{t u v:Tok}{tk:Nat}(I:gv X aa σ H s)(h1 : -(2 ^ 62)<=lo)(h2:lo<2 ^ 62)(h3 : -(2 ^ 62)<=hi)(h4:hi<2 ^ 62)
 (q:R (FW lo (hi - lo).toNat) H):wpAny (model X.prog X.w) X.A (pyIter (.ref s.heap.objs.size)) (UG X aa σ tg R) E { s with heap:=s.heap.push { cls:=.type "range",data:=.fields #[.int lo t,.int hi u,.int 1 v] },toks:=tk }:=by
 refine wpAny_pyIter_range (IsRange.new ..) (small_one h1 h2 h3 h4) ?_;have I1:gv X aa σ H { s with heap:=s.heap.push { cls:=.type "range",data:=.fields #[.int lo t,.int hi u,.int 1 v] },toks:=tk }:=I.kept fun b o e=>Bb _ e;refine⟨(s.heap.push { cls:=.type "range",data:=.fields #[.int lo t,.int hi u,.int 1 v] }).objs.size,[(s.heap.push { cls:=.type "range",data:=.fields #[.int lo t,.int hi u,.int 1 v] }).objs.size],_,_,H,U,
  I1.kept (t':=tk) fun b o e=>Bb _ e,XA _ lo (hi - lo).toNat,?_,fun b hb=>?_,q⟩
 . have e1:lo+((0:Nat):Int) * 1=lo:=by simp
   have e2:(((hi - lo).toNat:Nat):Int) - ((0:Nat):Int)=Builtin.Range.rangeSize lo hi 1:=by rw[rangeSize_one];split <;> exact om
   show IsRangeIter _ _ (lo+((0:Nat):Int) * 1) ((((hi - lo).toNat:Nat):Int) - ((0:Nat):Int)) 1;rw[e1,e2];exact Cn _ rfl
 . have e:b=(s.heap.push { cls:=.type "range",data:=.fields #[.int lo t,.int hi u,.int 1 v] }).objs.size:=by simpa using hb
   subst e;exact I1.jv (Ay _) (I1.hW.fresh (Ay _))
def OP (ta:TA):TI:=fun σ H R=>ta σ H fun vs H1=>∃ j:Int,vs=[.int j]/\-(2 ^ 62)<=j/\j<2 ^ 62/\R (FW 0 j.toNat) H1
theorem Ke {a:Expr}{ta:TA}{p:Pos}(hg:Gl X "range")(hm:X.mg "range" = none)(ha:PA X [a] ta)(hs:starEach [a] X.env=[(false,eval a X.env)]:=by rfl):PI X tg (.Call (.Name "range" p) [a] [] pos) (OP ta):=by
 intro aa s σ H R I h;refine Call_ (GC I hg hm boot_range (IT (Av (ha pos aa s σ H _ I h) fun us s1=>Bl fun vs H1 I1 r1 q1=>?_) hs rfl));obtain⟨j,e,q1,q2,q⟩:=q1;subst e;cases r1 with
 | cons r rr=>
  cases rr
  obtain⟨t,rfl⟩:=r;exact call_range_1 (br I1 om om q1 q2 (by simpa using q))
def Pz (wi:TI)(g:TG)(tb:TS):TS:=fun D σ H=>wi σ H fun J H1=>∃ W:Nat->Nat->St->Hp->Prop,(∃ m,W 0 m σ H1)/\∀ i m σ H,W i m σ H->
 (J.stop i H/\D.nx σ H)\/(J.go i H/\∃ N:St->Hp->Prop,(∀ σ' H',N σ' H'->∃ m',m'<m/\W (i+1) m' σ' H')/\∀ x H',J.jT i H x H'->g x σ H' fun σ2 H2=>tb { D with nx:=N,ct:=N,bk:=D.nx } σ2 H2)
noncomputable def Ib (fp:List Addr) (h:Heap):List (Addr×Obj):=fp.filterMap fun b=>(h.get? b).map fun o=>(b,o)
theorem Lc {o:Obj}(hb:b∈fp)(e:h.get? b=some o):(b,o)∈Ib fp h:=List.mem_filterMap.mpr ⟨b,hb,by rw[e];rfl⟩
theorem bN {p:Addr×Obj}(hp:p∈Ib fp h):p.1∈fp/\h.get? p.1=some p.2:=by
 obtain⟨b,hb,e⟩:=List.mem_filterMap.mp hp;cases q:h.get? b with
 | none=>rw[q] at e;cases e
 | some o=>
  rw[q] at e;have e':(b,o)=p:=Option.some.inj e;subst e';exact⟨hb,q⟩
theorem gv.pinned (I:gv X aa σ H s)(hf:∀ b∈fp,E3 X aa H b)(ho:∀ b∈fp,∃ o,s.heap.get? b=some o/\∀ v,o.data≠.cell v):gv X (aa++Ib fp s.heap) σ H s:=
 I.jK fun p hp=>(List.mem_append.mp hp).elim (fun z=>I.pin p (DN _ z)) fun z=>by
  obtain⟨hb,e⟩:=bN z;obtain⟨f0,f1,f2,_⟩:=hf p.1 hb;obtain⟨o,e',d⟩:=ho p.1 hb;rw[e] at e';cases e';exact⟨e,f0,f1,f2,d⟩
theorem gv.iD {pl:List (Addr×Obj)}(I:gv X (aa++pl) σ H s):gv X aa σ H s:=I.jK fun p hp=>I.pin p (DN _ (Ot _ hp))
theorem Gv {wi:TI}(hp:PassesOwn (model X.prog X.w) X.A X.env X.xe)(hc:X.calm=true)(hi:PI X tg iter wi)(hg:PG X tg g)(hb:i0 X body tb)
 (hs:∀ x,foldedSetIterable iter X.env x=pure x:=by intro _;rfl):PS X (.For tg iter body [] pos) (Pz wi g tb):=by
 intro aa s σ H D I h;refine wpAny_For (Av (hi aa s σ H _ I h) fun v s1 h1=>Av h1 fun itv s2 h2=>?_) hs;obtain⟨it,fp,tn,J,H2,e,I2,T,st2,f2,W,⟨m0,w0⟩,turn⟩:=h2;subst e;have stat:∀ {H':Hp},(∀ b∈fp,H' b=none)->∀ b∈fp,E3 X aa H' b:=fun hn b hb=>⟨hn b hb,(f2 b hb).2⟩
 refine codeAny_forLoop_any (fun n s'=>∃ i σ' H',gv X aa σ' H' s'/\tn i s'.heap/\(∀ b∈fp,H' b=none)/\W i n σ' H') ?_ m0 ⟨0,σ,H2,I2,st2,fun b hb=>(f2 b hb).1,w0⟩;rintro n s3 ⟨i,σ3,H3,I3,st3,fr3,w3⟩;rcases turn i n σ3 H3 w3 with⟨stop,qn⟩ | ⟨go,N,hN,step⟩
 . refine Hr hp (Av (T.done X rfl rfl rfl hc i aa s3 σ3 H3 X.xe I3 (stat fr3) st3 stop) fun r s4 ⟨hr,I4⟩=>?_);subst hr;exact JB ⟨σ3,H3,I4,qn⟩
 . refine Hr hp (Av (T.item X rfl rfl rfl hc i aa s3 σ3 H3 X.xe I3 (stat fr3) st3 go) fun r s4 hz=>?_);obtain⟨u,hr,h4⟩:=hz;subst hr;refine Hr hp (Av h4 fun _ s5 hz=>?_);obtain⟨x,H5,I5,r5,y5,st5,fr5⟩:=hz;have I5':=I5.pinned (stat fr5) (T.obj _ _ st5);refine Hr hp (Av (hg _ s5 σ3 H5 x u _ I5' r5 (step x H5 y5)) fun _ s6 hz=>?_);obtain⟨σ6,H6,I6,q6⟩:=hz;refine Hr hp (Av (hb _ s6 σ6 H6 _ I6 q6) fun f s7 q7=>?_);have again:∀ {σ7:St}{H7:Hp},gv X (aa++Ib fp s5.heap) σ7 H7 s7->N σ7 H7->∃ m,m<n/\∃ i σ' H',gv X aa σ' H' s7/\tn i s7.heap/\(∀ b∈fp,H' b=none)/\W i m σ' H':=fun {σ7 H7} I7 n7=>by
    obtain⟨m',hm,w7⟩:=hN σ7 H7 n7;refine⟨m',hm,i+1,σ7,H7,I7.iD,T.keep _ _ _ st5 fun b hb o e=>(I7.pin (b,o) (DN _ (DN _ (Lc hb e)))).1,fun b hb=>?_,w7⟩;obtain⟨o,e,d⟩:=T.obj _ _ st5 b hb;exact(I7.pin (b,o) (DN _ (DN _ (Lc hb e)))).2.1
   cases f with
   | next=>obtain⟨σ7,H7,I7,n7⟩:=q7;exact again I7 n7
   | cont=>obtain⟨σ7,H7,I7,n7⟩:=q7;exact again I7 n7
   | brk=>obtain⟨σ7,H7,I7,q7⟩:=q7;exact⟨σ7,H7,I7.iD,q7⟩
   | ret v=>obtain⟨x7,σ7,H7,I7,r7,q7⟩:=q7;exact⟨x7,σ7,H7,I7.iD,r7,q7⟩
end
theorem cx {K:W.Frag}{xs:List V}(Pv:Nat->St->Hp->Prop)(h0:Pv 0 σ H)(hl:∀ i σ H,i<=xs.length->Pv i σ H->gy K H a xs)
 (hs:∀ i x σ H,xs[i]? = some x->Pv i σ H->g x σ H fun σ2 H2=>tb { D with nx:=Pv (i+1),ct:=Pv (i+1),bk:=D.nx } σ2 H2)(hd:∀ σ H,Pv xs.length σ H->D.nx σ H) :
 ∃ W:Nat->Nat->St->Hp->Prop,(∃ m,W 0 m σ H)/\∀ i m σ H,W i m σ H->
  ((Ea K a).stop i H/\D.nx σ H)\/((Ea K a).go i H/\∃ N:St->Hp->Prop,(∀ σ' H',N σ' H'->∃ m',m'<m/\W (i+1) m' σ' H')/\∀ x H',(Ea K a).jT i H x H'->g x σ H' fun σ2 H2=>tb { D with nx:=N,ct:=N,bk:=D.nx } σ2 H2):=by
 refine⟨fun i m σ H=>m=xs.length - i/\i<=xs.length/\Pv i σ H,⟨xs.length,by simp,Es _,h0⟩,?_⟩;rintro i m σ H ⟨rfl,hi,p⟩;have q:=hl i σ H hi p;by_cases hlt:i<xs.length
 . refine .inr ⟨⟨xs,xs[i],q,by simp[hlt]⟩,Pv (i+1),fun σ' H' p'=>⟨xs.length - (i+1),om,U,hlt,p'⟩,fun x H' y=>?_⟩;obtain⟨e,y⟩:=y;subst e;exact hs i x σ _ (y xs q) p
 . have e:i=xs.length:=by exact om
   subst e;exact .inl ⟨⟨xs,q,Ay _⟩,hd σ H p⟩
theorem cy {K:W.Frag}{xs:List V}(Pv:Nat->St->Hp->Prop)(h0:Pv 0 σ H)(hl:∀ i σ H,i<=xs.length->Pv i σ H->jx K H a xs)
 (hs:∀ i x σ H,xs[i]? = some x->Pv i σ H->g x σ H fun σ2 H2=>tb { D with nx:=Pv (i+1),ct:=Pv (i+1),bk:=D.nx } σ2 H2)(hd:∀ σ H,Pv xs.length σ H->D.nx σ H) :
 ∃ W:Nat->Nat->St->Hp->Prop,(∃ m,W 0 m σ H)/\∀ i m σ H,W i m σ H->
  ((KA K a).stop i H/\D.nx σ H)\/((KA K a).go i H/\∃ N:St->Hp->Prop,(∀ σ' H',N σ' H'->∃ m',m'<m/\W (i+1) m' σ' H')/\∀ x H',(KA K a).jT i H x H'->g x σ H' fun σ2 H2=>tb { D with nx:=N,ct:=N,bk:=D.nx } σ2 H2):=by
 refine⟨fun i m σ H=>m=xs.length - i/\i<=xs.length/\Pv i σ H,⟨xs.length,by simp,Es _,h0⟩,?_⟩;rintro i m σ H ⟨rfl,hi,p⟩;have q:=hl i σ H hi p;by_cases hlt:i<xs.length
 . refine .inr ⟨⟨xs,xs[i],q,by simp[hlt]⟩,Pv (i+1),fun σ' H' p'=>⟨xs.length - (i+1),om,U,hlt,p'⟩,fun x H' y=>?_⟩;obtain⟨e,y⟩:=y;subst e;exact hs i x σ _ (y xs q) p
 . have e:i=xs.length:=by exact om
   subst e;exact .inl ⟨⟨xs,q,Ay _⟩,hd σ H p⟩
theorem QI (Pv:Nat->St->Hp->Prop)(h0:Pv 0 σ H)
 (hs:∀ i σ H,i<n->Pv i σ H->g (.int (lo+i)) σ H fun σ2 H2=>tb { D with nx:=Pv (i+1),ct:=Pv (i+1),bk:=D.nx } σ2 H2)(hd:∀ σ H,Pv n σ H->D.nx σ H) :
 ∃ W:Nat->Nat->St->Hp->Prop,(∃ m,W 0 m σ H)/\∀ i m σ H,W i m σ H->
  ((FW lo n).stop i H/\D.nx σ H)\/((FW lo n).go i H/\∃ N:St->Hp->Prop,(∀ σ' H',N σ' H'->∃ m',m'<m/\W (i+1) m' σ' H')/\∀ x H',(FW lo n).jT i H x H'->g x σ H' fun σ2 H2=>tb { D with nx:=N,ct:=N,bk:=D.nx } σ2 H2):=by
 refine⟨fun i m σ H=>m=n - i/\i<=n/\Pv i σ H,⟨n,by simp,Es _,h0⟩,?_⟩;rintro i m σ H ⟨rfl,hi,p⟩;by_cases hlt:i<n
 . refine .inr ⟨hlt,Pv (i+1),fun σ' H' p'=>⟨n - (i+1),om,U,hlt,p'⟩,fun x H' y=>?_⟩;obtain⟨e,y⟩:=y;subst e y;exact hs i σ _ hlt p
 . have e:i=n:=by exact om
   subst e;exact .inl ⟨Ay _,hd σ H p⟩
theorem NP {c:TT}(Pv:St->Hp->Prop)(μ:St->Hp->Nat)(h0:Pv σ H)
 (hs:∀ σ H,Pv σ H->c σ H fun b H1=>if b=true then tb { D with nx:=fun σ' H'=>Pv σ' H'/\μ σ' H'<μ σ H,ct:=fun σ' H'=>Pv σ' H'/\μ σ' H'<μ σ H,bk:=D.nx } σ H1 else D.nx σ H1)
 (mono:∀ σ H Q Q',(∀ b H1,Q b H1->Q' b H1)->c σ H Q->c σ H Q'):Vu c tb D σ H:=by
 refine⟨fun m σ H=>m=μ σ H/\Pv σ H,⟨_,U,h0⟩,?_⟩;rintro m σ H ⟨rfl,p⟩;refine mono σ H _ _ (fun b H1 q=>?_) (hs σ H p);cases b with
 | true=>exact⟨_,fun σ' H' ⟨p',l⟩=>⟨_,l,U,p'⟩,q⟩
 | false=>exact q
abbrev R2:=V->V->Hp->VK->Prop
def B6 (X:Cx)(f:Value->Value->Sem Value)(r:R2):Prop:=
 ∀ (aa:List (Addr×Obj)) (s:Shared) (σ:St) (H:Hp) (x y:V) (v u:Value) (Q:VK),gv X aa σ H s->hG x v->hG y u->r x y H Q->
  wpAny (model X.prog X.w) X.A (f v u) (EP X aa σ Q) X.xe s
def Pb (X:Cx)(f:Value->Sem Value)(r:V->Hp->VK->Prop):Prop:=
 ∀ (aa:List (Addr×Obj)) (s:Shared) (σ:St) (H:Hp) (x:V) (v:Value) (Q:VK),gv X aa σ H s->hG x v->r x H Q->
  wpAny (model X.prog X.w) X.A (f v) (EP X aa σ Q) X.xe s
def CY (X:Cx)(f:Value)(r:List V->Hp->VK->Prop):Prop:=
 ∀ (aa:List (Addr×Obj)) (s:Shared) (σ:St) (H:Hp) (xs:List V) (us:List Value) (Q:VK),gv X aa σ H s->hI xs us->r xs H Q->
  wpAny (model X.prog X.w) X.A (call f us) (EP X aa σ Q) X.xe s
def Im (r:R2)(ta tb:TE):TE:=fun σ H Q=>ta σ H fun x H1=>tb σ H1 fun y H2=>r x y H2 Q
def ax (r:V->Hp->VK->Prop)(ta:TE):TE:=fun σ H Q=>ta σ H fun x H1=>r x H1 Q
def rI (C:Int->Int->Prop)(g:Int->Int->V):R2:=fun x y H Q=>∃ i j,x = .int i/\y = .int j/\C i j/\Q (g i j) H
def E7 (g:Int->Int->V):R2:=fun x y H Q=>∃ i j,x = .int i/\y = .int j/\Q (g i j) H
def rU (g:Int->V):V->Hp->VK->Prop:=fun x H Q=>∃ i,x = .int i/\Q (g i) H
section
variable {X:Cx}{a b:Expr}{tb tc:TE}
theorem OT (ha:PE X a ta)(hb:PE X b tb){R:V->V->Hp->Prop}(I:gv X aa σ H s)
 (h:ta σ H fun x H1=>tb σ H1 fun y H2=>R x y H2){f:Value->Value->Sem Value}
 (hf:∀ v u s2 x y H2,gv X aa σ H2 s2->hG x v->hG y u->R x y H2->wpAny (model X.prog X.w) X.A (f v u) Q X.xe s2) :
 wpAny (model X.prog X.w) X.A (eval a X.env) (fun v s₁=>wpAny (model X.prog X.w) X.A (eval b X.env) (fun u s₂=>wpAny (model X.prog X.w) X.A (f v u) Q X.xe s₂) X.xe s₁) X.xe s:=by
 refine Av (ha aa s σ H _ I h) fun v s1=>Bl fun x H1 I1 r1 q1=>?_;refine Av (hb aa s1 σ H1 _ I1 q1) fun u s2=>Bl fun y H2 I2 r2 q2=>?_;exact hf v u s2 x y H2 I2 r1 r2 q2
theorem Ao {op:Operator}{r:R2}(ho:B6 X (binaryOp op) r)(ha:PE X a ta)(hb:PE X b tb):PE X (.BinOp a op b pos) (Im r ta tb):=by
 intro aa s σ H Q I h;exact wpAny_BinOp (OT ha hb I h fun v u s2 x y H2 I2 rx ry q=>ho aa s2 σ H2 x y v u Q I2 rx ry q)
theorem Op {op:UnaryOp}{r:V->Hp->VK->Prop}(ho:Pb X (unaryOp op) r)(ha:PE X a ta):PE X (.UnaryOp op a pos) (ax r ta):=by
 intro aa s σ H Q I h;exact UnaryOp_ (Av (ha aa s σ H _ I h) fun v s1=>Bl fun x H1 I1 r1 q1=>ho aa s1 σ H1 x v Q I1 r1 q1)
theorem L0 {f:Value->Value->Sem Value}{C:Int->Int->Prop}{g:Int->Int->Int}
 (rule:∀ (i j:Int)(t u:Tok)(s:Shared)(Q:gk)(E:gk),C i j->Q (.int (g i j) s.toks) { s with toks:=s.toks+1 }->wpAny (model X.prog X.w) X.A (f (.int i t) (.int j u)) Q E s) :
 B6 X f (rI C fun i j=>.int (g i j)):=by
 intro aa s σ H x y v u Q I rx ry h;obtain⟨i,j,rfl,rfl,hc,q⟩:=h;obtain⟨t,rfl⟩:=rx;obtain⟨t',rfl⟩:=ry;exact rule i j t t' s _ _ hc ⟨.int (g i j),H,I.tok _,⟨_,U⟩,q⟩
theorem NG {f:Value->Value->Sem Value}{g:Int->Int->Int}
 (rule:∀ (i j:Int)(t u:Tok)(s:Shared)(Q:gk)(E:gk),Q (.int (g i j) s.toks) { s with toks:=s.toks+1 }->wpAny (model X.prog X.w) X.A (f (.int i t) (.int j u)) Q E s) :
 B6 X f (E7 fun i j=>.int (g i j)):=by
 intro aa s σ H x y v u Q I rx ry h;obtain⟨i,j,rfl,rfl,q⟩:=h;obtain⟨t,rfl⟩:=rx;obtain⟨t',rfl⟩:=ry;exact rule i j t t' s _ _ ⟨.int (g i j),H,I.tok _,⟨_,U⟩,q⟩
theorem Nf {f:Value->Value->Sem Value}{g:Int->Int->Bool}
 (rule:∀ (i j:Int)(t u:Tok)(s:Shared)(Q:gk)(E:gk),Q (.bool (g i j)) s->wpAny (model X.prog X.w) X.A (f (.int i t) (.int j u)) Q E s) :
 B6 X f (E7 fun i j=>.bl (g i j)):=by
 intro aa s σ H x y v u Q I rx ry h;obtain⟨i,j,rfl,rfl,q⟩:=h;obtain⟨t,rfl⟩:=rx;obtain⟨t',rfl⟩:=ry;exact rule i j t t' s _ _ ⟨.bl (g i j),H,I,U,q⟩
def Qj (i j:Int):Prop:=0<j/\j<1073741824
def YD (i j:Int):Prop:=0<=j/\j<=1000000/\i.natAbs<2 ^ 64
def ku (i j:Int):Prop:=(-(2 ^ 64)<i/\i<2 ^ 64)\/(-(2 ^ 64)<j/\j<2 ^ 64)
theorem ku.ok {i j:Int}(h:ku i j):IntMulOk i j:=by
 rcases h with⟨h1,h2⟩ | ⟨h1,h2⟩
 . exact .of_left (intBits_le_64 h1 h2)
 . exact .of_right (intBits_le_64 h1 h2)
theorem two_pow_nn (k:Nat):(0:Int)<=2 ^ k:=by
 rw[two_pow_cast];exact Int.natCast_nonneg _
theorem CI:B6 X (binaryOp .Add) (E7 fun i j=>.int (i+j)):=NG fun _ _ _ _ _ _ _ q=>add_int q
theorem CC:B6 X (binaryOp .Sub) (E7 fun i j=>.int (i - j)):=NG fun _ _ _ _ _ _ _ q=>sub_int q
theorem ET:B6 X (binaryOp .Mult) (rI ku fun i j=>.int (i * j)):=L0 fun _ _ _ _ _ _ _ hc q=>mul_int q hc.ok
theorem Gi:B6 X (binaryOp .FloorDiv) (rI Qj fun i j=>.int (i / j)):=L0 fun i j _ _ _ _ _ hc q=>by
 have h1:(0:Int)<j:=hc.1;have h2:j<1073741824:=hc.2;exact floordiv_int om (by rw[T0 i om];exact q) (.inl (PyProof.noPylong_small om))
theorem De:B6 X (binaryOp .Mod) (rI (fun _ j=>0<j) fun i j=>.int (i % j)):=L0 fun i j _ _ _ _ _ hc q=>by
 have h1:(0:Int)<j:=hc;exact mod_int' om (by rw[Int.fmod_eq_emod_of_nonneg i om];exact q)
theorem Li:B6 X (binaryOp .LShift) (rI YD fun i j=>.int (i * 2 ^ j.toNat)):=L0 fun _ _ _ _ _ _ _ hc q=>lshift_int_small hc.1 hc.2.1 hc.2.2 q
theorem K8:B6 X (binaryOp .RShift) (rI (fun _ j=>0<=j) fun i j=>.int (i / 2 ^ j.toNat)):=L0 fun i j _ _ _ _ _ hc q=>
 rshift_int hc (by rw[T0 i (two_pow_nn _)];exact q)
theorem P5:B6 X (binaryOp .BitAnd) (E7 fun i j=>.int (Builtin.bitAnd i j)):=NG fun _ _ _ _ _ _ _ q=>and_int q
theorem UI:B6 X (binaryOp .BitXor) (E7 fun i j=>.int (Builtin.bitXor i j)):=NG fun _ _ _ _ _ _ _ q=>xor_int q
theorem dA {f:Value->Sem Value}{g:Int->Int}
 (rule:∀ (i:Int)(t:Tok)(s:Shared)(Q:gk)(E:gk),Q (.int (g i) s.toks) { s with toks:=s.toks+1 }->wpAny (model X.prog X.w) X.A (f (.int i t)) Q E s) :
 Pb X f (rU fun i=>.int (g i)):=by
 intro aa s σ H x v Q I rx h;obtain⟨i,rfl,q⟩:=h;obtain⟨t,rfl⟩:=rx;exact rule i t s _ _ ⟨.int (g i),H,I.tok _,⟨_,U⟩,q⟩
theorem Ou:Pb X (unaryOp .USub) (rU fun i=>.int (-i)):=dA fun _ _ _ _ _ q=>neg_int q
end
noncomputable def QY:V->V->Bool
 | .non,.non=>true | .non,.int _=>true | .int _,.non=>true | .non,.bl _=>true | .bl _,.non=>true | .non,.str _=>true | .str _,.non=>true
 | .int _,.int _=>true | .bl _,.bl _=>true | .str _,.str _=>true | .byt _,.byt _=>true
 | .int _,.str _=>true | .str _,.int _=>true | .bl _,.str _=>true | .str _,.bl _=>true
 | _,_=>false
def RN:R2:=fun x y H Q=>QY x y=true/\Q (.bl (decide (x=y))) H
def bX:R2:=fun x y H Q=>QY x y=true/\Q (.bl (!decide (x=y))) H
theorem SH {i j:Int}:decide (V.int i=V.int j)=(i == j):=by
 rw[Cw];simp
theorem Td {i j:Bool}:decide (V.bl i=V.bl j)=(i == j):=by
 rw[Cw];simp
theorem Sh {i j:Str}:decide (V.str i=V.str j)=(i == j):=by
 rw[Cw];simp
theorem Vw {i j:Array UInt8}:decide (V.byt i=V.byt j)=(i.toList == j.toList):=by
 rw[Cw];cases i
 cases j
 simp
section
variable {X:Cx}{a b:Expr}{tb tc:TE}
theorem B9 {Q:VK}{k k':Bool}(I:gv X aa σ H s)(q:Q (.bl k) H)(e:k=k'):EP X aa σ Q (.bool k') s:=by
 subst e;exact⟨.bl k,H,I,U,q⟩
theorem AL:B6 X (compareOp .Eq) RN:=by
 intro aa s σ H x y v u Q I rx ry h;obtain⟨hs,q⟩:=h;cases x with
 | non=>
  cases rx
  cases y with
  | non=>cases ry;exact PySem.EqNone.eq_none_none (B9 I q (by simp))
  | bl j=>cases ry;exact PySem.EqNone.eq_none_bool (B9 I q (by simp))
  | int j=>obtain⟨t',rfl⟩:=ry;exact PySem.EqNone.eq_none_int (B9 I q (by simp))
  | str j=>obtain⟨t',rfl⟩:=ry;exact PySem.EqNone.eq_none_str (B9 I q (by simp))
  | _=>exact absurd (show false=true from hs) BX
 | bl i=>
  cases rx
  cases y with
  | non=>cases ry;exact PySem.EqNone.eq_bool_none (B9 I q (by simp))
  | bl j=>cases ry;exact eq_bool (B9 I q Td)
  | str j=>obtain⟨t',rfl⟩:=ry;exact PySem.EqMixed.eq_bool_str (B9 I q (by simp))
  | _=>exact absurd (show false=true from hs) BX
 | int i=>
  obtain⟨t,rfl⟩:=rx;cases y with
  | non=>cases ry;exact PySem.EqNone.eq_int_none (B9 I q (by simp))
  | int j=>obtain⟨t',rfl⟩:=ry;exact eq_int (B9 I q SH)
  | str j=>obtain⟨t',rfl⟩:=ry;exact PySem.EqMixed.eq_int_str (B9 I q (by simp))
  | _=>exact absurd (show false=true from hs) BX
 | str i=>
  obtain⟨t,rfl⟩:=rx;cases y with
  | non=>cases ry;exact PySem.EqNone.eq_str_none (B9 I q (by simp))
  | bl j=>cases ry;exact PySem.EqMixed.eq_str_bool (B9 I q (by simp))
  | int j=>obtain⟨t',rfl⟩:=ry;exact PySem.EqMixed.eq_str_int (B9 I q (by simp))
  | str j=>obtain⟨t',rfl⟩:=ry;exact eq_str (B9 I q Sh)
  | _=>exact absurd (show false=true from hs) BX
 | byt i=>
  obtain⟨t,rfl⟩:=rx;cases y with
  | byt j=>obtain⟨t',rfl⟩:=ry;exact PySem.W.eq_bytes (B9 I q Vw)
  | _=>exact absurd (show false=true from hs) BX
 | _=>cases y <;> exact absurd (show false=true from hs) BX
theorem Qx:B6 X (compareOp .NotEq) bX:=by
 intro aa s σ H x y v u Q I rx ry h;obtain⟨hs,q⟩:=h;cases x with
 | non=>
  cases rx
  cases y with
  | non=>cases ry;exact PySem.EqNone.ne_none_none (B9 I q (by simp))
  | bl j=>cases ry;exact PySem.EqNone.ne_none_bool (B9 I q (by simp))
  | int j=>obtain⟨t',rfl⟩:=ry;exact PySem.EqNone.ne_none_int (B9 I q (by simp))
  | str j=>obtain⟨t',rfl⟩:=ry;exact PySem.EqNone.ne_none_str (B9 I q (by simp))
  | _=>exact absurd (show false=true from hs) BX
 | bl i=>
  cases rx
  cases y with
  | non=>cases ry;exact PySem.EqNone.ne_bool_none (B9 I q (by simp))
  | bl j=>cases ry;exact ne_bool (B9 I q (congrArg not Td))
  | str j=>obtain⟨t',rfl⟩:=ry;exact PySem.EqMixed.ne_bool_str (B9 I q (by simp))
  | _=>exact absurd (show false=true from hs) BX
 | int i=>
  obtain⟨t,rfl⟩:=rx;cases y with
  | non=>cases ry;exact PySem.EqNone.ne_int_none (B9 I q (by simp))
  | int j=>obtain⟨t',rfl⟩:=ry;exact ne_int (B9 I q (congrArg not SH))
  | str j=>obtain⟨t',rfl⟩:=ry;exact PySem.EqMixed.ne_int_str (B9 I q (by simp))
  | _=>exact absurd (show false=true from hs) BX
 | str i=>
  obtain⟨t,rfl⟩:=rx;cases y with
  | non=>cases ry;exact PySem.EqNone.ne_str_none (B9 I q (by simp))
  | bl j=>cases ry;exact PySem.EqMixed.ne_str_bool (B9 I q (by simp))
  | int j=>obtain⟨t',rfl⟩:=ry;exact PySem.EqMixed.ne_str_int (B9 I q (by simp))
  | str j=>obtain⟨t',rfl⟩:=ry;exact ne_str (B9 I q (congrArg not Sh))
  | _=>exact absurd (show false=true from hs) BX
 | byt i=>
  obtain⟨t,rfl⟩:=rx;cases y with
  | byt j=>obtain⟨t',rfl⟩:=ry;exact PySem.W.ne_bytes (B9 I q (congrArg not Vw))
  | _=>exact absurd (show false=true from hs) BX
 | _=>cases y <;> exact absurd (show false=true from hs) BX
theorem Dj:B6 X (compareOp .Lt) (E7 fun i j=>.bl (decide (i<j))):=Nf fun _ _ _ _ _ _ _ q=>lt_int q
theorem QM:B6 X (compareOp .LtE) (E7 fun i j=>.bl (decide (i<=j))):=Nf fun _ _ _ _ _ _ _ q=>le_int q
theorem Fg:B6 X (compareOp .Gt) (E7 fun i j=>.bl (decide (j<i))):=Nf fun _ _ _ _ _ _ _ q=>gt_int q
theorem Pl:B6 X (compareOp .GtE) (E7 fun i j=>.bl (decide (j<=i))):=Nf fun _ _ _ _ _ _ _ q=>ge_int q
theorem GS:B6 X (compareOp .Is) (fun x y H Q=>y = .non/\Q (.bl (decide (x = .non))) H):=by
 intro aa s σ H x y v u Q I rx ry h;obtain⟨rfl,q⟩:=h;cases ry
 refine is_none_gen (B9 I q ?_);cases x <;> first
  | (cases rx;rfl)
  | (obtain⟨t,rfl⟩:=rx;rfl)
theorem QV:B6 X (compareOp .IsNot) (fun x y H Q=>y = .non/\Q (.bl (!decide (x = .non))) H):=by
 intro aa s σ H x y v u Q I rx ry h;obtain⟨rfl,q⟩:=h;cases ry
 refine isnot_none_gen (B9 I q ?_);cases x <;> first
  | (cases rx;rfl)
  | (obtain⟨t,rfl⟩:=rx;rfl)
theorem S9 (b:Expr){op:CmpOp}(h:op≠.In:=by decide)(h2:op≠.NotIn:=by decide):behindInMarks op b=false:=by
 have e1:(op == CmpOp.In)=false:=by cases op <;> first | rfl | exact absurd rfl h
 have e2:(op == CmpOp.NotIn)=false:=by cases op <;> first | rfl | exact absurd rfl h2
 cases b <;> simp[behindInMarks,e1,e2]
theorem CL {op:CmpOp}{r:R2}(ho:B6 X (compareOp op) r)(ha:PE X a ta)(hb:PE X b tb)(hm:behindInMarks op b=false:=by exact S9 _):PE X (.Compare a [op] [b] pos) (Im r ta tb):=by
 intro aa s σ H Q I h;exact wpAny_Compare1 (OT ha hb I h fun v u s2 x y H2 I2 rx ry q=>ho aa s2 σ H2 x y v u Q I2 rx ry q) hm
def fE (t:TE):TT:=fun σ H Q=>t σ H fun x H'=>∃ k,x = .bl k/\Q k H'
theorem Au {op:CmpOp}{r:R2}(ho:B6 X (compareOp op) r)(ha:PE X a ta)(hb:PE X b tb)(hm:behindInMarks op b=false:=by exact S9 _):PT X (.Compare a [op] [b] pos) (fE (Im r ta tb)):=by
 intro aa s σ H Q I h;refine wpAny_isTrue_Compare1 (Av (ha aa s σ H _ I h) fun v s1=>Bl fun x H1 I1 r1 q1=>Av (hb aa s1 σ H1 _ I1 q1) fun u s2=>Bl fun y H2 I2 r2 q2=>
  Av (ho aa s2 σ H2 x y v u _ I2 r1 r2 q2) fun c s3 ⟨z,H3,I3,r3,k,e,q3⟩=>?_) hm
 subst e;cases r3
 exact Hu ⟨H3,I3,q3⟩
def S6 (r r':R2)(ta tb tc:TE):TE:=fun σ H Q=>ta σ H fun x H1=>tb σ H1 fun y H2=>r x y H2 fun z H3=>∃ k,z = .bl k/\
 (if k=true then tc σ H3 fun w' H4=>r' y w' H4 Q else Q (.bl false) H3)
theorem VN {op op':CmpOp}{r r':R2}(ho:B6 X (compareOp op) r)(ho':B6 X (compareOp op') r')(ha:PE X a ta)(hb:PE X b tb)(hc:PE X c tc)
 (hm:lastMarks [op,op'] [b,c]=false:=by with_unfolding_all rfl):PE X (.Compare a [op,op'] [b,c] pos) (S6 r r' ta tb tc):=by
 intro aa s σ H Q I h;refine Compare_chain (Av (ha aa s σ H _ I h) fun v s1=>Bl fun x H1 I1 r1 q1=>chain_link (Av (hb aa s1 σ H1 _ I1 q1) fun u s2=>Bl fun y H2 I2 r2 q2=>
  Av (ho aa s2 σ H2 x y v u _ I2 r1 r2 q2) fun d s3 ⟨z,H3,I3,r3,k,e,q3⟩=>?_)) hm
 subst e;cases r3
 refine Hu ?_;cases k with
 | false=>exact ite_ff ⟨.bl false,H3,I3,U,q3⟩
 | true=>exact ite_tt (chain_last (Av (hc aa s3 σ H3 _ I3 q3) fun w' s4=>Bl fun z' H4 I4 r4 q4=>ho' aa s4 σ H4 y z' u w' Q I4 r2 r4 q4))
theorem IM:(sizeLine:Nat)<2 ^ 63:=by rw[Bf];decide
theorem Hi:B6 X (binaryOp .Add) (fun x y H Q=>∃ i j,x = .str i/\y = .str j/\i.length+j.length<=sizeLine/\Q (.str (i++j)) H):=by
 intro aa s σ H x y v u Q I rx ry h;obtain⟨i,j,rfl,rfl,hz,q⟩:=h;obtain⟨t,rfl⟩:=rx;obtain⟨t',rfl⟩:=ry;exact add_str (fun t' tk=>⟨.str (i++j),H,I.tok _,⟨_,U⟩,q⟩) hz
theorem CT {x:V}(r:hI [x] us):∃ u,us=[u]/\hG x u:=by
 cases r with
 | cons r1 r2=>cases r2;exact⟨_,U,r1⟩
theorem Mm {x:V}(r:hI [x,y] us):∃ u w',us=[u,w']/\hG x u/\hG y w':=by
 cases r with
 | cons r1 r2=>
  cases r2 with
  | cons r3 r4=>cases r4;exact⟨_,_,U,r1,r3⟩
theorem VS (hc:X.calm=true):CY X (.builtin "max") (fun xs H Q=>∃ i j,xs=[.int i,.int j]/\Q (.int (if j > i then j else i)) H):=by
 intro aa s σ H xs us Q I r h;obtain⟨i,j,rfl,q⟩:=h;obtain⟨u,w',rfl,⟨t,rfl⟩,⟨t',rfl⟩⟩:=Mm r;refine max_two_ints (I.ok.hd hc) fun h' tk k=>⟨_,H,I.kept k,?_,q⟩
 by_cases hj:j > i
 . rw[if_pos hj,if_pos hj];exact⟨_,U⟩
 . rw[if_neg hj,if_neg hj];exact⟨_,U⟩
theorem Qm (hc:X.calm=true):CY X (.builtin "min") (fun xs H Q=>∃ i j,xs=[.int i,.int j]/\Q (.int (if j<i then j else i)) H):=by
 intro aa s σ H xs us Q I r h;obtain⟨i,j,rfl,q⟩:=h;obtain⟨u,w',rfl,⟨t,rfl⟩,⟨t',rfl⟩⟩:=Mm r;refine min_two_ints (I.ok.hd hc) fun h' tk k=>⟨_,H,I.kept k,?_,q⟩
 by_cases hj:j<i
 . rw[if_pos hj,if_pos hj];exact⟨_,U⟩
 . rw[if_neg hj,if_neg hj];exact⟨_,U⟩
theorem WZ:CY X (.type "bool") (fun xs H Q=>(∃ i,xs=[.int i]/\Q (.bl (i != 0)) H)\/∃ k,xs=[.bl k]/\Q (.bl k) H):=by
 intro aa s σ H xs us Q I r h;rcases h with⟨i,rfl,q⟩ | ⟨k,rfl,q⟩
 . obtain⟨u,rfl,t,rfl⟩:=CT r;exact call_bool_int ⟨.bl (i != 0),H,I,U,q⟩
 . obtain⟨u,rfl,r1⟩:=CT r;cases r1
   exact call_bool_bool ⟨.bl k,H,I,U,q⟩
theorem UX:CY X (.type "str") (fun xs H Q=>∃ i,xs=[.int i]/\i.natAbs.log2<1920/\Q (.str (toString i)) H):=by
 intro aa s σ H xs us Q I r h;obtain⟨i,rfl,hz,q⟩:=h;obtain⟨u,rfl,t,rfl⟩:=CT r;exact PySem.P.str_of_int hz ⟨.str _,H,I.tok _,⟨_,U⟩,q⟩
end
structure jS (h:Heap)(x dx C:Addr)(mA:gj):Prop where
 obj:h.get? x=some (PySem.W.instObj C dx)
 ns:h.Ns1 dx mA
 ne:dx≠x
theorem Xf (n:h.Ns1 dx mA):∃ od,h.get? dx=some od/\∀ name,PySem.W.lookIn name od=some (mA name):=by
 obtain⟨o,es,ep,ho,hd,hk,_,hm⟩:=n;refine⟨o,ho,fun name=>?_⟩;have e:=hm name;unfold nsFind findBy at e;rw[<- Array.find?_toList] at e;unfold PySem.W.lookIn;rw[hd];dsimp only;split
 . rename_i y q;rw[q] at e;exact congrArg some e
 . rename_i q;rw[q] at e;have a:es.toList.any (·.refKey)=false:=by
    rw[List.any_eq_false];intro y hy;obtain⟨z,t,hkey⟩:=hk y (Array.mem_toList_iff.mp hy);simp[DictEntry.refKey,hkey]
   have a':¬ es.toList.any (·.refKey)=true:=by rw[a];exact BX
   rw[if_neg a'];exact congrArg some e
theorem jS.look {x C:Addr}(I:jS h x dx C mA):∃ od,PySem.W.InstAt h x (PySem.W.instObj C dx) C (some od)/\∀ name,PySem.W.lookIn name od=some (mA name):=
 let ⟨od,ho,hl⟩:=Xf I.ns
 ⟨od,⟨I.obj,U,U,ho⟩,hl⟩
section
variable {prog:Program}{w:World}{K:W.Frag}{x C:Addr}{v:Value}
theorem b8 {expr:Bool}(X:K.In s.heap)(I:jS s.heap x dx C mA)(hg:PySem.W.plainGet K C name=true)(hh:PySem.W.hasDictIn K C=true)
 (ha:W.findIn K (.ref C) name=some none)(hv:mA name=some v)(hv':PySem.W.handedIn v=true)(h:Q v { s with toks:=s.toks+1 }) :
 wpAny (model prog w) A (getAttr (.ref x) name expr) Q E s:=by
 obtain⟨od,J,hl⟩:=I.look;exact PySem.W.get_value X J (Pk hg).1 (PySem.W.findObj_own hh ha rfl (by rw[hl,hv])) hv' h
theorem Wt {pl:Sem Bool}{Q:Value×List Value->Shared->Prop}(X:K.In s.heap)(I:jS s.heap x dx C mA)(hg:PySem.W.plainGet K C name=true)
 (hf:W.findIn K (.ref C) name=some (some (.ref f)))(ht:PySem.W.isFn K (.ref f)=true)(hv:mA name=none)(h:Q (.ref f,[.ref x]) s) :
 wpAny (model prog w) A (getMethod (.ref x) name pl) Q E s:=by
 obtain⟨od,J,hl⟩:=I.look;exact PySem.W.method_fn X J (Pk hg).1 (Pk hg).2 hf (beq_iff_eq.mp ht) (by show(PySem.W.lookIn name od).map (·.isSome)=some false;rw[hl,hv];rfl) h
theorem fT {ns:List Str}{Q:Unit->Shared->Prop}(X:K.In s.heap)(I:jS s.heap x dx C mA)
 (hs:W.findIn K (.ref C) "__setattr__" = some (some (.builtin "object.__setattr__")))(hp:PySem.W.plainOver K C=true)(ht:PySem.W.takerIn K C name=some none)(hh:PySem.W.hasDictIn K C=true)
 (hw:PySem.Within mA ns)(hsz:ns.length<=sizeLine)
 (h:∀ h',jS h' x dx C (fun y=>if y=name then some v else mA y)->Heap.SameBut dx s.heap h'->Q () { s with heap:=h',toks:=s.toks+2 }) :
 wpAny (model prog w) A (setAttr (.ref x) name v) Q E s:=by
 obtain⟨od,J,hl⟩:=I.look;refine PySem.W.set_plain X J hs (PySem.W.osa_open (s:={ s with toks:=s.toks+1 }) (r:=none) X J hp ht fun b=>?_);obtain⟨cd,hc,hd'⟩:=PySem.W.any_some hh;have hx:s.heap.get? x=some ⟨.ref C,some dx,.plain,#[]⟩:=I.obj;refine Am (AY (Am (Am (wpAny_loadPart hx (Am (PySem.W.Looks.here (s:={ s with toks:=s.toks+1 }) (PySem.W.looks_clsIn X hc) ?_))))));rw[hd'];refine AY (a:=some dx) (Am (AY (Am ?_)));refine wpAny_nsSet1 (s:={ s with toks:=s.toks+1 }) I.ns fun h' hn2 hs2=>?_;obtain⟨oD,esD,epD,hoD,hdD,hcD⟩:=hn2.count (PySem.Within.cons name v hw);refine Am (wpAny_lookBehind hoD (by rw[hdD];exact pastItsLine_dict (Bu hcD (by rw[C5];exact om))) ?_);exact AY (h _ ⟨(hs2.2 _ (Ne.symm I.ne)).trans I.obj,hn2,I.ne⟩ hs2)
theorem X5 {R:Result->Shared->Prop}{vs:List Value}(X:K.In s.heap)(hm:PySem.W.makesIn K C=true)
 (hi:W.findIn K (.ref C) "__init__" = some (some (.ref f)))(hf:PySem.W.typeIn K (.ref f)=some (.type "function"))
 (h:codeAny (model prog w) (A.under (.builtin "type.__call__" ⟨.ref C :: vs,kw⟩)) (.call (.ref f) ⟨.ref (s.heap.objs.size+1) :: vs,kw⟩) (PySem.W.InitBack (s.heap.objs.size+1) R)
  { s with heap:=(s.heap.push PySem.W.emptyDict).push (PySem.W.instObj C s.heap.objs.size) }) :
 codeAny (model prog w) A (.call (.ref C) ⟨vs,kw⟩) R s:=by
 obtain⟨hh,g,d,t,os⟩:=s;exact PySem.W.make_core (PySem.W.makes_of X hm) (PySem.W.looks_findIn X hi) (fun self=>PySem.W.bind_fn X self hf) (.inl rfl) h
end
noncomputable def AR (f:Str) (v:V):List (Str×V)->List (Str×V)
 | []=>[(f,v)]
 | (g,x) :: r=>if g=f then(g,v) :: r else(g,x) :: AR f v r
theorem VT (f g:Str)(v:V):∀ fs:List (Str×V),(AR f v fs).lookup g=if g=f then some v else fs.lookup g
 | []=>by
  show List.lookup g [(f,v)]=_;by_cases h:g=f
  . have hb:(g == f)=true:=beq_iff_eq.mpr h;simp only[List.lookup,hb,if_pos h]
  . have hb:(g == f)=false:=beq_eq_false_iff_ne.mpr h;simp only[List.lookup,hb,if_neg h]
 | (k,x) :: r=>by
  have ih:=VT f g v r;rw[show AR f v ((k,x) :: r)=(if k=f then(k,v) :: r else(k,x) :: AR f v r) from rfl];by_cases hk:k=f
  . rw[if_pos hk];by_cases h:g=k
    . have hb:(g == k)=true:=beq_iff_eq.mpr h;simp only[List.lookup,hb,if_pos (h.trans hk)]
    . have hb:(g == k)=false:=beq_eq_false_iff_ne.mpr h;simp only[List.lookup,hb,if_neg (fun e:g=f=>h (e.trans hk.symm))]
  . rw[if_neg hk];by_cases h:g=k
    . have hb:(g == k)=true:=beq_iff_eq.mpr h;simp only[List.lookup,hb,if_neg (fun e:g=f=>hk (h.symm.trans e))]
    . have hb:(g == k)=false:=beq_eq_false_iff_ne.mpr h;simp only[List.lookup,hb];exact ih
theorem Qg (f:Str)(v:V):∀ fs:List (Str×V),f∈(AR f v fs).map (·.1)/\∀ g,g∈fs.map (·.1)->g∈(AR f v fs).map (·.1)
 | []=>⟨by simp[AR],fun g h=>by simp at h⟩
 | (k,x) :: r=>by
  obtain⟨i1,i2⟩:=Qg f v r;rw[show AR f v ((k,x) :: r)=(if k=f then(k,v) :: r else(k,x) :: AR f v r) from rfl];by_cases hk:k=f
  . rw[if_pos hk];subst hk;exact⟨by simp,fun g h=>by simpa using h⟩
  . rw[if_neg hk];refine⟨?_,fun g h=>?_⟩
    . rw[CJ];exact CH _ i1
    . rw[CJ] at h ⊢;rcases List.mem_cons.mp h with e | e
      . exact List.mem_cons.mpr (.inl e)
      . exact CH _ (i2 g e)
theorem U6 (f:Str)(v:V):∀ fs:List (Str×V),(AR f v fs).length<=fs.length+1
 | []=>by simp[AR]
 | (k,x) :: r=>by
  have ih:=U6 f v r;rw[show AR f v ((k,x) :: r)=(if k=f then(k,v) :: r else(k,x) :: AR f v r) from rfl];by_cases hk:k=f
  . rw[if_pos hk,C5,C5];exact om
  . rw[if_neg hk,C5,C5];exact om
theorem iP.some_of {o:Option Value}(r:iP (some v) o):∃ u,o=some u/\hG v u:=by
 cases o with
 | none=>exact(show False from r).elim
 | some u=>exact⟨u,U,r⟩
theorem iP.none_of {o:Option Value}(r:iP none o):o=none:=by
 cases o with
 | none=>rfl
 | some u=>exact(show False from r).elim
theorem Zj {u:Value}(r:hG v u):PySem.W.handedIn u=true:=by
 cases v with
 | non=>cases(show u=Value.none from r);rfl
 | bl b=>cases(show u=Value.bool b from r);rfl
 | int i=>obtain⟨t,e⟩:=(show ∃ t,u=Value.int i t from r);cases e;rfl
 | str x=>obtain⟨t,e⟩:=(show ∃ t,u=Value.str x t from r);cases e;rfl
 | byt b=>obtain⟨t,e⟩:=(show ∃ t,u=Value.bytes b t from r);cases e;rfl
 | flt b=>obtain⟨t,e⟩:=(show ∃ t,u=Value.float b t from r);cases e;rfl
 | ref a=>cases(show u=Value.ref a from r);rfl
 | ty n=>cases(show u=Value.type n from r);rfl
section
variable {P:Program}{w:World}{C:Addr}{fs fs':List (Str×V)}
theorem MO (hW:iQ P w H h)(e:H a=some (.ins C dx fs)):∃ mA,jS h a dx C mA/\(∀ f,iP (fs.lookup f) (mA f))/\PySem.Within mA (fs.map (·.1))/\fs.length<=1000/\H dx=some (.own a):=by
 obtain⟨d,z,ne,ob,mA,n,r,q⟩:=(show im P w H h a (.ins C dx fs) from hW a _ e)
 exact⟨mA,⟨ob,n,ne⟩,r,q,z,d⟩
end
structure jk (K:W.Frag)(C:Addr):Prop where
 pg:PySem.W.plainGet K C Str.empty=true
 hd:PySem.W.hasDictIn K C=true
 po:PySem.W.plainOver K C=true
 sa:W.findIn K (.ref C) "__setattr__" = some (some (.builtin "object.__setattr__"))
theorem jk.get {K:W.Frag}{C:Addr}(c:jk K C)(f:Str):PySem.W.plainGet K C f=true:=c.pg
def ig (K:W.Frag)(C:Addr)(f:Str):Prop:=W.findIn K (.ref C) f=some none
theorem ig.kN {K:W.Frag}{C:Addr}{f:Str}(n:ig K C f):PySem.W.takerIn K C f=some none:=by
 unfold PySem.W.takerIn;rw[show W.findIn K (.ref C) f=some none from n]
 rfl
structure Gy (K:W.Frag)(C:Addr)(m:Str)(f:Addr):Prop where
 at_:W.findIn K (.ref C) m=some (some (.ref f))
 fn:PySem.W.isFn K (.ref f)=true
 kp:W.keepIn K (.ref f)=true
section
variable {X:Cx}{C:Addr}{fs:List (Str×V)}{f:Str}
theorem bn {b:Bool}(I:gv X aa σ H s)(e:H a=some (.ins C dx fs))(c:jk X.K C)(n:ig X.K C f)(l:fs.lookup f=some v)
 (h:∀ u s',gv X aa σ H s'->hG v u->Q u s'):wpAny (model X.prog X.w) A (getAttr (.ref a) f b) Q E s:=by
 obtain⟨mA,O,r,_,_,_⟩:=MO I.hW e;obtain⟨u,hu,ru⟩:=iP.some_of (v:=v) (o:=mA f) (by rw[<- l];exact r f);exact b8 I.iY O (c.get f) c.hd n hu (Zj ru) (h u _ (I.tok _) ru)
theorem Tv {m:Str}{g:Addr}{pl:Sem Bool}{Q:Value×List Value->Shared->Prop}(I:gv X aa σ H s)(e:H a=some (.ins C dx fs))(c:jk X.K C)(k:Gy X.K C m g)(l:fs.lookup m=none)
 (h:Q (.ref g,[.ref a]) s):wpAny (model X.prog X.w) A (getMethod (.ref a) m pl) Q E s:=by
 obtain⟨mA,O,r,_,_,_⟩:=MO I.hW e;have hn:mA m=none:=iP.none_of (by rw[<- l];exact r m);exact Wt I.iY O (c.get m) k.at_ k.fn hn h
theorem bD {u:Value}{Q:Unit->Shared->Prop}(I:gv X aa σ H s)(e:H a=some (.ins C dx fs))(c:jk X.K C)(n:ig X.K C f)(hl:fs.length<1000)(ry:hG y u)
 (h:∀ s',gv X aa σ (Ab H a (.ins C dx (AR f y fs))) s'->Q () s'):wpAny (model X.prog X.w) A (setAttr (.ref a) f u) Q E s:=by
 obtain⟨mA,O,r,wi,_,ho⟩:=MO I.hW e;have hz:(fs.map (·.1)).length<=sizeLine:=by rw[AS,Bf];exact om
 refine fT I.iY O c.sa c.po n.kN c.hd wi hz fun h' O' sb=>h _ ?_;have hd:∃ o,h'.get? dx=some o:=let ⟨o,_,_,e',_⟩:=O'.ns;⟨o,e'⟩
 refine I.write (x:=a) (e:=dx) (by rw[e];exact True.intro) (.inr ho) (fun b q hb z=>(sb.2 b hb).trans z) hd ?_;refine⟨by rw[Af O.ne];exact ho,?_,O.ne,O'.obj,_,O'.ns,fun g=>?_,fun g hg=>?_⟩
 . have:=U6 f y fs;exact om
 . show iP ((AR f y fs).lookup g) (if g=f then some u else mA g);rw[VT];by_cases q:g=f
   . rw[if_pos q,if_pos q];exact ry
   . rw[if_neg q,if_neg q];exact r g
 . by_cases q:g=f
   . rw[q];exact(Qg f y fs).1
   . refine(Qg f y fs).2 g (wi g fun z=>hg ?_);show(if g=f then some u else mA g)=none;rw[if_neg q];exact z
theorem gv.made (I:gv X aa σ H s):gv X aa σ (Ab (Ab H s.heap.objs.size (.own (s.heap.objs.size+1))) (s.heap.objs.size+1) (.ins C s.heap.objs.size []))
 { s with heap:=(s.heap.push PySem.W.emptyDict).push (PySem.W.instObj C s.heap.objs.size) }:=by
 have e1:(s.heap.push PySem.W.emptyDict).get? s.heap.objs.size=some PySem.W.emptyDict:=Cn s.heap rfl;have e2:((s.heap.push PySem.W.emptyDict).push (PySem.W.instObj C s.heap.objs.size)).get? (s.heap.objs.size+1)=some (PySem.W.instObj C s.heap.objs.size):=by
  have:=Cn (s.heap.push PySem.W.emptyDict) (o:=PySem.W.instObj C s.heap.objs.size) rfl
  rwa [QG] at this
 have e3:(s.heap.push PySem.W.emptyDict).Ns s.heap.objs.size (fun _=>none):=⟨PySem.W.emptyDict,#[],_,e1,U,(fun e he=>absurd he (by simp)),fun _=>rfl⟩
 have I1:=I.laid (a:=s.heap.objs.size) (o:=.own (s.heap.objs.size+1)) (h':=s.heap.push PySem.W.emptyDict) (t':=s.toks) (fun b u q=>Bb _ q) (Ay _) ⟨_,e1⟩;refine I1.laid (a:=s.heap.objs.size+1) (o:=.ins C s.heap.objs.size []) (t':=s.toks) (fun b u q=>Bb _ q) (Nat.le_of_eq (QG _ _)) ?_;have ne:s.heap.objs.size≠s.heap.objs.size+1:=BC (QH _);refine⟨by rw[Af ne,Ad],Es _,ne,e2,fun _=>none,(Heap.Ns1.of_empty e3).at fun o q=>Bb _ q,fun _=>True.intro,fun y hy=>absurd rfl hy⟩
theorem cJ {prog:Program}{w:World}{env:Env}{f:Str}(hb:attributeBase e f env (eval e env)=eval e env)
 (h:wpAny (model prog w) A (eval e env) (fun o s₁=>wpAny (model prog w) A (getAttr o f true) Q E s₁) E s):wpAny (model prog w) A (eval (.Attribute e f pos) env) Q E s:=
 Attribute_any_ h (by rw[arm_eval_Attribute,hb])
end
def LF (K:W.Frag)(ta:TE)(f:Str):TE:=fun σ H Q=>ta σ H fun x H1=>∃ a C dx fs v,x = .ref a/\H1 a=some (.ins C dx fs)/\jk K C/\ig K C f/\fs.lookup f=some v/\Q v H1
def ZJ (K:W.Frag)(ta tv:TE)(f:Str):TS:=fun D σ H=>tv σ H fun y H1=>ta σ H1 fun x H2=>∃ a C dx fs,x = .ref a/\H2 a=some (.ins C dx fs)/\jk K C/\ig K C f/\fs.length<1000/\
 D.nx σ (Ab H2 a (.ins C dx (AR f y fs)))
section
variable {X:Cx}{o value:Expr}{f:Str}{tpos:Pos}{tv:TE}
theorem Bi (he:PE X e ta)(hb:attributeBase e f X.env (eval e X.env)=eval e X.env):PE X (.Attribute e f pos) (LF X.K ta f):=by
 intro aa s σ H Q I h;refine cJ hb (Av (he aa s σ H _ I h) fun u s1 hz=>?_);obtain⟨x,H1,I1,rx,a,C,dx,fs,v,ex,ea,c,n,l,q⟩:=hz;subst ex;obtain rfl:u=Value.ref a:=rx;exact bn I1 ea c n l fun u' s2 I2 ru=>⟨v,H1,I2,ru,q⟩
theorem Cs (ha:PE X o ta)(hv:PE X value tv)(hs:swapsWith value (some (.Attribute o f pos')) pos.line X.env=pure false):PS X (.Assign [.Attribute o f pos'] value pos) (ZJ X.K ta tv f):=by
 intro aa s σ H D I h;refine plainObj_wpAny_Assign_Attribute (Av (hv aa s σ H _ I h) fun u s1=>Bl fun y H1 I1 ry q=>Av (ha aa s1 σ H1 _ I1 q) fun ov s2 hz=>?_) hs;obtain⟨x,H2,I2,rx,a,C,dx,fs,ex,ea,c,n,l,q2⟩:=hz;subst ex;obtain rfl:ov=Value.ref a:=rx;exact bD I2 ea c n l ry fun s3 I3=>⟨σ,_,I3,q2⟩
end
section
variable {X:Cx}{c:Value}{b:Bool}
inductive D6 (K:W.Frag) (H:Hp):V->Value->Prop where
 | non:D6 K H .non (.type "NoneType")
 | bl (x:Bool):D6 K H (.bl x) (.type "bool")
 | int (i:Int):D6 K H (.int i) (.type "int")
 | str (x:Str):D6 K H (.str x) (.type "str")
 | flt (x:UInt64):D6 K H (.flt x) (.type "float")
 | lst {a:Addr}{xs:List V}(e:H a=some (.lst xs)):D6 K H (.ref a) (.type "list")
 | frz {a:Addr}{o:Obj}{xs:List V}(e:H a=some (.frz o (.lst xs))):D6 K H (.ref a) (.type "list")
 | tup {a:Addr}{xs:List V}(e:H a=some (.tup xs)):D6 K H (.ref a) (.type "tuple")
 | dK {a:Addr}{kvs:List (Al×V)}(e:H a=some (.dK kvs)):D6 K H (.ref a) (.type "dict")
 | dT {a:Addr}{kvs:List (List Al×V)}(e:H a=some (.dT kvs)):D6 K H (.ref a) (.type "dict")
 | ins {a C dx:Addr}{fs:List (Str×V)}(e:H a=some (.ins C dx fs)) (cl:jk K C) (ha:W.findIn K (.ref C) "__class__" = some (some (.builtin "object.__class__")))
  (hn:PySem.W.specialIn K (.builtin "object.__class__") "__get__" = some (some (.builtin "getset_descriptor.__get__")))(htk:PySem.W.takesIn K (.builtin "object.__class__")=some true)
  (hm:PySem.W.mroIn K C (.type "object")=some true):D6 K H (.ref a) (.ref C)
theorem VM {x:V}{u t:Value}(I:gv X aa σ H s)(rx:hG x u)(ty:D6 X.K H x t)(e:W.kitOne X.K t c=some b)(h:∀ tk,Q (.bool b) { s with toks:=tk }) :
 wpAny (model X.prog X.w) A (call (.builtin "isinstance") [u,c]) Q E s:=by
 cases ty with
 | non=>cases(show u=Value.none from rx);exact EL PySem.W.kitx_none I.iY True.intro e (fun z=>nomatch z) h
 | bl y=>cases(show u=Value.bool y from rx);exact EL PySem.W.kitx_bool I.iY True.intro e (fun z=>nomatch z) h
 | int i=>obtain⟨t,q⟩:=(show ∃ t,u=Value.int i t from rx);cases q;exact EL PySem.W.kitx_int I.iY True.intro e (fun z=>nomatch z) h
 | str y=>obtain⟨t,q⟩:=(show ∃ t,u=Value.str y t from rx);cases q;exact EL PySem.W.kitx_str I.iY True.intro e (fun z=>nomatch z) h
 | flt y=>obtain⟨t,q⟩:=(show ∃ t,u=Value.float y t from rx);cases q;exact EL PySem.W.kitx_float I.iY True.intro e (fun z=>nomatch z) h
 | @lst a xs ea=>
  cases(show u=Value.ref a from rx)
  obtain⟨_,_,n,_,h1⟩:=(show im X.prog X.w H s.heap a (.lst xs) from I.hW a _ ea)
  exact EL PySem.W.kitx_list I.iY ⟨_,h1,U⟩ e (fun z=>nomatch z) h
 | @frz a ob xs ea=>
  cases(show u=Value.ref a from rx)
  obtain⟨_,_,_,n,_,h1⟩:=(show im X.prog X.w H s.heap a (.frz ob (.lst xs)) from I.hW a _ ea)
  exact EL PySem.W.kitx_list I.iY ⟨_,h1,U⟩ e (fun z=>nomatch z) h
 | @tup a xs ea=>
  cases(show u=Value.ref a from rx)
  obtain⟨_,_,_,p⟩:=(show im X.prog X.w H s.heap a (.tup xs) from I.hW a _ ea)
  obtain⟨o,h1,h2,_⟩:=p;exact EL PySem.W.kitx_tuple I.iY ⟨o,h1,h2⟩ e (fun z=>nomatch z) h
 | @dK a kvs ea=>
  cases(show u=Value.ref a from rx)
  obtain⟨_,_,vs,_,p⟩:=(show im X.prog X.w H s.heap a (.dK kvs) from I.hW a _ ea)
  obtain⟨o,es,ep,h1,h2,_⟩:=p;exact EL PySem.W.kitx_dict I.iY ⟨o,h1,h2.1⟩ e (fun z=>nomatch z) h
 | @dT a kvs ea=>
  cases(show u=Value.ref a from rx)
  obtain⟨_,_,xs,_,o,es,ep,h1,h2,_⟩:=(show im X.prog X.w H s.heap a (.dT kvs) from I.hW a _ ea)
  exact EL PySem.W.kitx_dict I.iY ⟨o,h1,h2.1⟩ e (fun z=>nomatch z) h
 | @ins a C dx fs ea cl ha hn htk hm=>
  cases(show u=Value.ref a from rx)
  obtain⟨mA,O,_⟩:=MO I.hW ea;obtain⟨od,J,_⟩:=O.look;exact EL (PySem.W.kitx_own (cl.get _) cl.hd ha hn htk hm) I.iY J e (fun z=>nomatch z) h
end
structure ic (k:Nat)(A:Around):Prop where
 hd:A.handled=none
 dp:A.depth+3 * k+5<recursionLimit
 un:A.units+16 * k+200<cLine
theorem ic.mono {k:Nat}(r:ic k A)(h:j<=k):ic j A:=⟨r.hd,by have:=r.dp;exact om,by have:=r.un;exact om⟩
theorem ic.m {k:Nat}(h:ic k A)(e:j<=k:=by first | decide | exact om):ic j A:=h.mono e
theorem ic.deeper {k:Nat}(r:ic (k+1) A)(env:Env):ic k (A.deeper env):=
 ⟨r.hd,by have:=r.dp;show A.depth+1+3 * k+5<_;exact om,by have:=r.un;show A.units+3+16 * k+200<_;exact om⟩
theorem gZ {C:Addr}:(A.under (.builtin "type.__call__" ⟨.ref C :: us,kw⟩)).depth=A.depth+1:=by
 first | rfl | simp[Around.under,Code.weight,Code.isCreation,Code.isGuard,Code.isCaller,Code.frames,Code.isFrame,guardIds]
theorem bT {C:Addr}:(A.under (.builtin "type.__call__" ⟨.ref C :: us,kw⟩)).units=A.units+1:=by
 first | rfl | simp[Around.under,Code.cUnits,Code.frames,Code.isFrame]
theorem ic.make {k:Nat}(r:ic (k+1) A)(C:Addr)(us:List Value)(kw:List (Str×Value)):ic k (A.under (.builtin "type.__call__" ⟨.ref C :: us,kw⟩)):=
 ⟨r.hd,by have:=r.dp;rw[gZ];exact om,by have:=r.un;rw[bT];exact om⟩
theorem ic.depth {k:Nat}(r:ic k A):A.depth<recursionLimit:=by have:=r.dp;exact om
theorem ic.units {k:Nat}(r:ic k A):A.units+64<cLine:=by have:=r.un;exact om
def D7:TA:=fun _ H Q=>Q [] H
def Cu (ta:TE)(tr:TA):TA:=fun σ H Q=>ta σ H fun x H1=>tr σ H1 fun xs H2=>Q (x :: xs) H2
section
variable {X:Cx}{t:TA}
theorem CP:PA X [] D7:=fun _ _ _ _ H Q I h=>PX ⟨[],H,I,.nil,h⟩
theorem BR (ha:PE X e te)(hr:PA X es t)(hs:starEach (e :: es) X.env=(false,eval e X.env) :: starEach es X.env:=by rfl):PA X (e :: es) (Cu te t):=by
 intro pos aa s σ H Q I h;rw[hs];show wpAny _ _ (spliced ((false,eval e X.env) :: backTo pos (starEach es X.env))) _ _ s;refine Nm (Av (ha aa s σ H _ I h) fun u s1=>Bl fun x H1 I1 r1 q1=>?_);exact Av (hr pos aa s1 σ H1 _ I1 q1) fun us s2=>Bl fun xs H2 I2 r2 q2=>⟨x :: xs,H2,I2,.cons r1 r2,q2⟩
def Zf (t:TA):TE:=fun σ H Q=>t σ H fun xs H1=>xs.length<=sizeLine/\∀ p,H1 p=none->Q (.ref p) (Ab H1 p (.tup xs))
def cs (t:TA):TE:=fun σ H Q=>t σ H fun xs H1=>xs.length<=sizeLine/\∀ p,H1 p=none->Q (.ref p) (Ab H1 p (.lst xs))
abbrev EM (X:Cx)(e:Expr)(es:List Expr):Prop:=starEach (e :: es) X.env=(false,eval e X.env) :: starEach es X.env
theorem Ar {a:Expr}(p:PE X a ta)(h:EM X a []:=by rfl):PA X [a] (Cu ta D7):=BR p CP h
theorem AG {a b:Expr}{tb:TE}(p:PE X a ta)(q:PE X b tb)(h:EM X a [b]:=by rfl)(i:EM X b []:=by rfl):PA X [a,b] (Cu ta (Cu tb D7)):=BR p (Ar q i) h
theorem An {a b:Expr}{tb tc:TE}(p:PE X a ta)(q:PE X b tb)(r:PE X c tc)(h:EM X a [b,c]:=by rfl)(i:EM X b [c]:=by rfl)(j:EM X c []:=by rfl):PA X [a,b,c] (Cu ta (Cu tb (Cu tc D7))):=BR p (AG q r i j) h
theorem BH {a b d:Expr}{tb tc td:TE}(p:PE X a ta)(q:PE X b tb)(r:PE X c tc)(z:PE X d td)(h:EM X a [b,c,d]:=by rfl)(i:EM X b [c,d]:=by rfl)(j:EM X c [d]:=by rfl)(k:EM X d []:=by rfl):PA X [a,b,c,d] (Cu ta (Cu tb (Cu tc (Cu td D7)))):=BR p (An q r z i j k) h
theorem Bp {x1} (h:PA X es t):PE X (.Tuple es x1 pos) (Zf t):=by
 intro aa s σ H Q I hq;refine wpAny_Tuple_spliced (Av (h pos aa s σ H _ I hq) fun us s1 ⟨xs,H1,I1,r,z,q⟩=>⟨by rw[<- r.length];exact z,?_⟩);have hf:H1 s1.heap.objs.size=none:=I1.hW.fresh (Ay _);refine⟨.ref s1.heap.objs.size,Ab H1 s1.heap.objs.size (.tup xs),I1.laid (t':=s1.toks) (fun b u e=>Bb _ e) (Ay _) ?_,U,q _ hf⟩;exact⟨z,us,r,⟨_,Cn _ rfl,U,_,U⟩⟩
theorem Ci (h:PA X es t):PE X (.List es pos) (cs t):=by
 intro aa s σ H Q I hq;refine wpAny_List_spliced (Av (h pos aa s σ H _ I hq) fun us s1 ⟨xs,H1,I1,r,z,q⟩=>⟨by rw[<- r.length];exact z,?_⟩);have hf:H1 s1.heap.objs.size=none:=I1.hW.fresh (Ay _);refine⟨.ref s1.heap.objs.size,Ab H1 s1.heap.objs.size (.lst xs),I1.laid (t':=s1.toks) (fun b u e=>Bb _ e) (Ay _) ?_,U,q _ hf⟩;exact⟨z,us,0,r,Cn _ rfl⟩
end
abbrev Sp:=List V->Hp->VK->XK->Prop
abbrev Dw:=List Env->Hp->Shared->XK->Value->Shared->Prop
structure ju (P:Program)(w:World)(K:W.Frag)(mg:gj)(base:Heap)(A:Around)(outer:List Env)(s:Shared)(H:Hp):Prop where
 frames:A.frames=some outer
 mod:Mod K mg base
 bs:∀ b o,base.get? b=some o->s.heap.get? b=some o/\H b=none
 j5:base.objs.size<=s.heap.objs.size
 iW:s.heap.FunFrames base outer
 j8:∀ b∈Bz outer,H b=none
 hW:iQ P w H s.heap
 bare:AllBare s.gens
def CE (outer:List Env)(P:Program)(w:World)(H:Hp)(s:Shared)(Q:VK)(u:Value)(s':Shared):Prop:=
 ∃ v H',s'.os=s.os/\AllBare s'.gens/\Un (Bz outer) [] H H' s.heap s'.heap/\iQ P w H' s'.heap/\hG v u/\Q v H'
def CR (CX:Dw)(outer:List Env)(P:Program)(w:World)(H:Hp)(s:Shared)(Q:VK)(E:XK)(r:Result)(s':Shared):Prop:=
 match r with
 | .ok (.ret u)=>CE outer P w H s Q u s'
 | .ok _=>False
 | .error e=>CX outer H s E e s'
structure iC (P:Program)(w:World)(K:W.Frag)(mg:gj)(base:Heap)(CX:Dw)(k:Nat)(f:Addr)(fd:FuncData)(ps:List Str)(sp:Sp):Prop where
 len:∀ vs H Q E,sp vs H Q E->vs.length=ps.length
 run:∀ (A:Around) (outer:List Env) (s:Shared) (H:Hp) (args:Args) (us:List Value) (vs:List V) (Q:VK) (E:XK),ic k A->ju P w K mg base A outer s H->BindsTo s fd args (ps.zip us)->hI vs us->sp vs H Q E->
  codeAny (model P w) A (.call (.ref f) args) (CR CX outer P w H s Q E) s
theorem iC.mono {CX:Dw}{k:Nat}{ps:List Str}(F:iC P w K mg base CX j f fd ps sp)(h:j<=k) :
 iC P w K mg base CX k f fd ps sp:=⟨F.len,fun A outer s H args us vs Q E hr=>F.run A outer s H args us vs Q E (hr.mono h)⟩
theorem ju.make (e:ju P w K mg base A outer s H)(C:Addr)(us:List Value)(kw:List (Str×Value)) :
 ju P w K mg base (A.under (.builtin "type.__call__" ⟨.ref C :: us,kw⟩)) outer s H:=⟨by first | exact e.frames | (simpa [Around.under,Code.envs,Code.isFrame,pushEnvs] using e.frames),e.mod,e.bs,e.j5,e.iW,e.j8,e.hW,e.bare⟩
section
variable {X:Cx}
theorem gv.kj (I:gv X aa σ H s):ju X.prog X.w X.K X.mg X.base X.A X.stack s H:=
 ⟨I.ok.frames,I.ok.mod,I.bs,Bu I.ok.j5 I.sz,I.stack,I.jr,I.hW,I.bare⟩
theorem gv.after {Q:VK}{u:Value}(I:gv X aa σ H s)(h:CE X.stack X.prog X.w H s Q u s'):EP X aa σ Q u s':=by
 obtain⟨v,H',os,bare,un,hW,r,q⟩:=h;obtain⟨hh,g,d,t,os'⟩:=s';obtain rfl:os'=s.os:=os;exact⟨v,H',I.call (h':=hh) (g':=g) (d':=d) (t':=t) (ch:=[]) un hW bare (fun b z=>absurd z (by simp)),r,q⟩
end
def Hs (sp:Sp)(dvs:List V)(E:XK)(t:TA):TE:=fun σ H Q=>t σ H fun vs H1=>sp (vs++dvs) H1 Q E
def FR (C:Addr)(m:Str)(sp:Sp)(dvs:List V)(E:XK)(ta:TE)(t:TA):TE:=fun σ H Q=>ta σ H fun x H1=>∃ a dx fs,x = .ref a/\H1 a=some (.ins C dx fs)/\fs.lookup m=none/\
 t σ H1 fun vs H2=>sp (x :: (vs++dvs)) H2 Q E
def Vg (C:Addr)(sp:Sp)(dvs:List V)(E:XK)(t:TA):TE:=fun σ H Q=>t σ H fun vs H1=>∀ x dx,H1 x=none->H1 dx=none->dx≠x->
 sp (.ref x :: (vs++dvs)) (Ab (Ab H1 dx (.own x)) x (.ins C dx [])) (fun v H2=>v = .non/\Q (.ref x) H2) E
def iq (K:W.Frag)(fd:FuncData)(ps:List Str)(ds:List Value):Prop:=
 ∀ (s:Shared) (us:List Value),K.In s.heap->(us++ds).length=ps.length->BindsTo s fd ⟨us,[]⟩ (ps.zip (us++ds))
theorem iq.all {K:W.Frag}{ps:List Str}(h:∀ us:List Value,us.length=ps.length->bindArgs fd ⟨us,[]⟩=pure (ps.zip us)):iq K fd ps []:=fun s us _ hl=>by
 rw[E8] at hl ⊢;exact .of_eq (h us hl)
def ED (CX:Dw)(X:Cx)(E:XK):Prop:=∀ (aa:List (Addr×Obj))(σ:St)(H:Hp)(s:Shared)(e:Value)(s':Shared),gv X aa σ H s->CX X.stack H s E e s'->X.xe e s'
section
variable {X:Cx}{CX:Dw}{k:Nat}{C:Addr}{ps:List Str}{dvs:List V}{ds:List Value}{E:XK}{m:Str}{p ae:Pos}{o:Expr}{t:TA}
theorem N0 {Q:VK}(F:iC X.prog X.w X.K X.mg X.base CX k f fd ps sp)(hr:ic k X.A)(hb:iq X.K fd ps ds)(hd:hI dvs ds)(hx:ED CX X E)
 (I:gv X aa σ H s)(r:hI vs us)(h:sp (vs++dvs) H Q E):wpAny (model X.prog X.w) X.A (call (.ref f) us) (EP X aa σ Q) X.xe s:=by
 have r2:hI (vs++dvs) (us++ds):=r.append hd;have hl:(us++ds).length=ps.length:=by rw[<- r2.length];exact F.len _ _ _ _ h
 refine FQ (codeAny_mono (F.run X.A X.stack s H ⟨us,[]⟩ (us++ds) (vs++dvs) Q E hr I.kj (hb s us I.iY hl) r2 h) fun r s' hq=>?_);cases r with
 | error e=>exact hx aa σ H s e s' I hq
 | ok fl=>
  cases fl with
  | ret u=>exact I.after hq
  | next=>exact False.elim hq
  | brk=>exact False.elim hq
  | cont=>exact False.elim hq
abbrev DT (x:Str):Prop:=(x == ("__debug__" : Str))=false
abbrev Ef (X:Cx)(e:Expr)(es:List Expr):Prop:=starEach (e :: es) X.env=(false,eval e X.env) :: starEach es X.env
abbrev DU (X:Cx)(es:List Expr)(p:Pos):Prop:=(backTo p (starEach es X.env)).any (·.1)=false
abbrev NA (X:Cx)(o:Expr)(m:Str)(as:List Expr)(pl:Sem Bool)(q p:Pos):Prop:=eval (.Call (.Attribute o m q) as [] p) X.env=(do
 let ov <- eval o X.env
 standAt q.atName
 let (f,first) <- holding [ov] (getMethod ov m pl)
 callWith p f first (backTo p (starEach as X.env)) (backToKw p (keywordEach [] X.env)))
theorem dO (F:iC X.prog X.w X.K X.mg X.base CX k f fd ps sp)(hr:ic k X.A)(hg:Gl X x)(hm:X.mg x=some (.ref f))(hk:W.keepIn X.K (.ref f)=true)(hb:iq X.K fd ps ds)(hd:hI dvs ds)(hx:ED CX X E)
 (ha:PA X (e :: es) t)(hdb:DT x:=by decide)(he:Ef X e es:=by rfl)(hpl:DU X es pos:=by rfl) :
 PE X (.Call (.Name x p) (e :: es) [] pos) (Hs sp dvs E t):=by
 intro aa s σ H Q I h;refine HG (Hc I hg hm ?_ hdb);refine Ov (h₀:=X.base) I.ok.mod.km hk (Av (ha pos aa s σ H _ I h) fun us s1=>Bl fun vs H1 I1 r q=>⟨I1.iY,?_⟩) he hpl;exact N0 F hr hb hd hx I1 r q
theorem gE (F:iC X.prog X.w X.K X.mg X.base CX k f fd ps sp)(hr:ic k X.A)(hg:Gl X x)(hm:X.mg x=some (.ref f))(hk:W.keepIn X.K (.ref f)=true)(hb:iq X.K fd ps ds)(hd:hI dvs ds)(hx:ED CX X E)
 (hdb:DT x:=by decide):PE X (.Call (.Name x p) [] [] pos) (Hs sp dvs E D7):=by
 intro aa s σ H Q I h;refine HG (Hc I hg hm ?_ hdb);exact PySem.W.callWith_K0 I.iY hk (N0 (us:=[]) F hr hb hd hx I .nil h)
theorem Tq {pl:Sem Bool}(he:PE X o ta)(c:jk X.K C)(hm:Gy X.K C m f)(F:iC X.prog X.w X.K X.mg X.base CX k f fd ps sp)(hr:ic k X.A)(hb:iq X.K fd ps ds)(hd:hI dvs ds)(hx:ED CX X E)(ha:PA X (e :: es) t)
 (hst:Ef X e es:=by rfl)(hpl:DU X es pos:=by rfl)
 (ht:NA X o m (e :: es) pl ae pos:=by rfl) :
 PE X (.Call (.Attribute o m ae) (e :: es) [] pos) (FR C m sp dvs E ta t):=by
 intro aa s σ H Q I h;refine PySem.W.methodCall_KW (pl:=pl) (Av (he aa s σ H _ I h) fun u s1 hz=>?_) ht;obtain⟨x,H1,I1,rx,a,dx,fs,ex,ea,l,q⟩:=hz;subst ex;obtain rfl:u=Value.ref a:=rx;refine Tv I1 ea c hm l ?_;refine Ov (first:=[.ref a]) (h₀:=X.base) I.ok.mod.km hm.kp (Av (ha pos aa s1 σ H1 _ I1 q) fun us s2=>Bl fun vs H2 I2 r q2=>⟨I2.iY,?_⟩) hst hpl;exact N0 (us:=.ref a :: us) (vs:=.ref a :: vs) F hr hb hd hx I2 (.cons rfl r) q2
theorem fh {pl:Sem Bool}(he:PE X o ta)(c:jk X.K C)(hm:Gy X.K C m f)(F:iC X.prog X.w X.K X.mg X.base CX k f fd ps sp)(hr:ic k X.A)(hb:iq X.K fd ps ds)(hd:hI dvs ds)(hx:ED CX X E)
 (ht:NA X o m [] pl ae pos:=by rfl) :
 PE X (.Call (.Attribute o m ae) [] [] pos) (FR C m sp dvs E ta D7):=by
 intro aa s σ H Q I h;refine PySem.W.methodCall_KW (pl:=pl) (Av (he aa s σ H _ I h) fun u s1 hz=>?_) ht;obtain⟨x,H1,I1,rx,a,dx,fs,ex,ea,l,q⟩:=hz;subst ex;obtain rfl:u=Value.ref a:=rx;refine Tv I1 ea c hm l ?_;exact PySem.W.callWith_K0 (first:=[.ref a]) I1.iY hm.kp (N0 (us:=[.ref a]) (vs:=[.ref a]) F hr hb hd hx I1 (.cons rfl .nil) q)
structure Mk (K:W.Frag)(C f:Addr):Prop where
 makes:PySem.W.makesIn K C=true
 init:W.findIn K (.ref C) "__init__" = some (some (.ref f))
 fn:PySem.W.isFn K (.ref f)=true
 kp:W.keepIn K (.ref C)=true
theorem WA {Q:VK}(M:Mk X.K C f)(F:iC X.prog X.w X.K X.mg X.base CX k f fd ps sp)(hr:ic (k+1) X.A)(hb:iq X.K fd ps ds)(hd:hI dvs ds)
 (hx:ED CX X E)(I:gv X aa σ H s)(r:hI vs us)
 (h:∀ x dx,H x=none->H dx=none->dx≠x->sp (.ref x :: (vs++dvs)) (Ab (Ab H dx (.own x)) x (.ins C dx [])) (fun v H2=>v = .non/\Q (.ref x) H2) E) :
 wpAny (model X.prog X.w) X.A (call (.ref C) us) (EP X aa σ Q) X.xe s:=by
 have hq:=h (s.heap.objs.size+1) s.heap.objs.size (I.hW.fresh (Nat.le_succ _)) (I.hW.fresh (Ay _)) (BC (QH _));have I2:=gv.made (C:=C) I;have r2:hI (V.ref (s.heap.objs.size+1) :: (vs++dvs)) (Value.ref (s.heap.objs.size+1) :: (us++ds)):=.cons rfl (r.append hd);have hl:(Value.ref (s.heap.objs.size+1) :: us++ds).length=ps.length:=by
  have e:=r2.length;rw[F.len _ _ _ _ hq] at e;exact e.symm
 refine FQ (X5 (f:=f) I.iY M.makes M.init (beq_iff_eq.mp M.fn) (codeAny_mono (F.run _ X.stack _ _ ⟨Value.ref (s.heap.objs.size+1) :: us,[]⟩ (Value.ref (s.heap.objs.size+1) :: (us++ds)) _ _ E (hr.make C us [])
  (I2.kj.make C us []) (hb _ (Value.ref (s.heap.objs.size+1) :: us) I2.iY hl) r2 hq) fun r s' hq'=>?_))
 cases r with
 | error e=>exact hx aa σ _ _ e s' I2 hq'
 | ok fl=>
  cases fl with
  | ret u=>
   obtain⟨v,H',I3,rv,ev,q3⟩:=I2.after hq';subst ev;exact⟨rv,⟨V.ref (s.heap.objs.size+1),H',I3,U,q3⟩⟩
  | next=>exact False.elim hq'
  | brk=>exact False.elim hq'
  | cont=>exact False.elim hq'
theorem P9 (M:Mk X.K C f)(F:iC X.prog X.w X.K X.mg X.base CX k f fd ps sp)(hr:ic (k+1) X.A)(hg:Gl X x)(hm:X.mg x=some (.ref C))(hb:iq X.K fd ps ds)(hd:hI dvs ds)(hx:ED CX X E)
 (ha:PA X (e :: es) t)(hdb:DT x:=by decide)(he:Ef X e es:=by rfl)(hpl:DU X es pos:=by rfl) :
 PE X (.Call (.Name x p) (e :: es) [] pos) (Vg C sp dvs E t):=by
 intro aa s σ H Q I h;refine HG (Hc I hg hm ?_ hdb);refine Ov (h₀:=X.base) I.ok.mod.km M.kp (Av (ha pos aa s σ H _ I h) fun us s1=>Bl fun vs H1 I1 r q=>⟨I1.iY,?_⟩) he hpl;exact WA M F hr hb hd hx I1 r q
end
section
variable {X:Cx}{CX:Dw}{k:Nat}{C:Addr}{ps ks:List Str}{E:XK}{m:Str}{p ae kpos:Pos}{o:Expr}{kws:List Keyword}{t tk:TA}{nm:Option Str}
variable {g:List Value->List Value->List Value}{gV:List V->List V->List V}
end
structure AA (N P:List Str)(sc:Scope):Prop where
 kind:sc.kind = .function
 co:sc.isCoroutine=false
 gen:sc.isGenerator=false
 nd:N.Nodup
 pre:N.take P.length=P
 par:∀ x∈P,sc.names.lookup x=some .local\/sc.names.lookup x=some .cell
 kH:∀ y∈sc.names,y.2≠.free
theorem Tl {kindOf:Str->Option NameKind}{x:Str}:∀ {binds:List (Str×Value)}{m:gj},(∀ v,(x,v)∉binds)->bindL kindOf binds m x=m x
 | [],_,_=>rfl
 | (n,v) :: r,m,h=>by
  unfold bindL;rw[Tl fun w hw=>h w (CH _ hw)];split
  . have:x≠n:=by rintro rfl;exact h v CO
    simp[this]
  . rfl
theorem V9 {kindOf:Str->Option NameKind}{x:Str}:∀ {binds:List (Str×Value)}{m:gj},(∀ v,(x,v)∉binds)->bindC kindOf binds m x=m x
 | [],_,_=>rfl
 | (n,v) :: r,m,h=>by
  unfold bindC;rw[V9 fun w hw=>h w (CH _ hw)];split
  . rfl
  . have:x≠n:=by rintro rfl;exact h v CO
    simp[this]
theorem Ut {kindOf:Str->Option NameKind}{x:Str}{v:Value}:∀ {P:List Str}{vs:List Value}{i:Nat}{m:gj},P.Nodup->P[i]? = some x->vs[i]? = some v->kindOf x=some .local->
 bindL kindOf (P.zip vs) m x=some v
 | [],_,_,_,_,h,_,_=>by simp at h
 | _ :: _,[],_,_,_,_,h,_=>by simp at h
 | p :: P,w :: vs,0,m,nd,h1,h2,hk=>by
  simp at h1 h2;subst h1;subst h2;show bindL kindOf ((p,w) :: P.zip vs) m p=_;unfold bindL;rw[Tl fun v hv=>(List.nodup_cons.mp nd).1 (KS hv).1,if_pos hk];simp
 | p :: P,w :: vs,i+1,m,nd,h1,h2,hk=>by
  show bindL kindOf ((p,w) :: P.zip vs) m x=_;unfold bindL;exact Ut (i:=i) (List.nodup_cons.mp nd).2 (by simpa using h1) (by simpa using h2) hk
theorem TD {kindOf:Str->Option NameKind}{x:Str}{v:Value}:∀ {P:List Str}{vs:List Value}{i:Nat}{m:gj},P.Nodup->P[i]? = some x->vs[i]? = some v->kindOf x≠some .local->
 bindC kindOf (P.zip vs) m x=some v
 | [],_,_,_,_,h,_,_=>by simp at h
 | _ :: _,[],_,_,_,_,h,_=>by simp at h
 | p :: P,w :: vs,0,m,nd,h1,h2,hk=>by
  simp at h1 h2;subst h1;subst h2;show bindC kindOf ((p,w) :: P.zip vs) m p=_;unfold bindC;rw[V9 fun v hv=>(List.nodup_cons.mp nd).1 (KS hv).1,if_neg hk];simp
 | p :: P,w :: vs,i+1,m,nd,h1,h2,hk=>by
  show bindC kindOf ((p,w) :: P.zip vs) m x=_;unfold bindC;exact TD (i:=i) (List.nodup_cons.mp nd).2 (by simpa using h1) (by simpa using h2) hk
noncomputable def DJ (N:List Str) (vs:List V):St:=vs.map some++List.replicate (N.length - vs.length) none
noncomputable def BU (CX:Dw) (P:Program) (w:World) (K:W.Frag) (mg:gj) (base:Heap) (N:List Str) (qual:Str) (scope:Scope) (f:Addr) (cd:Value) (A:Around) (outer:List Env) (s:Shared) (H:Hp) (E:XK):Cx where
 prog:=P
 w:=w
 K:=K
 mg:=mg
 base:=base
 A:=A.deeper (envOfC qual scope s.heap.objs.size f cd)
 N:=N
 s₀:=s
 H₀:=H
 env:=envOfC qual scope s.heap.objs.size f cd
 outer:=outer
 stack:=envOfC qual scope s.heap.objs.size f cd :: outer
 ex:=[]
 calm:=true
 fn:=fun _=>true
 pn:=[]
 xe:=fun e s'=>wpAny (model P w) (A.deeper (envOfC qual scope s.heap.objs.size f cd)) (leaving (envOfC qual scope s.heap.objs.size f cd) e) (fun _ s''=>CX outer H s E e s'') (fun e' s''=>CX outer H s E e' s'') s'
theorem UM (h:sc.names.lookup x=some .cell):∃ c,(cellsFrom n sc.names []).lookup x=some c:=by
 have q:=QW sc.names n [] (.inl h);exact Option.isSome_iff_exists.mp q
theorem Vc {CX:Dw}{P:Program}{w:World}{K:W.Frag}{mg:gj}{base:Heap}{ps:List Str}{s1:Shared}{E:XK}
 (S:AA N ps scope)(hd:A.handled=none)(e0:ju P w K mg base A outer s H)(hl:vs.length=ps.length)(r:hI vs us)
 (x:InCallC s s.heap.objs.size (bindL (envOfC qual scope s.heap.objs.size f cd).kindOf (ps.zip us) fun _=>none) (cellsFrom (s.heap.objs.size+1) scope.names []) (bindC (envOfC qual scope s.heap.objs.size f cd).kindOf (ps.zip us) fun _=>none) s1) :
 gv (BU CX P w K mg base N qual scope f cd A outer s H E) [] (DJ N vs) H s1:=by
 have hpl:ps.length<=N.length:=by have:=congrArg List.length S.pre;rw[Cc] at this;exact om
 obtain⟨h1,tk,rfl,hk⟩:=x.done;have noA:∀ b:Addr,b∉(BU CX P w K mg base N qual scope f cd A outer s H E).ex:=fun b z=>absurd (show b∈([]:List Addr) from z) (by simp);refine⟨⟨e0.mod,S.kind,U,U,Ay _,fun y z c h1 h2=>?_,fun y hy=>?_,fun y c _ h=>?_,fun _=>hd,Around.frames_deeper e0.frames,.inr ⟨U,U⟩,fun b z=>absurd z (noA b),e0.bs,e0.j5,fun b _ _=>noA b,fun b z=>absurd z (noA b),e0.iW,e0.j8⟩,
  rfl,e0.bare,Un.kept hk,⟨_,x.toInCall.ns,fun i y v h1 h2 h3=>?_⟩,fun y c h=>⟨_,x.cell y c h⟩,e0.hW.fresh (Ay _),fun y c h=>?_,fun p hp=>absurd (show p∈([]:List (Addr×Obj)) from hp) (by simp),e0.hW.kept hk,?_⟩
 . exact name_of_addr x.apart (Fy h1) (Fy h2)
 . have hy:scope.names.lookup y=some .cell\/scope.names.lookup y=some .free:=hy;rcases hy with hy | hy
   . exact UM hy
   . exact absurd rfl (S.kH _ (Fy hy))
 . exact HF (x.above y c (Fy h))
 . have hi:i<vs.length:=by
    unfold DJ at h2;by_cases hi:i<vs.length
    . exact hi
    . rw[KY (by simpa using hi)] at h2;rw[List.getElem?_replicate] at h2;split at h2 <;> cases h2
   have ha:vs[i]? = some v:=by
    unfold DJ at h2;rw[O6 (by simpa using hi),BG] at h2;cases e:vs[i]? with
    | none=>rw[e] at h2;cases h2
    | some a=>rw[e] at h2;cases h2;rfl
   obtain⟨u,hu,rv⟩:=r.get ha;have hp:ps[i]? = some y:=by
    rw[<- S.pre,List.getElem?_take_of_lt om];exact h1
   have ndP:ps.Nodup:=by rw[<- S.pre];exact S.nd.sublist (List.take_sublist _ _)
   refine⟨u,rv,?_⟩;rcases S.par y (CK hp) with k | k
   . exact .inl ⟨k,Ut ndP hp hu k⟩
   . obtain⟨c,e⟩:=UM (n:=s.heap.objs.size+1) k;refine .inr ⟨.inl k,c,e,?_⟩;have q:=x.cell y c e;rw[TD ndP hp hu (by show scope.names.lookup y≠_;rw[k];decide)] at q;exact q
 . exact .inl (e0.hW.fresh (HF (x.above y c (Fy h))))
 . unfold DJ;show _=N.length;rw[Cf,AS,List.length_replicate];exact om
theorem NT {CX:Dw}{P:Program}{w:World}{K:W.Frag}{mg:gj}{base:Heap}{k:Nat}{params:Arguments}{kV ct:Value}
 {ps:List Str}(lk:K.lookup f=some ⟨oc,od,.func (W.fnOf name qual params body scope dV kV doc pm an ad ct),osl⟩) (hcd:PySem.W.codeIn K ad qual=true) (S:AA N ps scope)
 (len:∀ vs H Q E,sp vs H Q E->vs.length=ps.length)
 (ag:∀ (A:Around)(outer:List Env)(s:Shared)(H:Hp)(vs:List V)(Q:VK)(E:XK),ic k (A.deeper (envOfC qual scope s.heap.objs.size f ad))->sp vs H Q E->
  ∃ t,i0 (BU CX P w K mg base N qual scope f ad A outer s H E) body t/\t { nx:=fun _ H'=>Q .non H',rt:=Q } (DJ N vs) H) :
 iC P w K mg base CX (k+1) f (W.fnOf name qual params body scope dV kV doc pm an ad ct) ps sp:=by
 refine⟨len,fun A outer s H args us vs Q E hr e0 hb r hsp=>?_⟩;have hl:=len _ _ _ _ hsp;have KX:K.In s.heap:=e0.mod.km.keeps fun b o e=>(e0.bs b o e).1;have lim:s.heap.NoLimit:=e0.mod.nolimit.keeps fun b o e=>(e0.bs b o e).1;have hkind:∀ y∈ps.zip us,scope.names.lookup y.1=some .local\/(scope.names.lookup y.1=some .cell/\((cellsFrom (s.heap.objs.size+1) scope.names []).lookup y.1).isSome=true):=fun⟨n,v⟩ hy=>by
  rcases S.par n (KS hy).1 with q | q
  . exact .inl q
  . exact .inr ⟨q,QW _ _ _ (.inl q)⟩
 refine codeAny_call_function hr.depth (KX _ _ lk) rfl S.co S.gen rfl (PySem.W.codeRec_of KX hcd) (hb _ _ _ _ ?_);refine Sz S.kind hkind fun env he s1 x=>?_;subst he;refine⟨lim.keeps x.toInCall.keep,codeAny_func ?_⟩;obtain⟨t,ht,hq⟩:=ag A outer s H vs Q E (hr.deeper _) hsp;have I:gv (BU CX P w K mg base N qual scope f ad A outer s H E) [] (DJ N vs) H s1:=Vc S hr.hd e0 hl r x;refine C6 (ht [] s1 (DJ N vs) H _ I hq) (fun fl s' hs=>?_) fun e s' hs=>hs;have fin:∀ {σ':St}{H':Hp}{v:V}{u:Value},gv (BU CX P w K mg base N qual scope f ad A outer s H E) [] σ' H' s'->hG v u->Q v H'->CE outer P w H s Q u s':=
  fun {σ' H' v u} J rv q=>⟨v,H',J.os,J.bare,J.base,J.hW,rv,q⟩
 cases fl with
 | ret u=>
  obtain⟨v,σ',H',J,rv,q⟩:=hs;exact fin J rv q
 | next=>
  obtain⟨σ',H',J,q⟩:=hs;exact fin (v:=V.non) (u:=Value.none) J rfl q
 | brk=>
  obtain⟨_,_,_,q⟩:=hs;exact False.elim q
 | cont=>
  obtain⟨_,_,_,q⟩:=hs;exact False.elim q
section
variable {X:Cx}{p:Pos}{t:TA}{id T:String}{r:List V->Hp->VK->Prop}
def Ph (r:List V->Hp->VK->Prop)(t:TA):TE:=fun σ H Q=>t σ H fun vs H1=>r vs H1 Q
theorem B7 (hc:CY X (.builtin id) r)(hg:Gl X x)(hm:X.mg x=none)(hv:bootBuiltins x=some (.builtin id))(ha:PA X (e :: es) t)(hn:x≠"__name__":=by decide)(hdb:DT x:=by decide)
 (he:Ef X e es:=by rfl)(hpl:DU X es pos:=by rfl):PE X (.Call (.Name x p) (e :: es) [] pos) (Ph r t):=by
 intro aa s σ H Q I h;refine HG (GC I hg hm hv ?_ hn hdb);exact PyProof.Rows.callWith_builtin1 (Av (ha pos aa s σ H _ I h) fun us s1=>Bl fun vs H1 I1 r1 q1=>hc aa s1 σ H1 vs us Q I1 r1 q1) he hpl
theorem Gf (hc:CY X (.type T) r)(hg:Gl X x)(hm:X.mg x=none)(hv:bootBuiltins x=some (.type T))(ha:PA X (e :: es) t)(hn:x≠"__name__":=by decide)(hdb:DT x:=by decide)
 (he:Ef X e es:=by rfl)(hpl:DU X es pos:=by rfl):PE X (.Call (.Name x p) (e :: es) [] pos) (Ph r t):=by
 intro aa s σ H Q I h;refine HG (GC I hg hm hv ?_ hn hdb);exact IT (Av (ha pos aa s σ H _ I h) fun us s1=>Bl fun vs H1 I1 r1 q1=>hc aa s1 σ H1 vs us Q I1 r1 q1) he hpl
end
abbrev TO:=St->Hp->(Option Int->Hp->Prop)->Prop
def PO (X:Cx)(e:Option Expr)(t:TO):Prop:=
 ∀ (aa:List (Addr×Obj)) (s:Shared) (σ:St) (H:Hp) (Q:Option Int->Hp->Prop),gv X aa σ H s->t σ H Q->
  wpAny (model X.prog X.w) X.A (evalPart e X.env) (fun u s'=>∃ o H',gv X aa σ H' s'/\IsPart u o/\Q o H') X.xe s
def XM:TO:=fun _ H Q=>Q none H
def Yr (t:TE):TO:=fun σ H Q=>t σ H fun x H1=>∃ i,x = .int i/\Q (some i) H1
section
variable {X:Cx}{lo hi:Option Expr}{tl th:TO}
theorem Co:PO X none XM:=by
 intro aa s σ H Q I h;rw[evalPart_none];exact AY ⟨none,H,I,.none,h⟩
theorem Cm (h:PE X e te):PO X (some e) (Yr te):=by
 intro aa s σ H Q I hw;rw[evalPart_some];refine Av (h aa s σ H _ I hw) fun u s1=>Bl fun x H1 I1 r1 q1=>?_;obtain⟨i,rfl,q⟩:=q1;obtain⟨t,rfl⟩:=r1;exact⟨some i,H1,I1,.int i t,q⟩
def LO (X:Cx)(r:V->Option Int->Option Int->Hp->VK->Prop):Prop:=
 ∀ (aa:List (Addr×Obj)) (s:Shared) (σ:St) (H:Hp) (x:V) (v vl vu:Value) (lo hi:Option Int) (sl:Addr) (Q:VK),gv X aa σ H s->hG x v->s.heap.IsSliceOf sl vl vu .none->IsPart vl lo->IsPart vu hi->r x lo hi H Q->
  ∃ T id,typeLookup (.type T) "__getitem__" = pure (some (.builtin id))/\s.TypeIs v T/\wpAny (model X.prog X.w) X.A (getItem v (.ref sl)) (EP X aa σ Q) X.xe s
def XD (r:V->Option Int->Option Int->Hp->VK->Prop)(te:TE)(tl th:TO):TE:=fun σ H Q=>te σ H fun x H1=>tl σ H1 fun l H2=>th σ H2 fun u H3=>r x l u H3 Q
theorem Cg {r:V->Option Int->Option Int->Hp->VK->Prop}(hr:LO X r)(he:PE X e te)(hl:PO X lo tl)(hu:PO X hi th):PE X (.Subscript e (.Slice lo hi none p2) pos) (XD r te tl th):=by
 intro aa s σ H Q I h;refine Subscript_ (Av (he aa s σ H _ I h) fun v s1=>Bl fun x H1 I1 r1 q1=>?_);refine wpAny_Slice (Av (hl aa s1 σ H1 _ I1 q1) fun vl s2=>Bl fun l H2 I2 pl q2=>Av (hu aa s2 σ H2 _ I2 q2) fun vu s3=>Bl fun u H3 I3 pu q3=>?_);rw[evalPart_none];refine AY ?_;have I4:gv X aa σ H3 { s3 with heap:=s3.heap.push { cls:=.type "slice",data:=.fields #[vl,vu,.none] } }:=I3.kept (t':=s3.toks) fun b ob q=>Bb _ q;obtain⟨T,id,hT,ht,hg⟩:=hr aa { s3 with heap:=s3.heap.push { cls:=.type "slice",data:=.fields #[vl,vu,.none] } } σ H3 x v vl vu l u s3.heap.objs.size Q I4 r1 (Heap.IsSliceOf.new ..) pl pu q3;show wpAny (model X.prog X.w) X.A (subscriptTail e (.Slice lo hi none p2) v (.ref s3.heap.objs.size)) (EP X aa σ Q) X.xe { s3 with heap:=s3.heap.push { cls:=.type "slice",data:=.fields #[vl,vu,.none] } };exact tail_any (ops:=[.ref s3.heap.objs.size,v]) ht hT hg (by with_unfolding_all rfl)
noncomputable def B2 (xs:List V) (lo hi:Option Int):List V:=(xs.drop (HT.sIx xs.length 0 lo)).take (HT.sIx xs.length xs.length hi - HT.sIx xs.length 0 lo)
theorem SZ (xs:List V)(lo hi:Option Int):(B2 xs lo hi).length<=xs.length:=by
 unfold B2;rw[Cc,FS];exact om
def gI (K:W.Frag):V->Option Int->Option Int->Hp->VK->Prop:=fun x lo hi H Q=>∃ a xs,x = .ref a/\jx K H a xs/\
 ¬ (HT.sIx xs.length 0 lo=0/\HT.sIx xs.length xs.length hi=xs.length)/\∀ p,H p=none->Q (.ref p) (Ab H p (.tup (B2 xs lo hi)))
theorem Xt:LO X (gI X.K):=by
 intro aa s σ H x v vl vu lo hi sl Q I rx hs pl pu h;obtain⟨a,xs,rfl,hx,hw,q⟩:=h;cases rx
 obtain⟨its,r,ht,hz⟩:=I.tuple hx;have ah:its.toArray.size=xs.length:=by rw[BE];exact r.length.symm
 refine⟨"tuple",_,PyProof.Rows.slot_tuple_getitem.lookup,ht.typeIs,?_⟩;refine HT.getItem_tuple_cut ht hs pl pu (by rw[ah];exact hw) ?_ (by rw[ah];exact hz);rw[ah];refine⟨.ref s.heap.objs.size,_,I.laid (t':=s.toks) (o:=.tup (B2 xs lo hi)) (fun b ob q=>Bb _ q) (Ay _) ?_,U,q _ (I.hW.fresh (Ay _))⟩;exact⟨Bu (SZ xs lo hi) hz,_,(r.drop (HT.sIx xs.length 0 lo)).take (HT.sIx xs.length xs.length hi - HT.sIx xs.length 0 lo),IsTup.new _ _⟩
def dQ (K:W.Frag):R2:=fun x y H Q=>∃ a b xs ys,x = .ref a/\y = .ref b/\jx K H a xs/\jx K H b ys/\xs≠[]/\xs.length+ys.length<=sizeLine/\
 (ys=[]->Q (.ref a) H)/\(ys≠[]->∀ p,H p=none->Q (.ref p) (Ab H p (.tup (xs++ys))))
theorem hI.jM {xs:List V}(r:hI xs us):us=[]↔xs=[]:=by
 cases r with
 | nil=>simp
 | cons _ _=>simp
theorem aV:B6 X (binaryOp .Add) (dQ X.K):=by
 intro aa s σ H x y v u Q I rx ry h;obtain⟨a,b,xs,ys,rfl,rfl,ha,hb,hx,hz,q1,q2⟩:=h;cases rx
 cases ry
 obtain⟨its,r1,p1,_⟩:=I.tuple ha;obtain⟨its2,r2,p2,_⟩:=I.tuple hb;refine HT.cat_tup p1 p2 (fun z=>hx (r1.jM.mp z)) (fun z=>⟨.ref a,H,I,U,q1 (r2.jM.mp z)⟩) (fun z=>?_) (by rw[<- r1.length,<- r2.length];exact hz);refine⟨.ref s.heap.objs.size,_,I.laid (t':=s.toks) (o:=.tup (xs++ys)) (fun b ob q=>Bb _ q) (Ay _) ?_,U,q2 (fun w=>z (r2.jM.mpr w)) _ (I.hW.fresh (Ay _))⟩;exact⟨by rw[Cf];exact hz,_,r1.append r2,IsTup.new _ _⟩
end
noncomputable def Gu (n:Nat) (i:Int):Option Nat:=if 0<=i then(if i<n then some i.toNat else none) else if -(n:Int)<=i then some (i+n).toNat else none
noncomputable def BF {α:Type}(xs:List α) (i:Int):Option α:=(Gu xs.length i).bind fun j=>xs[j]?
theorem V0 {i:Int}(h:Gu n i=some j):seqIndex? i n=some j/\j<n/\-(n:Int)<=i/\i<n:=by
 unfold Gu at h;by_cases h0:0<=i
 . rw[if_pos h0] at h;by_cases h1:i<n
   . rw[if_pos h1] at h;have e:i.toNat=j:=Option.some.inj h;exact⟨by rw[seqIndex_of h0 h1,e],om,om,h1⟩
   . rw[if_neg h1] at h;cases h
 . rw[if_neg h0] at h;by_cases h1 : -(n:Int)<=i
   . rw[if_pos h1] at h;have e:(i+n).toNat=j:=Option.some.inj h;exact⟨by rw[seqIndex_neg om h1,e],om,h1,om⟩
   . rw[if_neg h1] at h;cases h
theorem PB {α:Type}{xs:List α}{i:Int}{v:α}(h:BF xs i=some v):∃ j,seqIndex? i xs.length=some j/\xs[j]? = some v/\j<xs.length/\-(xs.length:Int)<=i/\i<xs.length:=by
 unfold BF at h;cases e:Gu xs.length i with
 | none=>rw[e] at h;cases h
 | some j=>
  rw[e] at h;obtain⟨h1,h2,h3,h4⟩:=V0 e;exact⟨j,h1,h,h2,h3,h4⟩
theorem BK {α:Type}{xs:List α}{v:α}(h:xs[j]? = some v):BF xs (j:Int)=some v:=by
 have hj:j<xs.length:=(List.getElem?_eq_some_iff.mp h).1;have e:Gu xs.length (j:Int)=some j:=by
  unfold Gu;rw[if_pos om,if_pos om];simp
 unfold BF;rw[e];exact h
def YV (b:Expr):Prop:=∀ o i,subscripted b false o i=operate [o,i] (getItem o i)
def J0 (X:Cx)(r:R2):Prop:=
 ∀ (value slice:Expr) (aa:List (Addr×Obj)) (s:Shared) (σ:St) (H:Hp) (x y:V) (v u:Value) (Q:VK),gv X aa σ H s->hG x v->hG y u->r x y H Q->
  subscripted slice false v u=operate [v,u] (getItem v u)->wpAny (model X.prog X.w) X.A (subscriptTail value slice v u) (EP X aa σ Q) X.xe s
def Fz (X:Cx)(id:String)(r:V->List V->Hp->VK->Prop):Prop:=
 ∀ (aa:List (Addr×Obj)) (s:Shared) (σ:St) (H:Hp) (x:V) (xs:List V) (v:Value) (us:List Value) (Q:VK),gv X aa σ H s->hG x v->hI xs us->r x xs H Q->
  wpAny (model X.prog X.w) X.A (call (.builtin id) (v :: us)) (EP X aa σ Q) X.xe s
section
variable {X:Cx}{a b:Expr}{tb:TE}
theorem Bw {r:R2}(hr:J0 X r)(ha:PE X a ta)(hb:PE X b tb)(hs:YV b:=by exact fun _ _=>rfl):PE X (.Subscript a b pos) (Im r ta tb):=by
 intro aa s σ H Q I h;exact Subscript_ (OT ha hb I h fun v u s2 x y H2 I2 rx ry q=>hr a b aa s2 σ H2 x y v u Q I2 rx ry q (hs _ _))
def f8 (K:W.Frag):R2:=fun x y H Q=>∃ p xs i v,x = .ref p/\y = .int i/\gy K H p xs/\BF xs i=some v/\Q v H
def V6 (K:W.Frag):R2:=fun x y H Q=>∃ p xs i v,x = .ref p/\y = .int i/\jx K H p xs/\BF xs i=some v/\Q v H
def eJ:R2:=fun x y H Q=>∃ z i c,x = .str z/\y = .int i/\z.length<=sizeLine/\BF z.cps.toList i=some c/\Q (.str ⟨#[c]⟩) H
theorem BP:J0 X (f8 X.K):=by
 intro value slice aa s σ H x y v u Q I rx ry h hs;obtain⟨p,xs,i,z,rfl,rfl,hq,he,q⟩:=h;cases rx
 obtain⟨t,rfl⟩:=ry;obtain⟨its,r,pl,hz⟩:=I.list hq;obtain⟨j,h1,h2,h3,h4,h5⟩:=PB he;obtain⟨w,ew,rw'⟩:=r.get h2;have hl:=r.length;have hn:=IM;have fin:EP X aa σ Q w s:=⟨z,H,I,rw',q⟩
 by_cases h0:0<=i
 . have hj:i.toNat=j:=by
    rw[seqIndex_of h0 h5] at h1;exact Option.some.inj h1
   exact item_listR pl.isList h0 om (by rw[hj];simpa using ew) fin hs
 . have hj:(i+(its.toArray.size:Int)).toNat=j:=by
    rw[seqIndex_neg om h4] at h1;rw[BE,<- hl];exact Option.some.inj h1
   exact subscriptTail_builtinR (x:=w) pl.isList.typeIs slot_list_getitem.lookup
    (wpAny_getItem_list_neg (Q:=fun r s'=>r=w/\EP X aa σ Q r s') pl.isList om (by rw[BE] <;> exact om) om (by rw[hj];simpa using ew) ⟨U,fin⟩) hs
theorem FE:J0 X (V6 X.K):=by
 intro value slice aa s σ H x y v u Q I rx ry h hs;obtain⟨p,xs,i,z,rfl,rfl,hq,he,q⟩:=h;cases rx
 obtain⟨t,rfl⟩:=ry;obtain⟨its,r,pl,hz⟩:=I.tuple hq;obtain⟨j,h1,h2,h3,h4,h5⟩:=PB he;obtain⟨w,ew,rw'⟩:=r.get h2;have hl:=r.length;have hn:=IM;have fin:EP X aa σ Q w s:=⟨z,H,I,rw',q⟩
 exact subscriptTail_builtinR (x:=w) pl.typeIs slot_tuple_getitem.lookup
  (getItem_tuple (j:=j) (Q:=fun r s'=>r=w/\EP X aa σ Q r s') pl om om (by rw[BE,<- hl];exact h1) (by simpa using ew) ⟨U,fin⟩) hs
theorem Us:J0 X eJ:=by
 intro value slice aa s σ H x y v u Q I rx ry h hs;obtain⟨z,i,c,rfl,rfl,hz,he,q⟩:=h;obtain⟨t,rfl⟩:=rx;obtain⟨t',rfl⟩:=ry;obtain⟨j,h1,h2,h3,h4,h5⟩:=PB he;have hl:z.cps.toList.length=z.length:=by simp[Str.length]
 rw[hl] at h1 h4 h5;have hn:=IM;exact tail_any (typeIs_str s z t) slot_str_getitem.lookup (getItem_str (c:=c) (by
  have e1:decide (i < -(2 ^ 63:Int))=false:=Bj om;have e2:decide (i>=2 ^ 63)=false:=Bj om;rw[e1,e2,Bool.or_false]) (by rw[h1];simpa using h2) ⟨.str ⟨#[c]⟩,H,I.tok _,⟨_,U⟩,q⟩) hs
theorem XV (its:List Value)(n j:Nat)(u:Value):Obj.mapSeq (·.setIfInBounds j u) { cls:=.type "list",data:=.seq its.toArray n }={ cls:=.type "list",data:=.seq (its.set j u).toArray n }:=by
 simp[Obj.mapSeq]
theorem gv.lst {p:Addr}{xs:List V}(I:gv X aa σ H s)(h:H p=some (.lst xs)) :
 ∃ (its:List Value) (n:Nat),hI xs its/\s.heap.get? p=some { cls:=.type "list",data:=.seq its.toArray n }/\xs.length<=sizeLine:=by
 obtain⟨z,its,n,r,e⟩:=I.hW p _ h;exact⟨its,n,r,e,z⟩
theorem gv.kK {p:Addr}{xs ys:List V}{n':Nat}{f:Obj->Obj}(I:gv X aa σ H s)(h:H p=some (.lst xs))
 (ho:s.heap.get? p=some { cls:=.type "list",data:=.seq its.toArray n })(hf:f { cls:=.type "list",data:=.seq its.toArray n }={ cls:=.type "list",data:=.seq its'.toArray n' })(r:hI ys its')(hz:ys.length<=sizeLine)(t:Nat) :
 gv X aa σ (Ab H p (.lst ys)) { s with heap:=s.heap.update p f,toks:=t }:=by
 have e:(s.heap.update p f).get? p=some { cls:=.type "list",data:=.seq its'.toArray n' }:=by
  rw[Ng f ho (by rw[hf] <;> rfl),hf]
 refine I.write (x:=p) (e:=p) (by rw[h];trivial) (.inl rfl) (fun b u hb q=>(Uy _ _ (Ne.symm hb)).trans q) ⟨_,e⟩ ?_;exact⟨hz,its',n',r,e⟩
def Z1:V->V->V->Hp->(Hp->Prop)->Prop:=fun o i v H Q=>∃ p xs k j,o = .ref p/\i = .int k/\H p=some (.lst xs)/\Gu xs.length k=some j/\Q (Ab H p (.lst (xs.set j v)))
theorem X9:RX X Z1:=by
 intro aa s σ H o i v ov iv u Q I ro ri rv h;obtain⟨p,xs,k,j,rfl,rfl,hp,hj,q⟩:=h;cases ro
 obtain⟨t,rfl⟩:=ri;obtain⟨its,n,r,ho,hz⟩:=I.lst hp;obtain⟨h1,h2,h3,h4⟩:=V0 hj;have hl:=r.length;have hn:=IM;have I':gv X aa σ (Ab H p (.lst (xs.set j v))) { s with heap:=s.heap.update p (Obj.mapSeq (·.setIfInBounds j u)) }:=
  I.kK hp ho (XV its n j u) (r.set rv j) (by rw[List.length_set];exact hz) s.toks
 by_cases h0:0<=k
 . have hk:k.toNat=j:=by
    rw[seqIndex_of h0 h4] at h1;exact Option.some.inj h1
   exact PySem.W.ki_setAt ho h0 om (by rw[BE,<- hl];exact h4) (by rw[hk];exact⟨_,I',q⟩)
 . have hk:(k+(its.toArray.size:Int)).toNat=j:=by
    rw[seqIndex_neg om h3] at h1;rw[BE,<- hl];exact Option.some.inj h1
   exact PySem.W.ki_setBack ho om (by rw[BE,<- hl];exact h3) om (by rw[hk];exact⟨_,I',q⟩)
theorem bU (lo hi:Option Int)(n:Nat):(sliceBounds lo hi none n).1=((HT.sIx n 0 lo:Nat):Int)/\(sliceBounds lo hi none n).2.1=((HT.sIx n n hi:Nat):Int)/\(sliceBounds lo hi none n).2.2=1:=by
 refine⟨?_,?_,U⟩
 . cases lo with
   | none=>simp[sliceBounds,HT.sIx]
   | some i=>
    simp only[sliceBounds,HT.sIx,Option.getD_none,show(1:Int) > 0 by decide,if_true];by_cases h:i<0
    . simp only[h,if_true] <;> exact om
    . simp only[h,if_false] <;> exact om
 . cases hi with
   | none=>simp[sliceBounds,HT.sIx]
   | some i=>
    simp only[sliceBounds,HT.sIx,Option.getD_none,show(1:Int) > 0 by decide,if_true];by_cases h:i<0
    . simp only[h,if_true] <;> exact om
    . simp only[h,if_false] <;> exact om
theorem cj (its:List Value)(lo hi:Option Int):slicePick its.toArray lo hi none=((its.drop (HT.sIx its.length 0 lo)).take (HT.sIx its.length its.length hi - HT.sIx its.length 0 lo)).toArray:=by
 obtain⟨h1,h2,h3⟩:=bU lo hi its.toArray.size;unfold slicePick;rw[h1,h2,h3];simp only[sliceRange_one,pick_run,BE] <;> rfl
def XX (K:W.Frag):V->Option Int->Option Int->Hp->VK->Prop:=fun x lo hi H Q=>∃ a xs,x = .ref a/\gy K H a xs/\∀ p,H p=none->Q (.ref p) (Ab H p (.lst (B2 xs lo hi)))
theorem C9:LO X (XX X.K):=by
 intro aa s σ H x v vl vu lo hi sl Q I rx hs pl pu h;obtain⟨a,xs,rfl,hx,q⟩:=h;cases rx
 obtain⟨its,r,ht,hz⟩:=I.list hx;have ah:=r.length;refine⟨"list",_,slot_list_getitem.lookup,ht.isList.typeIs,?_⟩;refine wpAny_getItem_list_slice ht.isList hs pl pu .none (by simp) ?_ (by rw[BE] <;> exact om);rw[cj,<- ah];refine⟨.ref s.heap.objs.size,_,I.laid (t':=s.toks) (o:=.lst (B2 xs lo hi)) (fun b ob q=>Bb _ q) (Ay _) ?_,U,q _ (I.hW.fresh (Ay _))⟩;exact⟨Bu (SZ xs lo hi) hz,_,0,(r.drop (HT.sIx xs.length 0 lo)).take (HT.sIx xs.length xs.length hi - HT.sIx xs.length 0 lo),Cn _ rfl⟩
noncomputable def CD:V->Bool
 | .non=>true
 | .bl _=>true
 | .int _=>true
 | .str _=>true
 | _=>false
noncomputable def Du:V->V->Bool
 | .non,.non=>true
 | .bl a,.bl b=>a == b
 | .bl a,.int b=>(if a then 1 else 0) == b
 | .int a,.bl b=>a == (if b then 1 else 0)
 | .int a,.int b=>a == b
 | .str a,.str b=>a == b
 | _,_=>false
theorem Px {x:V}{u v:Value}(ry:hG y u)(rx:hG x v)(fy:CD y=true)(fx:CD x=true):SeqAt.EqAt A s u v (Du y x):=by
 cases y with
 | non=>
  cases ry
  cases x with
  | non=>cases rx;exact OB _
  | bl b=>cases rx;exact SeqAt.EqAt.none_bool b
  | int b=>obtain⟨t,rfl⟩:=rx;exact SeqAt.EqAt.none_int b t
  | str b=>obtain⟨t,rfl⟩:=rx;exact SeqAt.EqAt.none_str b t
  | _=>exact absurd (show false=true from fx) BX
 | bl a=>
  cases ry
  cases x with
  | non=>cases rx;exact SeqAt.EqAt.bool_none a
  | bl b=>cases rx;exact SeqAt.EqAt.bool_bool a b
  | int b=>obtain⟨t,rfl⟩:=rx;exact SeqAt.EqAt.bool_int a b t
  | str b=>obtain⟨t,rfl⟩:=rx;exact SeqAt.EqAt.bool_str a b t
  | _=>exact absurd (show false=true from fx) BX
 | int a=>
  obtain⟨t',rfl⟩:=ry;cases x with
  | non=>cases rx;exact SeqAt.EqAt.int_none a t'
  | bl b=>cases rx;exact SeqAt.EqAt.int_bool a t' b
  | int b=>obtain⟨t,rfl⟩:=rx;exact SeqAt.EqAt.int_int a t' b t
  | str b=>obtain⟨t,rfl⟩:=rx;exact SeqAt.EqAt.int_str a t' b t
  | _=>exact absurd (show false=true from fx) BX
 | str a=>
  obtain⟨t',rfl⟩:=ry;cases x with
  | non=>cases rx;exact SeqAt.EqAt.str_none a t'
  | bl b=>cases rx;exact SeqAt.EqAt.str_bool a t' b
  | int b=>obtain⟨t,rfl⟩:=rx;exact SeqAt.EqAt.str_int a t' b t
  | str b=>obtain⟨t,rfl⟩:=rx;exact SeqAt.EqAt.str_str a t' b t
  | _=>exact absurd (show false=true from fx) BX
 | _=>exact absurd (show false=true from fy) BX
theorem eN:CY X (.builtin "len") (fun xs H Q=>∃ p ys,xs=[.ref p]/\(gy X.K H p ys\/jx X.K H p ys)/\Q (.int ys.length) H):=by
 intro aa s σ H xs us Q I r h;obtain⟨p,ys,rfl,hq,q⟩:=h;obtain⟨u,rfl,rx⟩:=CT r;cases rx
 have hn:=IM;rcases hq with hq | hq
 . obtain⟨its,r',pl,hz⟩:=I.list hq;have ah:=r'.length;exact Calls.call_len_list pl.isList (by simp only[BE] <;> exact om) ⟨.int ys.length,H,I.tok _,⟨s.toks+1,by rw[BE,ah]⟩,q⟩
 . obtain⟨its,r',pl,hz⟩:=I.tuple hq;have ah:=r'.length;exact len_tuple pl (by simp only[BE] <;> exact om) ⟨.int ys.length,H,I.tok _,⟨s.toks+1,by rw[BE,ah]⟩,q⟩
theorem AW {X:Cx}{a:Expr}{ta:TE}{p pos:Pos}(hm:X.mg "len" = none)(ha:PE X a ta)(hg:Gl X "len":=by rfl)(h:EM X a []:=by rfl):PE X (.Call (.Name "len" p) [a] [] pos) (Ph (fun xs H Q=>∃ p ys,xs=[.ref p]/\(gy X.K H p ys\/jx X.K H p ys)/\Q (.int ys.length) H) (Cu ta D7)):=B7 eN hg hm PySem.boot_len (Ar ha h) (he:=h)
theorem N8:CY X (.builtin "len") (fun xs H Q=>∃ z,xs=[.str z]/\z.length<=sizeLine/\Q (.int z.length) H):=by
 intro aa s σ H xs us Q I r h;obtain⟨z,rfl,hz,q⟩:=h;obtain⟨u,rfl,t,rfl⟩:=CT r;have hn:=IM;exact len_str om ⟨.int z.length,H,I.tok _,⟨_,U⟩,q⟩
theorem UB:CY X (.type "list") (fun xs H Q=>∃ p ys,xs=[.ref p]/\(gy X.K H p ys\/jx X.K H p ys)/\∀ l,H l=none->Q (.ref l) (Ab H l (.lst ys))):=by
 intro aa s σ H xs us Q I r h;obtain⟨p,ys,rfl,hq,q⟩:=h;obtain⟨u,rfl,rx⟩:=CT r;cases rx
 have fin:∀ (its:List Value),hI ys its->ys.length<=sizeLine->∀ (h':Heap) (c':Nat),(∀ b o',s.heap.get? b=some o'->h'.get? b=some o')->
  h'.get? s.heap.objs.size=some { cls:=.type "list",dict:=none,data:=.seq its.toArray c',slots:=#[] }->EP X aa σ Q (.ref s.heap.objs.size) { s with heap:=h' }:=fun its r' hz h' c' kp e=>
  ⟨.ref s.heap.objs.size,_,I.laid (t':=s.toks) kp (Ay _) (show im X.prog X.w _ h' _ (.lst ys) from⟨hz,its,c',r',e⟩),U,q _ (I.hW.fresh (Ay _))⟩
 rcases hq with hq | hq
 . obtain⟨its,r',pl,hz⟩:=I.list hq;have ah:=r'.length;obtain⟨o,ho,hc,n,hd⟩:=pl.isList;exact call_list_seq p (.inl rfl) ho hc hd (fun h' c' kp e=>fin its r' hz h' c' kp e) (by simp only[BE] <;> exact om)
 . obtain⟨its,r',pl,hz⟩:=I.tuple hq;have ah:=r'.length;obtain⟨o,ho,hc,n,hd⟩:=pl;exact call_list_seq p (.inr rfl) ho hc hd (fun h' c' kp e=>fin its r' hz h' c' kp e) (by simp only[BE] <;> exact om)
theorem YG:CY X (.type "tuple") (fun xs H Q=>∃ p ys,xs=[.ref p]/\((gy X.K H p ys/\∀ l,H l=none->Q (.ref l) (Ab H l (.tup ys)))\/(jx X.K H p ys/\Q (.ref p) H))):=by
 intro aa s σ H xs us Q I r h;obtain⟨p,ys,rfl,h⟩:=h;obtain⟨u,rfl,rx⟩:=CT r;cases rx
 rcases h with⟨hq,q⟩ | ⟨hq,q⟩
 . obtain⟨its,r',pl,hz⟩:=I.list hq;have ah:=r'.length;refine call_tuple_list pl.isList (fun h' kp=>?_) (by simp only[BE] <;> exact om);have I1:gv X aa σ H { s with heap:=h' }:=I.kept (t':=s.toks) kp;have I2:gv X aa σ (Ab H h'.objs.size (.tup ys)) { s with heap:=h'.push { cls:=.type "tuple",data:=.seq its.toArray } }:=
    I1.laid (t':=s.toks) (fun b o e=>Bb _ e) (Ay _) (show im X.prog X.w _ _ _ (.tup ys) from⟨hz,its,r',IsTup.new _ _⟩)
   exact⟨.ref h'.objs.size,_,I2,U,q _ (I1.hW.fresh (Ay _))⟩
 . obtain⟨its,r',pl,hz⟩:=I.tuple hq;exact call_tuple_same pl ⟨.ref p,H,I,U,q⟩
def Pi (K:W.Frag)(T:String)(x:V)(H:Hp):Prop:=match x with
 | .str _=>T = "str"
 | .int _=>T = "int"
 | .ref p=>(T = "list"/\∃ xs,gy K H p xs)\/(T = "tuple"/\∃ o,K.lookup p=some o/\o.cls = .type "tuple"/\o.dict=none)\/
  (T = "dict"/\((∃ kvs,H p=some (.dK kvs))\/∃ kvs,H p=some (.dT kvs)))\/(T = "set"/\∃ S n,H p=some (.set S n))
 | _=>False
theorem SJ {T:String}{x:V}{v:Value}(I:gv X aa σ H s)(r:hG x v)(ty:Pi X.K T x H) :
 s.TypeIs v T/\∀ a,v = .ref a->∃ ob,s.heap.get? a=some ob/\ob.dict=none:=by
 cases x with
 | str z=>
  obtain⟨t,rfl⟩:=r;cases(show T = "str" from ty)
  exact⟨typeIs_str s z t,fun _ e=>nomatch e⟩
 | int i=>
  obtain⟨t,rfl⟩:=r;cases(show T = "int" from ty)
  exact⟨typeIs_int s i t,fun _ e=>nomatch e⟩
 | ref p=>
  cases r
  rcases ty with⟨rfl,xs,hq⟩ | ⟨rfl,o,hk,hc,hd⟩ | ⟨rfl,hk⟩ | ⟨rfl,S,n,hk⟩
  . obtain⟨its,_,pl,_⟩:=I.list hq;refine⟨pl.isList.typeIs,fun a e=>?_⟩;cases e
    obtain⟨o,n,e,c,hd,_⟩:=pl;exact⟨o,e,hd⟩
  . refine⟨⟨o,I.iY p o hk,hc⟩,fun a e=>?_⟩;cases e
    exact⟨o,I.iY _ o hk,hd⟩
  . have z:∃ o,s.heap.get? p=some o/\o.ExactDict:=by
     rcases hk with⟨kvs,hk⟩ | ⟨kvs,hk⟩
     . obtain⟨_,_,_,_,o,_,_,e,ex,_⟩:=I.hW p _ hk;exact⟨o,e,ex⟩
     . obtain⟨_,_,_,_,o,_,_,e,ex,_⟩:=I.hW p _ hk;exact⟨o,e,ex⟩
    obtain⟨o,e,ex⟩:=z;refine⟨⟨o,e,ex.1⟩,fun a e2=>?_⟩;cases e2
    exact⟨o,e,ex.2.1⟩
  . obtain⟨o,_,_,_,e,ex,_⟩:=I.hW p _ hk;refine⟨⟨o,e,ex.1⟩,fun a e2=>?_⟩;cases e2
    exact⟨o,e,ex.2.1⟩
 | _=>exact False.elim ty
def XN (K:W.Frag)(T:String)(r:V->List V->Hp->VK->Prop)(to:TE):TE:=fun σ H Q=>to σ H fun x H1=>Pi K T x H1/\r x [] H1 Q
def Uv (K:W.Frag)(T:String)(r:V->List V->Hp->VK->Prop)(to:TE)(t:TA):TE:=fun σ H Q=>to σ H fun x H1=>Pi K T x H1/\t σ H1 fun xs H2=>r x xs H2 Q
variable {o:Expr}{to:TE}{t:TA}{ae af:Pos}{T id:String}{r:V->List V->Hp->VK->Prop}
theorem QO (pa:PlainAttrs T)(slot:Slot T name id)(hty:typeOf (.builtin id)=pure (.type "method_descriptor"))(hm:Fz X id r)(ho:PE X o to)
 (hbase:attributeBase o name X.env (eval o X.env)=eval o X.env:=by rfl)(hline:(ae.endLine == af.line)=true:=by rfl):PE X (.Call (.Attribute o name ae) [] [] af) (XN X.K T r to):=by
 intro aa s σ H Q I h;refine wpAny_Call_method0_late hbase hline (Av (ho aa s σ H _ I h) fun v s1 hz=>?_);obtain⟨x,H1,I1,r1,ty,q1⟩:=hz;obtain⟨h1,h2⟩:=SJ I1 r1 ty;exact⟨T,id,pa,slot,hty,h1,h2,O1 rfl (PySem.evalArgs_none (hm aa s1 σ H1 x [] v [] Q I1 r1 .nil q1))⟩
theorem Cv (pa:PlainAttrs T)(slot:Slot T name id)(hty:typeOf (.builtin id)=pure (.type "method_descriptor"))(hm:Fz X id r)(ho:PE X o to)(ha:PA X (e :: es) t)
 (hbase:attributeBase o name X.env (eval o X.env)=eval o X.env:=by rfl)
 (hfew:((backTo af (starEach (e :: es) X.env)).all (fun x=>!x.1) && (backToKw af (keywordEach [] X.env)).all (fun x=>x.1.isSome)
  && decide ((e :: es).length+([]:List Keyword).length+(if ([]:List Keyword).isEmpty then 0 else 1)<30))=true:=by rfl)
 (hline:(ae.endLine == af.line)=true:=by rfl)(hs:starEach (e :: es) X.env=(false,eval e X.env) :: starEach es X.env:=by rfl)(hplain:(backTo af (starEach es X.env)).any (·.1)=false:=by rfl) :
 PE X (.Call (.Attribute o name ae) (e :: es) [] af) (Uv X.K T r to t):=by
 intro aa s σ H Q I h;refine wpAny_Call_method_late hbase hfew hline rfl (Av (ho aa s σ H _ I h) fun v s1 hz=>?_);obtain⟨x,H1,I1,r1,ty,q1⟩:=hz;obtain⟨h1,h2⟩:=SJ I1 r1 ty;refine⟨T,id,pa,slot,hty,h1,h2,?_⟩;have hA:=ha af aa s1 σ H1 _ I1 q1;rw[hs] at hA ⊢;refine O1 (by show(false || (backTo af (starEach es X.env)).any (·.1))=false;rw[hplain] <;> rfl) (LK ?_);exact Av hA fun us s2=>Bl fun vs H2 I2 r2 q2=>hm aa s2 σ H2 x vs v us Q I2 r1 r2 q2
end
def eW (X:Cx)(id:String)(r:V->List V->Hp->VK->Prop):Prop:=
 ∀ (aa:List (Addr×Obj)) (s:Shared) (σ:St) (H:Hp) (x:V) (xs:List V) (v:Value) (us:List Value) (Q:VK),gv X aa σ H s->hG x v->hI xs us->r x xs H Q->
  wpAny (model X.prog X.w) X.A (call (.builtin id) (v :: us)) (EP X aa σ Q) X.xe s
theorem hI.one:∀ {x:V}{us:List Value},hI [x] us->∃ u,us=[u]/\hG x u
 | _,_,.cons r .nil=>⟨_,U,r⟩
theorem hI.zero:∀ {us:List Value},hI [] us->us=[]
 | _,.nil=>rfl
section
variable {X:Cx}{l:Addr}{xs ys zs:List V}
theorem gv.lset {f:Array Value->Array Value}(I:gv X aa σ H s)(hH:H l=some (.lst xs))
 (e:s.heap.get? l=some { cls:=.type "list",data:=.seq its.toArray n })(hf:f its.toArray=its'.toArray)(hv:hI ys its')(hz:ys.length<=sizeLine) :
 gv X aa σ (Ab H l (.lst ys)) { s with heap:=s.heap.update l (Obj.mapSeq f),toks:=t' }:=by
 have q:=PySem.IsL.update e f;rw[hf] at q;refine I.write (x:=l) (e:=l) (by rw[hH];exact trivial) (.inl rfl) (fun b' u hb hu=>(Uy s.heap (Obj.mapSeq f) (Ne.symm hb)).trans hu) ⟨_,q⟩ ?_;exact⟨hz,its',_,hv,q⟩
theorem gv.kE (I:gv X aa σ H s)(hv:hI ys its)(hz:ys.length<=sizeLine) :
 gv X aa σ (Ab H s.heap.objs.size (.lst ys)) { s with heap:=s.heap.push { cls:=.type "list",data:=.seq its.toArray },toks:=t' }:=
 I.laid (fun _ _ q=>Bb _ q) (Ay _) ⟨hz,its,0,hv,Cn _ rfl⟩
theorem gv.fresh (I:gv X aa σ H s):H s.heap.objs.size=none:=I.hW.fresh (Ay _)
theorem gv.kG (I:gv X aa σ H s)(hH:H l=some (.lst xs)):xs.length<=sizeLine/\∃ (its:List Value)(n:Nat),hI xs its/\xs.length=its.length/\s.heap.get? l=some { cls:=.type "list",data:=.seq its.toArray n }:=by
 obtain⟨z,its,n,r,e⟩:=I.hW l _ hH;exact⟨z,its,n,r,r.length,e⟩
end
section
variable {X:Cx}
def gL:V->List V->Hp->VK->Prop:=fun x vs H Q=>∃ l xs y,x = .ref l/\vs=[y]/\H l=some (.lst xs)/\xs.length<sizeLine/\Q .non (Ab H l (.lst (xs++[y])))
theorem DM:eW X "list.append" gL:=by
 intro aa s σ H x vs v us Q I rx rv h;obtain⟨l,xs,y,rfl,rfl,hH,hz,q⟩:=h;cases rx
 obtain⟨u,rfl,ru⟩:=rv.one;obtain⟨z,its,n,r,hl,e⟩:=I.kG hH;refine call_meets F.slot_list_append ⟨_,e,U⟩ F.entry_list_append (F.args_list_append_2 _ _) (PySem.list_append l its.toArray n u (by rw[BE];exact om)) ⟨e,?_⟩;refine⟨.non,_,I.lset (its':=its++[u]) hH e (by simp) (r.append (.cons ru .nil)) ?_,U,q⟩;rw[Cf,EU];exact om
def bO:R2:=fun x y H Q=>∃ l b xs zs,x = .ref l/\y = .ref b/\H l=some (.lst xs)/\H b=some (.lst zs)/\xs.length+zs.length<=sizeLine/\∀ p,H p=none->Q (.ref p) (Ab H p (.lst (xs++zs)))
theorem FZ:B6 X (binaryOp .Add) bO:=by
 intro aa s σ H x y v u Q I rx ry h;obtain⟨l,b,xs,zs,rfl,rfl,hH,hB,hz,q⟩:=h;cases rx
 cases ry
 obtain⟨z,its,n,r,hl,e⟩:=I.kG hH;obtain⟨z2,its2,n2,r2,hl2,e2⟩:=I.kG hB;refine PySem.P.add_list e e2 ?_ (by rw[BE,BE];exact om);have ea:its.toArray++its2.toArray=(its++its2).toArray:=by simp
 rw[ea];exact⟨.ref _,_,I.kE (t':=s.toks) (r.append r2) (by rw[Cf];exact om),U,q _ I.fresh⟩
end
section
variable {prog:Program}{w:World}
end
section
variable {X:Cx}
end
section
variable {κ:Type} [DecidableEq κ]
noncomputable def AX (kvs:List (κ×V)) (k:κ):Option V:=(kvs.find? fun kv=>decide (kv.1=k)).map (·.2)
noncomputable def BS (kvs:List (κ×V)) (k:κ) (v:V):List (κ×V):=
 if (kvs.any fun kv=>decide (kv.1=k))=true then kvs.map (fun kv=>if kv.1=k then(kv.1,v) else kv) else kvs++[(k,v)]
noncomputable def C4 (kvs:List (κ×V)) (k:κ):List (κ×V):=kvs.filter fun kv=>decide (kv.1≠k)
theorem ER {p:κ×V}{r:List (κ×V)}{k:κ}(e:p.1=k):AX (p :: r) k=some p.2:=by simp[AX,Jr,e]
theorem EW {p:κ×V}{r:List (κ×V)}{k:κ}(e:¬ p.1=k):AX (p :: r) k=AX r k:=by simp[AX,Jr,e]
theorem Kk (k:κ):∀ kvs:List (κ×V),(kvs.any fun kv=>decide (kv.1=k))=(AX kvs k).isSome
 | []=>rfl
 | p :: r=>by
  rw[QA];by_cases e:p.1=k
  . simp only[ER e,Be e,Bool.true_or,Option.isSome_some]
  . rw[EW e,Bj e,Bool.false_or];exact Kk k r
theorem Wc (k j:κ)(y:V):∀ kvs:List (κ×V),AX kvs k=none->AX (kvs++[(k,y)]) j=if j=k then some y else AX kvs j
 | [],_=>by
  by_cases e:k=j
  . rw[if_pos e.symm];exact ER (p:=(k,y)) e
  . rw[if_neg (fun z=>e z.symm)];exact EW (p:=(k,y)) e
 | p :: r,hn=>by
  rw[PV];have hk:¬ p.1=k:=fun z=>by rw[ER z] at hn;cases hn
  rw[EW hk] at hn;have ih:=Wc k j y r hn;by_cases e:p.1=j
  . rw[ER e,ER e,if_neg (fun z=>hk (e.trans z))]
  . rw[EW e,EW e,ih]
theorem JZ (kvs:List (κ×V))(k:κ)(v:V):(BS kvs k v).length<=kvs.length+1:=by
 unfold BS;split
 . rw[AS];exact om
 . rw[Cf,C5,List.length_nil];exact om
theorem Oz {kvs:List (κ×V)}{k:κ}(v:V)(h:AX kvs k=none):BS kvs k v=kvs++[(k,v)]:=by
 unfold BS;rw[Kk,h];exact if_neg (by decide)
theorem iP.iO {o:Option V}{u:Option Value}(r:iP o u):o.isSome=u.isSome:=by
 cases o with
 | none=>cases u with
  | none=>rfl
  | some _=>exact(show False from r).elim
 | some _=>cases u with
  | none=>exact(show False from r).elim
  | some _=>rfl
theorem iP.getD {o:Option V}{u:Option Value}{d:V}{d':Value}(r:iP o u)(rd:hG d d'):hG (o.getD d) (u.getD d'):=by
 cases o with
 | none=>cases u with
  | none=>exact rd
  | some _=>exact(show False from r).elim
 | some _=>cases u with
  | none=>exact(show False from r).elim
  | some _=>exact r
theorem KV.val {kvs:List (κ×V)}{vs:List (κ×Value)}(r:KV kvs vs)(k:κ):iP (AX kvs k) (valueAt vs k):=by
 unfold KV at r
 induction r with
 | nil=>exact True.intro
 | @cons p q ps qs h t ih=>
  obtain⟨h1,h2⟩:=h;by_cases e:p.1=k
  . have e':q.1=k:=h1.symm.trans e;have b:valueAt (q :: qs) k=some q.2:=by simp[valueAt,Jr,e']
    rw[ER e,b];exact h2
  . have e':¬ q.1=k:=fun z=>e (h1.trans z);have b:valueAt (q :: qs) k=valueAt qs k:=by simp[valueAt,Jr,e']
    rw[EW e,b];exact ih
theorem KV.any {kvs:List (κ×V)}{vs:List (κ×Value)}(r:KV kvs vs)(k:κ):(kvs.any fun kv=>decide (kv.1=k))=vs.any fun kv=>decide (kv.1=k):=by
 unfold KV at r
 induction r with
 | nil=>rfl
 | cons h t ih=>rw[QA,QA,ih,h.1]
theorem KV.kC {kvs:List (κ×V)}{vs:List (κ×Value)}(r:KV kvs vs)(k:κ){u:Value}(ry:hG y u) :
 KV (kvs.map fun kv=>if kv.1=k then(kv.1,y) else kv) (vs.map fun kv=>if kv.1=k then(kv.1,u) else kv):=by
 unfold KV at r ⊢
 induction r with
 | nil=>exact .nil
 | @cons p q ps qs h t ih=>
  rw[CJ,CJ];refine .cons ?_ ih;obtain⟨h1,h2⟩:=h;by_cases e:p.1=k
  . rw[if_pos e,if_pos (h1.symm.trans e)];exact⟨h1,ry⟩
  . rw[if_neg e,if_neg (fun z=>e (h1.trans z))];exact⟨h1,h2⟩
theorem KV.put {kvs:List (κ×V)}{vs:List (κ×Value)}(r:KV kvs vs)(k:κ){u:Value}(ry:hG y u):KV (BS kvs k y) (stored vs k u):=by
 unfold BS stored;rw[r.any k];by_cases e:(vs.any fun kv=>decide (kv.1=k))=true
 . rw[if_pos e,if_pos e];exact r.kC k ry
 . rw[if_neg e,if_neg e];exact Paired.snoc r ⟨U,ry⟩
theorem KV.drop {kvs:List (κ×V)}{vs:List (κ×Value)}(r:KV kvs vs)(k:κ):KV (C4 kvs k) (without vs k):=by
 unfold KV at r ⊢;unfold C4 without
 induction r with
 | nil=>exact .nil
 | @cons p q ps qs h t ih=>
  obtain⟨h1,h2⟩:=h;rw[O0,O0];by_cases e:p.1=k
  . have a:¬ decide (p.1≠k)=true:=by simp[e]
    have b:¬ decide (q.1≠k)=true:=by simp[h1.symm.trans e]
    rw[if_neg a,if_neg b];exact ih
  . have e':¬ q.1=k:=fun z=>e (h1.trans z);have a:decide (p.1≠k)=true:=by simp[e]
    have b:decide (q.1≠k)=true:=by simp[e']
    rw[if_pos a,if_pos b];exact .cons ⟨h1,h2⟩ ih
theorem KV.length {kvs:List (κ×V)}{vs:List (κ×Value)}(r:KV kvs vs):kvs.length=vs.length:=Paired.length r
theorem Oo (kvs:List (κ×V))(k:κ):(C4 kvs k).length<=kvs.length:=IS _ _
end
theorem Hb {P:Program}{w:World}{k:Al}{u:Value}(r:hG (kV k) u):(C7 P w).is k u=true:=by
 cases k with
 | inl i=>obtain⟨t,e⟩:=(show ∃ t,u=Value.int i t from r);subst e;exact gR P w i t
 | inr x=>obtain⟨t,e⟩:=(show ∃ t,u=Value.str x t from r);subst e;exact WY P w x t
theorem UE {a b:Al}(e:kV a=kV b):a=b:=by
 cases a with
 | inl i=>cases b with
  | inl j=>have e':V.int i=V.int j:=e;injection e' with e';rw[e']
  | inr y=>exact nomatch (show V.int i=V.str y from e)
 | inr x=>cases b with
  | inl j=>exact nomatch (show V.str x=V.int j from e)
  | inr y=>have e':V.str x=V.str y:=e;injection e' with e';rw[e']
theorem Sq {P:Program}{w:World}:∀ {ks:List Al}{us:List Value},hI (ks.map kV) us->ItemsAre (C7 P w) ks us
 | [],_,r=>by rw[FB] at r;cases r;exact .nil
 | k :: ks,_,r=>by
  rw[CJ] at r;cases r with
  | cons h t=>exact .cons (Hb h) (Sq t)
abbrev KT (H:Hp):List (List Al×V)->List (List Al×Addr×Value)->Prop:=Paired fun p q=>p.1=q.1/\H q.2.1=some (.tup (p.1.map kV))/\hG p.2 q.2.2
theorem KT.val {kvs:List (List Al×V)}{xs:List (List Al×Addr×Value)}(r:KT H kvs xs)(k:List Al):iP (AX kvs k) ((atKey xs k).map (·.2)):=by
 induction r with
 | nil=>exact True.intro
 | @cons p q ps qs h t ih=>
  obtain⟨h1,_,h2⟩:=h;by_cases e:p.1=k
  . have e':q.1=k:=h1.symm.trans e;have b:atKey (q :: qs) k=some q.2:=by simp[atKey,Jr,e']
    rw[ER e,b];exact h2
  . have e':¬ q.1=k:=fun z=>e (h1.trans z);have b:atKey (q :: qs) k=atKey qs k:=by simp[atKey,Jr,e']
    rw[EW e,b];exact ih
theorem KT.kC {kvs:List (List Al×V)}{xs:List (List Al×Addr×Value)}(r:KT H kvs xs)(k:List Al){u:Value}(ry:hG y u) :
 KT H (kvs.map fun kv=>if kv.1=k then(kv.1,y) else kv) (xs.map (putAt k u)):=by
 induction r with
 | nil=>exact .nil
 | @cons p q ps qs h t ih=>
  rw[CJ,CJ];refine .cons ?_ ih;obtain⟨h1,h2,h3⟩:=h;unfold putAt;by_cases e:p.1=k
  . rw[if_pos e,if_pos (h1.symm.trans e)];exact⟨h1,h2,ry⟩
  . rw[if_neg e,if_neg (fun z=>e (h1.trans z))];exact⟨h1,h2,h3⟩
theorem KT.put {kvs:List (List Al×V)}{xs:List (List Al×Addr×Value)}(r:KT H kvs xs)(k:List Al){u:Value}(hb:H b=some (.tup (k.map kV)))(ry:hG y u) :
 KT H (BS kvs k y) (storedH xs k b u):=by
 have e:(kvs.any fun kv=>decide (kv.1=k))=(atKey xs k).isSome:=by
  rw[Kk,(r.val k).iO,Pn]
 unfold BS storedH;rw[e];by_cases q:(atKey xs k).isSome=true
 . rw[if_pos q,if_pos q];exact r.kC k ry
 . rw[if_neg q,if_neg q];exact Paired.snoc r ⟨U,hb,ry⟩
theorem KT.keeps {kvs:List (List Al×V)}{xs:List (List Al×Addr×Value)}(r:KT H kvs xs)(ht:∀ b ys,H b=some (.tup ys)->H' b=some (.tup ys)):KT H' kvs xs:=
 Paired.kJ r fun _ _ z=>⟨z.1,ht _ _ z.2.1,z.2.2⟩
section
variable {P:Program}{w:World}
theorem VJ {u:HO}(ok:iQ P w H h)(e:Rd H a u):im P w H h a u:=e.ok ok
theorem GR (ok:iQ P w H h)(e:Rd H a (.dK kvs)):kvs.length<=sizeLine/\(a == sysModules)=false/\∃ vs,KV kvs vs/\h.DictOf (C7 P w) a vs:=
 show im P w H h a (.dK kvs) from VJ ok e
theorem KZ (ok:iQ P w H h)(e:H a=some (.dK kvs)):kvs.length<=sizeLine/\(a == sysModules)=false/\∃ vs,KV kvs vs/\h.DictOf (C7 P w) a vs:=GR ok (.inl e)
theorem IF {ks:List Al}(ok:iQ P w H h)(e:H a=some (.tup (ks.map kV))):(tupleKind (C7 P w)).is h ks a:=by
 obtain⟨_,its,r,o,h1,h2,n,h3⟩:=(show im P w H h a (.tup (ks.map kV)) from ok a _ e)
 exact⟨o,its.toArray,n,h1,h2,h3,by simpa using Sq r⟩
theorem HK {kvs:List (List Al×V)}(ok:iQ P w H h)(e:Rd H a (.dT kvs)):kvs.length<=sizeLine/\(a == sysModules)=false/\
 ∃ xs,KT H kvs xs/\h.DictOfH (tupleKind (C7 P w)) a xs:=by
 obtain⟨z,y,xs,r,o,es,ep,h1,h2,h3,h4,h5⟩:=(show im P w H h a (.dT kvs) from VJ ok e)
 refine⟨z,y,xs,r,o,es,ep,h1,h2,h3,h4,fun x hx=>?_,h5⟩;have all:∀ {l:List (List Al×V)}{m:List (List Al×Addr×Value)},KT H l m->∀ x∈m,(tupleKind (C7 P w)).is h x.1 x.2.1:=by
  intro l m q
  induction q with
  | nil=>intro x hx;exact nomatch hx
  | @cons p q ps qs hq t ih=>
   intro x hx;rcases List.mem_cons.mp hx with e | hx
   . subst e;exact IF ok (by rw[<- hq.1];exact hq.2.1)
   . exact ih x hx
 exact all r x hx
theorem gY {kvs:List (List Al×V)}(ok:iQ P w H h)(e:H a=some (.dT kvs)):kvs.length<=sizeLine/\(a == sysModules)=false/\
 ∃ xs,KT H kvs xs/\h.DictOfH (tupleKind (C7 P w)) a xs:=HK ok (.inl e)
end
def iN (H:Hp)(a:Addr)(y:V)(r:Option V):Prop:=
 (∃ kvs k,Rd H a (.dK kvs)/\y=kV k/\r=AX kvs k)\/∃ kvs k b,Rd H a (.dT kvs)/\y = .ref b/\H b=some (.tup (k.map kV))/\r=AX kvs k
def jG (H:Hp)(a:Addr)(y v:V)(H':Hp):Prop:=
 (∃ kvs k,H a=some (.dK kvs)/\y=kV k/\kvs.length<sizeLine/\H'=Ab H a (.dK (BS kvs k v)))\/
 ∃ kvs k b,H a=some (.dT kvs)/\y = .ref b/\H b=some (.tup (k.map kV))/\kvs.length<sizeLine/\H'=Ab H a (.dT (BS kvs k v))
theorem iN.k {k:Al}(e:H a=some (.dK kvs)):iN H a (kV k) (AX kvs k):=.inl ⟨kvs,k,.inl e,U,U⟩
theorem iN.t {kvs:List (List Al×V)}{k:List Al}(e:H a=some (.dT kvs))(eb:H b=some (.tup (k.map kV))):iN H a (.ref b) (AX kvs k):=.inr ⟨kvs,k,b,.inl e,U,eb,U⟩
theorem jG.k {k:Al}(e:H a=some (.dK kvs))(hl:kvs.length<sizeLine):jG H a (kV k) v (Ab H a (.dK (BS kvs k v))):=.inl ⟨kvs,k,e,U,hl,U⟩
theorem jG.t {kvs:List (List Al×V)}{k:List Al}(e:H a=some (.dT kvs))(eb:H b=some (.tup (k.map kV)))(hl:kvs.length<sizeLine) :
 jG H a (.ref b) v (Ab H a (.dT (BS kvs k v))):=.inr ⟨kvs,k,b,e,U,eb,hl,U⟩
section
variable {X:Cx}{u r:Value}{o:Option V}
theorem gv.big (I:gv X aa σ H s):sysModules<s.heap.objs.size:=by
 have h:mainGlobals<s.heap.objs.size:=(I.mod.glob.keeps I.bk).lt;exact Nat.lt_trans (by decide) h
theorem XZ (hu:A.units+1<cLine)(I:gv X aa σ H s)(g:iN H a y (some v))(ry:hG y u)(h:∀ w' s',gv X aa σ H s'->hG v w'->Q w' s') :
 wpAny (model X.prog X.w) A (getItem (.ref a) u) Q E s:=by
 rcases g with⟨kvs,k,e,ey,l⟩ | ⟨kvs,k,b,e,ey,eb,l⟩
 . subst ey;obtain⟨z,hd,vs,rel,dd⟩:=GR I.hW e;obtain⟨w',hw,rw'⟩:=iP.some_of (v:=v) (o:=valueAt vs k) (by rw[l];exact rel.val k);exact wpAny_getItem_of (Hb ry) dd.mapOf hw (h w' _ (I.tok _) rw')
 . subst ey;cases(show u=Value.ref b from ry)
   obtain⟨z,hd,xs,rel,dd⟩:=HK I.hW e;obtain⟨w',hw,rw'⟩:=iP.some_of (v:=v) (o:=(atKey xs k).map (·.2)) (by rw[l];exact rel.val k);obtain⟨p,hp,hp2⟩:=Option.map_eq_some_iff.mp hw;refine wpAny_getItem_heap (tupleKind_room_in1 hu) (IF I.hW eb) dd hp ?_;rw[hp2];exact h w' _ (I.tok _) rw'
theorem aF (hu:A.units+1<cLine)(I:gv X aa σ H s)(g:iN H a y o)(ry:hG y u)(h:∀ s',gv X aa σ H s'->Q (.bool o.isSome) s') :
 wpAny (model X.prog X.w) A (compareOp .In u (.ref a)) Q E s:=by
 rcases g with⟨kvs,k,e,ey,l⟩ | ⟨kvs,k,b,e,ey,eb,l⟩
 . subst ey;obtain⟨z,hd,vs,rel,dd⟩:=GR I.hW e;refine wpAny_in_of (Hb ry) hd dd.mapOf ?_;rw[<- (rel.val k).iO,<- l];exact h _ (I.tok _)
 . subst ey;cases(show u=Value.ref b from ry)
   obtain⟨z,hd,xs,rel,dd⟩:=HK I.hW e;refine wpAny_in_heap (tupleKind_room_in1 hu) (IF I.hW eb) hd dd ?_;have q:=(rel.val k).iO;rw[Pn] at q;rw[<- q,<- l];exact h _ (I.tok _)
theorem YR (hu:A.units+1<cLine)(I:gv X aa σ H s)(g:iN H a y o)(ry:hG y u)(h:∀ s',gv X aa σ H s'->Q (.bool (!o.isSome)) s') :
 wpAny (model X.prog X.w) A (compareOp .NotIn u (.ref a)) Q E s:=by
 rcases g with⟨kvs,k,e,ey,l⟩ | ⟨kvs,k,b,e,ey,eb,l⟩
 . subst ey;obtain⟨z,hd,vs,rel,dd⟩:=GR I.hW e;refine wpAny_notIn_of (Hb ry) hd dd.mapOf ?_;rw[<- (rel.val k).iO,<- l];exact h _ (I.tok _)
 . subst ey;cases(show u=Value.ref b from ry)
   obtain⟨z,hd,xs,rel,dd⟩:=HK I.hW e;refine wpAny_notIn_heap (tupleKind_room_in1 hu) (IF I.hW eb) hd dd ?_;have q:=(rel.val k).iO;rw[Pn] at q;rw[<- q,<- l];exact h _ (I.tok _)
theorem QT {ob:HO}(I:gv X aa σ H s)(mu:KM (H a))(hs:Heap.SameBut a s.heap h')(he:∃ q,h'.get? a=some q)(new:im X.prog X.w (Ab H a ob) h' a ob) :
 gv X aa σ (Ab H a ob) { s with heap:=h',toks:=t' }:=
 I.write (x:=a) (e:=a) mu (.inl rfl) (fun b q hb z=>(hs.2 b hb).trans z) he new
theorem QL {P:Program}{w:World}{vs:List (Al×Value)}(z:kvs.length<=sizeLine)(hd:(a == sysModules)=false)(rel:KV kvs vs)(dd:h'.DictOf (C7 P w) a vs) :
 im P w H' h' a (.dK kvs):=⟨z,hd,vs,rel,dd⟩
theorem eg {Q:Unit->Shared->Prop}(hu:A.units+1<cLine)(I:gv X aa σ H s)(g:jG H a y v H')(ry:hG y u)(rv:hG v r)(h:∀ s',gv X aa σ H' s'->Q () s') :
 wpAny (model X.prog X.w) A (setItem (.ref a) u r) Q E s:=by
 rcases g with⟨kvs,k,e,ey,l,eH⟩ | ⟨kvs,k,b,e,ey,eb,l,eH⟩
 . subst ey eH;obtain⟨z,hd,vs,rel,dd⟩:=KZ I.hW e;have hz:vs.length<=sizeLine:=by rw[<- rel.length];exact z
   have hl:(BS kvs k v).length<=sizeLine:=by have:=JZ kvs k v;exact om
   refine wpAny_setItem_pairs (hsz:=hz) (Hb ry) dd fun h' dd' hs=>h _ ?_;have he:∃ q,h'.get? a=some q:=let ⟨q,_,_,hq,_⟩:=dd';⟨q,hq⟩
   exact QT I (by rw[e];exact True.intro) hs he (QL hl hd (rel.put k rv) dd')
 . subst ey eH;cases(show u=Value.ref b from ry)
   obtain⟨z,hd,xs,rel,dd⟩:=gY I.hW e;have hz:xs.length<=sizeLine:=by rw[<- Paired.length rel];exact z
   have hl:(BS kvs k v).length<=sizeLine:=by have:=JZ kvs k v;exact om
   refine wpAny_setItem_heap (hsz:=hz) (tupleKind_room_in1 hu) (IF I.hW eb) dd fun h' dd' hs=>h _ ?_;obtain⟨q,es,ep,hq,h2,h3,h4,_,h5⟩:=dd';refine QT I (by rw[e];exact True.intro) hs ⟨q,hq⟩ ⟨hl,hd,_,(rel.put k eb rv).keeps fun c ys ec=>?_,q,es,ep,hq,h2,h3,h4,h5⟩;rw[Af (XS ec e (fun z=>nomatch z))];exact ec
end
section
variable {X:Cx}{k:Al}{u:Value}
theorem av {more:List Value}(I:gv X aa σ H s)(e:H a=some (.dK kvs))(ry:hG (kV k) u)(l:AX kvs k=some v)(hm:more=[]\/∃ x,more=[x])
 (h:∀ w' s',gv X aa σ (Ab H a (.dK (C4 kvs k))) s'->hG v w'->Q w' s'):wpAny (model X.prog X.w) A (call (.builtin "dict.pop") (.ref a :: u :: more)) Q E s:=by
 obtain⟨z,hd,vs,rel,dd⟩:=KZ I.hW e;obtain⟨w',hw,rw'⟩:=iP.some_of (v:=v) (o:=valueAt vs k) (by rw[<- l];exact rel.val k);have hp:(keyPart u).isSome=true:=by
  cases k with
  | inl i=>obtain⟨t,q⟩:=(show ∃ t,u=Value.int i t from ry);subst q;rfl
  | inr x=>obtain⟨t,q⟩:=(show ∃ t,u=Value.str x t from ry);subst q;rfl
 have ha:argsOk "dict.pop" ⟨.ref a :: u :: more,[]⟩:=by
  rcases hm with q | ⟨x,q⟩
  . subst q;exact PySem.F.args_dict_pop_2 _ _
  . subst q;exact PySem.F.args_dict_pop_3 _ _ _
 refine call_meetsIn PySem.F.slot_dict_pop dd.typeIs PySem.F.entry_dict_pop ha (meets_dict_pop_there (C7 X.prog X.w) a (Hb ry) more hm hp)
  ⟨vs,w',dd,by rw[<- rel.length];exact z,hw,fun h' dd' hs=>h w' _ ?_ rw'⟩
 have he:∃ q,h'.get? a=some q:=let ⟨q,_,_,hq,_⟩:=dd';⟨q,hq⟩
 exact QT I (by rw[e];exact True.intro) hs he (QL (Bu (Oo kvs k) z) hd (rel.drop k) dd')
end
def RE (i:Expr):Prop:=∀ ov iv,subscripted i false ov iv=operate [ov,iv] (getItem ov iv)
theorem di {prog:Program}{w:World}{env:Env}{value slice:Expr}{T id:String}
 (hl:typeLookup (.type T) "__getitem__" = pure (some (.builtin id)))(hs:RE slice)
 (h:wpAny (model prog w) A (eval value env) (fun o s₁=>wpAny (model prog w) A (eval slice env) (fun i s₂=>s₂.TypeIs o T/\wpAny (model prog w) A (getItem o i) Q E s₂) E s₁) E s) :
 wpAny (model prog w) A (eval (.Subscript value slice pos) env) Q E s:=by
 refine Subscript_ (C6 h (fun o s₁ h₁=>C6 h₁ (fun i s₂ h₂=>?_) fun _ _ x=>x) fun _ _ x=>x);obtain⟨hT,h₂⟩:=h₂;unfold subscriptTail;refine Am ?_;rw[getitemInPython_of_ne hT.not_modules];refine Am (wpAny_specialOf hT hl ?_);have fin:wpAny (model prog w) A (subscripted slice false o i) (fun r s₃=>wpAny (model prog w) A (letTemporaryGo value o r >>= fun _=>pure r) Q E s₃) E s₂:=by
  rw[hs o i];exact wpAny_operating (C6 h₂ (fun r s₃ h₃=>Am (wpAny_letTemporaryGo (AY h₃))) fun _ _ x=>x)
 first
  | exact AY (Am fin)
  | exact Am (AY (Am fin))
  | exact Am fin
theorem Yn {X:Cx}{o:Option V}(I:gv X aa σ H s)(g:iN H a y o):s.TypeIs (.ref a) "dict":=by
 rcases g with⟨kvs,k,e,_,_⟩ | ⟨kvs,k,b,e,_,_,_⟩
 . obtain⟨_,_,vs,_,dd⟩:=GR I.hW e;exact dd.typeIs
 . obtain⟨_,_,xs,_,dd⟩:=HK I.hW e;exact dd.typeIs
def ai (td ty:TE):TE:=fun σ H Q=>td σ H fun x H1=>ty σ H1 fun y H2=>∃ a v,x = .ref a/\iN H2 a y (some v)/\Q v H2
def Z9 (ty td:TE):TE:=fun σ H Q=>ty σ H fun y H1=>td σ H1 fun x H2=>∃ a o,x = .ref a/\iN H2 a y o/\Q (.bl o.isSome) H2
def Y4 (ty td:TE):TE:=fun σ H Q=>ty σ H fun y H1=>td σ H1 fun x H2=>∃ a o,x = .ref a/\iN H2 a y o/\Q (.bl (!o.isSome)) H2
def Zo (td ty tv:TE):TS:=fun D σ H=>tv σ H fun v H1=>td σ H1 fun x H2=>ty σ H2 fun y H3=>∃ a H4,x = .ref a/\jG H3 a y v H4/\D.nx σ H4
section
variable {X:Cx}{o i value:Expr}{tpos:Pos}{td ty tv:TE}
theorem Rx (hu:X.A.units+1<cLine)(ho:PE X o td)(hi:PE X i ty)(hs:RE i):PE X (.Subscript o i pos) (ai td ty):=by
 intro aa s σ H Q I h;refine di PySem.F.slot_dict_getitem.lookup hs (Av (ho aa s σ H _ I h) fun u s1=>Bl fun x H1 I1 rx q1=>Av (hi aa s1 σ H1 _ I1 q1) fun iv s2 hz=>?_);obtain⟨y,H2,I2,ry,a,v,ex,g,q2⟩:=hz;subst ex;obtain rfl:u=Value.ref a:=rx;exact⟨Yn I2 g,XZ hu I2 g ry fun w' s3 I3 rw'=>⟨v,H2,I3,rw',q2⟩⟩
theorem fW (hu:X.A.units+1<cLine)(hi:PE X i ty)(ho:PE X o td):PC X .In i o (Z9 ty td):=by
 intro aa s σ H Q I h;refine Av (hi aa s σ H _ I h) fun iv s1=>Bl fun y H1 I1 ry q1=>Av (ho aa s1 σ H1 _ I1 q1) fun u s2 hz=>?_;obtain⟨x,H2,I2,rx,a,ov,ex,g,q2⟩:=hz;subst ex;obtain rfl:u=Value.ref a:=rx;exact aF hu I2 g ry fun s3 I3=>⟨.bl ov.isSome,H2,I3,U,q2⟩
theorem Sd (hu:X.A.units+1<cLine)(hi:PE X i ty)(ho:PE X o td):PC X .NotIn i o (Y4 ty td):=by
 intro aa s σ H Q I h;refine Av (hi aa s σ H _ I h) fun iv s1=>Bl fun y H1 I1 ry q1=>Av (ho aa s1 σ H1 _ I1 q1) fun u s2 hz=>?_;obtain⟨x,H2,I2,rx,a,ov,ex,g,q2⟩:=hz;subst ex;obtain rfl:u=Value.ref a:=rx;exact YR hu I2 g ry fun s3 I3=>⟨.bl (!ov.isSome),H2,I3,U,q2⟩
theorem QR (hu:X.A.units+1<cLine)(ho:PE X o td)(hi:PE X i ty)(hv:PE X value tv)(hs:swapsWith value (some (.Subscript o i pos')) pos.line X.env=pure false) :
 PS X (.Assign [.Subscript o i pos'] value pos) (Zo td ty tv):=by
 intro aa s σ H D I h;refine wpAny_Assign_Subscript (Av (hv aa s σ H _ I h) fun r s1=>Bl fun v H1 I1 rv q1=>Av (ho aa s1 σ H1 _ I1 q1) fun u s2=>Bl fun x H2 I2 rx q2=>Av (hi aa s2 σ H2 _ I2 q2) fun iv s3 hz=>?_) hs;obtain⟨y,H3,I3,ry,a,H4,ex,g,q3⟩:=hz;subst ex;obtain rfl:u=Value.ref a:=rx;exact eg hu I3 g ry rv fun s4 I4=>⟨σ,H4,I4,q3⟩
end
theorem ZT {P:Program}{w:World}(h:Heap)(hb:sysModules<h.objs.size):im P w H (h.push { cls:=.type "dict",data:=.dict #[] }) h.objs.size (.dK []):=
 ⟨Es _,beq_eq_false_iff_ne.mpr (Ne.symm (BC hb)),[],.nil,Heap.DictOf.new h⟩
theorem fF {P:Program}{w:World}(h:Heap)(hb:sysModules<h.objs.size):im P w H (h.push { cls:=.type "dict",data:=.dict #[] }) h.objs.size (.dT []):=
 ⟨Es _,beq_eq_false_iff_ne.mpr (Ne.symm (BC hb)),[],.nil,_,#[],0,Cn _ rfl,⟨U,U,U⟩,U,U,Q7⟩
def Ye:TE:=fun _ H Q=>∀ p,H p=none->Q (.ref p) (Ab H p (.dK []))
def Xa:TE:=fun _ H Q=>∀ p,H p=none->Q (.ref p) (Ab H p (.dT []))
section
variable {X:Cx}
theorem NH:PE X (.Dict [] [] pos) Ye:=fun aa s σ H Q I h=>
 wpAny_Dict_empty ⟨.ref s.heap.objs.size,_,I.laid (a:=s.heap.objs.size) (o:=.dK []) (t':=s.toks) (fun _ _ q=>Bb _ q) (Ay _) (ZT s.heap I.big),U,h _ (I.hW.fresh (Ay _))⟩
theorem Yo:PE X (.Dict [] [] pos) Xa:=fun aa s σ H Q I h=>
 wpAny_Dict_empty ⟨.ref s.heap.objs.size,_,I.laid (a:=s.heap.objs.size) (o:=.dT []) (t':=s.toks) (fun _ _ q=>Bb _ q) (Ay _) (fF s.heap I.big),U,h _ (I.hW.fresh (Ay _))⟩
end
structure M1 (X:Cx)(o:Expr)(m:Str)(ae:Pos)(e:Expr)(af:Pos):Prop where
 base:attributeBase o m X.env (eval o X.env)=eval o X.env
 few:((backTo af (starEach [e] X.env)).all (fun x=>!x.1) && (backToKw af (keywordEach [] X.env)).all (fun x=>x.1.isSome)
  && decide (([e]:List Expr).length+([]:List Keyword).length+(if ([]:List Keyword).isEmpty then 0 else 1)<30))=true
 line:(ae.endLine == af.line)=true
 trees:backTo af (starEach [e] X.env)=[(false,eval e X.env)]
structure M2 (X:Cx)(o:Expr)(m:Str)(ae:Pos)(e f:Expr)(af:Pos):Prop where
 base:attributeBase o m X.env (eval o X.env)=eval o X.env
 few:((backTo af (starEach [e,f] X.env)).all (fun x=>!x.1) && (backToKw af (keywordEach [] X.env)).all (fun x=>x.1.isSome)
  && decide (([e,f]:List Expr).length+([]:List Keyword).length+(if ([]:List Keyword).isEmpty then 0 else 1)<30))=true
 line:(ae.endLine == af.line)=true
 trees:backTo af (starEach [e,f] X.env)=[(false,eval e X.env),(false,eval f X.env)]
def Qo (H:Hp)(a:Addr):Prop:=(∃ kvs,Rd H a (.dK kvs))\/∃ kvs,Rd H a (.dT kvs)
theorem Tj {X:Cx}(I:gv X aa σ H s)(d:Qo H a) :
 s.TypeIs (.ref a) "dict"/\(∀ b,Value.ref a = .ref b->∃ ob,s.heap.get? b=some ob/\ob.dict=none)/\(a == sysModules)=false:=by
 rcases d with⟨kvs,e⟩ | ⟨kvs,e⟩
 . obtain⟨_,hd,vs,_,dd⟩:=GR I.hW e;refine⟨dd.typeIs,fun b q=>?_,hd⟩;cases q
   obtain⟨ob,_,_,h1,h2,_⟩:=dd;exact⟨ob,h1,h2.2.1⟩
 . obtain⟨_,hd,xs,_,dd⟩:=HK I.hW e;refine⟨dd.typeIs,fun b q=>?_,hd⟩;cases q
   obtain⟨ob,_,_,h1,h2,_⟩:=dd;exact⟨ob,h1,h2.2.1⟩
section
variable {X:Cx}{d:V}{u r:Value}{o:Option V}
theorem fN (hu:A.units+1<cLine)(I:gv X aa σ H s)(g:iN H a y o)(ry:hG y u)(h:∀ w' s',gv X aa σ H s'->hG (o.getD .non) w'->Q w' s') :
 wpAny (model X.prog X.w) A (call (.builtin "dict.get") [.ref a,u]) Q E s:=by
 rcases g with⟨kvs,k,e,ey,l⟩ | ⟨kvs,k,b,e,ey,eb,l⟩
 . subst ey;obtain⟨z,hd,vs,rel,dd⟩:=GR I.hW e;refine call_meetsIn Qs dd.typeIs Uf (R3 _ _) (meets_dict_get (C7 X.prog X.w) a (Hb ry) hd) ⟨_,dd.mapOf,h _ _ (I.tok _) ?_⟩;rw[l];exact(rel.val k).getD rfl
 . subst ey;cases(show u=Value.ref b from ry)
   obtain⟨z,hd,xs,rel,dd⟩:=HK I.hW e;refine call_meetsIn Qs dd.typeIs Uf (R3 _ _) (meetsH_dict_get (tupleKind (C7 X.prog X.w)) a b hd) ⟨tupleKind_room_in1 hu,k,xs,IF I.hW eb,dd,h _ _ (I.tok _) ?_⟩;rw[l];exact(rel.val k).getD rfl
end
def bB (td ty:TE):TE:=fun σ H Q=>td σ H fun x H1=>∃ a,x = .ref a/\Qo H1 a/\ty σ H1 fun y H2=>∃ o,iN H2 a y o/\Q (o.getD .non) H2
def dh (td ty:TE):TE:=fun σ H Q=>td σ H fun x H1=>∃ a,x = .ref a/\Qo H1 a/\ty σ H1 fun y H2=>∃ kvs k v,H2 a=some (.dK kvs)/\y=kV k/\AX kvs k=some v/\Q v (Ab H2 a (.dK (C4 kvs k)))
section
variable {X:Cx}{o f:Expr}{ae af:Pos}{td ty tx:TE}
theorem ZN (hu:X.A.units+1<cLine)(ho:PE X o td)(he:PE X e ty)(m:M1 X o "get" ae e af):PE X (.Call (.Attribute o "get" ae) [e] [] af) (bB td ty):=by
 intro aa s σ H Q I h;refine wpAny_Call_method m.base m.few m.line Pe Qs PySem.F.type_dict_get (Av (ho aa s σ H _ I h) fun u s1 hz=>?_);obtain⟨x,H1,I1,rx,a,ex,d,q1⟩:=hz;subst ex;obtain rfl:u=Value.ref a:=rx;obtain⟨t1,t2,_⟩:=Tj I1 d;refine⟨t1,t2,?_⟩;rw[m.trees];refine O1 rfl (LK (Nm (Av (he aa s1 σ H1 _ I1 q1) fun iv s2 ⟨y,H2,I2,ry,ov,g,q2⟩=>PX ?_)));exact fN hu I2 g ry fun w' s3 I3 rw'=>⟨_,H2,I3,rw',q2⟩
theorem Si (ho:PE X o td)(he:PE X e ty)(m:M1 X o "pop" ae e af):PE X (.Call (.Attribute o "pop" ae) [e] [] af) (dh td ty):=by
 intro aa s σ H Q I h;refine wpAny_Call_method m.base m.few m.line Pe PySem.F.slot_dict_pop PySem.F.type_dict_pop (Av (ho aa s σ H _ I h) fun u s1 hz=>?_);obtain⟨x,H1,I1,rx,a,ex,d,q1⟩:=hz;subst ex;obtain rfl:u=Value.ref a:=rx;obtain⟨t1,t2,_⟩:=Tj I1 d;refine⟨t1,t2,?_⟩;rw[m.trees];refine O1 rfl (LK (Nm (Av (he aa s1 σ H1 _ I1 q1) fun iv s2 ⟨y,H2,I2,ry,kvs,k,v,ea,ey,l,q2⟩=>PX ?_)));subst ey;exact av I2 ea ry l (.inl rfl) fun w' s3 I3 rw'=>⟨v,_,I3,rw',q2⟩
end
section
variable {X:Cx}
theorem Xg (I:gv X aa σ H s)(e:Rd H a (.dK kvs))(h:∀ p s',H p=none->gv X aa σ (Ab H p (.dK kvs)) s'->Q (.ref p) s'):wpAny (model X.prog X.w) A (call (.type "dict") [.ref a]) Q E s:=by
 obtain⟨z,hd,vs,rel,dd⟩:=GR I.hW e;refine kt_call_dict hd dd (by rw[<- rel.length];exact z) fun h' dd' hs=>?_;refine h _ _ (I.hW.fresh (Ay _)) (I.laid (a:=s.heap.objs.size) (o:=.dK kvs) (t':=s.toks) (fun b q hq=>?_) (Ay _) (QL z (beq_eq_false_iff_ne.mpr (Ne.symm (BC I.big))) rel dd'));exact(hs.2 b (BC (Bg hq))).trans (Bb _ hq)
end
section
variable {X:Cx}{u:Value}
end
theorem SX:∀ {vs:List Value}{ns:List Int},IntsAre vs ns->hI (ns.map V.int) vs
 | _,_,.nil=>.nil
 | _,_,.cons n t h=>.cons ⟨t,U⟩ (SX h)
noncomputable abbrev Ap {K:W.Frag}{h:Heap}(_:K.In h):W.Frag:=K
variable {ep i j kk n t':Nat}{Pt T a b c0 dx f fa i1 i2 it l1 l2 z:Addr}{its its' us:List Value}{H H' H1 H2:Hp}{o:HO}{h h':Heap}{ob:Obj}{as ch fp:List Addr}{name qual x:Str}{c e elt iter tg:Expr}{N:List Str}{A:Around}{E Q:gk}{v y:V}{s s':Shared}{np p2 pos pos' px tp:Pos}{aa:List (Addr×Obj)}{σ:St}{D:DE}{st:Stmt}{tc tt:TT}{es ifs:List Expr}{ta te tl:TE}{g:TG}{body:List Stmt}{tb:TS}{vs ws:List V}{l:List (List Al×V)}{lo:Int}{p:Array Nat}{R:Addr->Hp->Prop}{mA:gj}{kw:List (Str×Value)}{fd:FuncData}{sp:Sp}{outer:List Env}{sc scope:Scope}{cd ad dV doc oc oc2 pm:Value}{an od od2:Option Addr}{osl osl2 sl:Array (Option Value)}{kvs:List (Al×V)}{ks:List Int}{B:Prop}{js:List Nat}{cl:List (Str×Addr)}{S:Sl}{ts:List Tm}{key:Nat->Int}{ac:List Rw}{lf:iG}
noncomputable def BN (s:Stmt) (j:Nat):Stmt:=match s with
 | .ClassDef _ _ _ body _ _ _ _ _ _ _=>body.getD j (.Pass ⟨0,0,0,0⟩)
 | _=>.Pass ⟨0,0,0,0⟩
noncomputable def CU (s:Stmt):Arguments:=match s with
 | .FunctionDef _ a _ _ _ _ _ _ _ _=>a
 | _=>{ posonlyargs:=[],args:=[],vararg:=none,kwonlyargs:=[],kw_defaults:=[],kwarg:=none,defaults:=[] }
noncomputable def By (s:Stmt):List Stmt:=match s with
 | .FunctionDef _ _ b _ _ _ _ _ _ _=>b
 | _=>[]
noncomputable def Ah (s:Stmt):Scope:=match s with
 | .FunctionDef _ _ _ _ _ _ sc _ _ _=>sc
 | _=>{ kind:=.function,names:=[],isGenerator:=false,isCoroutine:=false }
abbrev Bh:Dw:=fun _ _ _ _ _ _=>False
abbrev E0:XK:=fun _ _ _=>False
theorem BD {X:Cx}:ED Bh X E0:=fun _ _ _ _ _ _ _ h=>h.elim
structure kz (K:W.Frag)(x qual:Str)(st:Stmt)(f:Addr)(fd:FuncData):Prop where
 ex:∃ (oc:Value) (od:Option Addr) (kV doc pm:Value) (an:Option Addr) (ad ct:Value) (osl:Array (Option Value)),
  fd=W.fnOf x qual (CU st) (By st) (Ah st) .none kV doc pm an ad ct/\K.lookup f=some ⟨oc,od,.func fd,osl⟩/\PySem.W.codeIn K ad qual=true
 kp:W.keepIn K (.ref f)=true
theorem kz.ok {ps:List Str}{k:Nat}(F:kz K x qual st f fd)(S:AA N ps (Ah st))(len:∀ vs H Q E,sp vs H Q E->vs.length=ps.length)
 (ag:∀ (ad:Value)(A:Around)(outer:List Env)(s:Shared)(H:Hp)(vs:List V)(Q:VK)(E:XK),ic k (A.deeper (envOfC qual (Ah st) s.heap.objs.size f ad))->sp vs H Q E->
  ∃ t,i0 (BU Bh P w K mg base N qual (Ah st) f ad A outer s H E).jN (By st) t/\t { nx:=fun _ H'=>Q .non H',rt:=Q } (DJ N vs) H):iC P w K mg base Bh (k+1) f fd ps sp:=by
 obtain⟨oc,od,kV,doc,pm,an,ad,ct,osl,rfl,lk,hcd⟩:=F.ex;refine NT lk hcd S len fun A outer s H vs Q E hr hsp=>?_;obtain⟨t,h,q⟩:=ag ad A outer s H vs Q E hr hsp;exact⟨t,h.jN,q⟩
theorem kz.binds {ps:List Str}(F:kz K x qual st f fd)
 (h:∀ (kV doc pm:Value)(an:Option Addr)(ad ct:Value)(us:List Value),us.length=ps.length->bindArgs (W.fnOf x qual (CU st) (By st) (Ah st) .none kV doc pm an ad ct) ⟨us,[]⟩=pure (ps.zip us)):iq K fd ps []:=by
 obtain⟨oc,od,kV,doc,pm,an,ad,ct,osl,rfl,lk,hcd⟩:=F.ex;exact .all (h kV doc pm an ad ct)
theorem Vr {kV ct:Value}(l:K.lookup f=some ⟨oc,od,.func (W.fnOf x qual (CU st) (By st) (Ah st) .none kV doc pm an ad ct),osl⟩)
 (c:PySem.W.codeIn K ad qual=true)(k:W.keepIn K (.ref f)=true):kz K x qual st f (W.fnOf x qual (CU st) (By st) (Ah st) .none kV doc pm an ad ct):=⟨⟨oc,od,kV,doc,pm,an,ad,ct,osl,U,l,c⟩,k⟩
theorem Hq {k:Nat}(hr:ic k A):A.units+1<cLine:=GK (GX (by decide:1<=64) _) hr.units
section
variable {X:Cx}
theorem pv (i:Nat)(hN:X.N[i]? = some x:=by rfl)(hv:Kr X.env.scope x:=by first | exact Or.inl rfl | exact Or.inr (Or.inl rfl) | exact Or.inr (Or.inr rfl))(hd:(x == ("__debug__" : Str))=false:=by decide)
 (hcd:(x == ("__classdict__" : Str))=false:=by decide):PE X (.Name x pos) (Eh i):=VV hN hv hd hcd
end
theorem AK {A:Prop}(h:B):if false=true then A else B:=by
 rw[if_neg BX];exact h
theorem AC {A:Prop}(h:A):if true=true then A else B:=by
 rw[if_pos rfl];exact h
theorem AN {c A:Prop} [Decidable c] (h1:c->A)(h2:¬ c->B):if c then A else B:=by
 by_cases h:c
 . rw[if_pos h];exact h1 h
 . rw[if_neg h];exact h2 h
section
variable {κ:Type} [DecidableEq κ]
theorem bC {kvs:List (κ×V)}{k:κ}(h:AX kvs k=none):¬ k∈kvs.map (·.1):=by
 intro m;obtain⟨p,hp,e⟩:=List.mem_map.mp m;have q:(kvs.any fun kv=>decide (kv.1=k))=true:=List.any_eq_true.mpr ⟨p,hp,Be e⟩;rw[Kk,h] at q;exact absurd q (by simp)
theorem UQ:∀ {l:List κ}{k:κ},l.Nodup->¬ k∈l->(l++[k]).Nodup
 | [],k,_,_=>by simp
 | a :: r,k,h,hk=>by
  obtain⟨h1,h2⟩:=List.nodup_cons.mp h;show(a :: (r++[k])).Nodup;refine List.nodup_cons.mpr ⟨fun m=>?_,UQ h2 fun m=>hk (List.mem_cons.mpr (Or.inr m))⟩;rcases List.mem_append.mp m with q | q
  . exact h1 q
  . exact hk (List.mem_cons.mpr (Or.inl (List.mem_singleton.mp q).symm))
theorem dP {kvs:List (κ×V)}{k:κ}(v:V)(hn:(kvs.map (·.1)).Nodup)(h:AX kvs k=none):((BS kvs k v).map (·.1)).Nodup:=by
 rw[Oz v h,Ex];exact UQ hn (bC h)
theorem gb {p:κ×V}{r:List (κ×V)}{k:κ}(e:p.1=k):C4 (p :: r) k=C4 r k:=by
 unfold C4;rw[O0,if_neg (by simp[e])]
theorem bH {p:κ×V}{r:List (κ×V)}{k:κ}(e:¬ p.1=k):C4 (p :: r) k=p :: C4 r k:=by
 unfold C4;rw[O0,if_pos (by simp[e])]
theorem Rm {kvs:List (κ×V)}{k:κ}{p:κ×V}(h:p∈C4 kvs k):p∈kvs:=(List.mem_filter.mp h).1
theorem Q3:∀ {kvs:List (κ×V)}{k:κ},(kvs.map (·.1)).Nodup->((C4 kvs k).map (·.1)).Nodup
 | [],_,_=>Q7
 | p :: r,k,h=>by
  have h:(p.1 :: r.map (·.1)).Nodup:=h;obtain⟨h1,h2⟩:=List.nodup_cons.mp h;by_cases e:p.1=k
  . rw[gb e];exact Q3 h2
  . rw[bH e];show(p.1 :: (C4 r k).map (·.1)).Nodup;refine List.nodup_cons.mpr ⟨fun m=>h1 ?_,Q3 h2⟩;obtain⟨q,hq,eq⟩:=List.mem_map.mp m;exact List.mem_map.mpr ⟨q,Rm hq,eq⟩
end
def CV (P:Program)(w:World)(K:W.Frag)(mg:gj)(base:Heap)(CX:Dw)(k:Nat)(sp:Addr->Sp):Prop:=
 ∀ (f:Addr) (A:Around) (outer:List Env) (s:Shared) (H:Hp) (us:List Value) (vs:List V) (Q:VK) (E:XK),ic k A->ju P w K mg base A outer s H->hI vs us->sp f vs H Q E->
  codeAny (model P w) A (.call (.ref f) ⟨us,[]⟩) (CR CX outer P w H s Q E) s
theorem iC.called {CX:Dw}{k:Nat}{ps:List Str}(F:iC P w K mg base CX k f fd ps sp)(hb:iq K fd ps [])
 {Q:VK}{E:XK}(hr:ic k A) (e0:ju P w K mg base A outer s H) (r:hI vs us) (h:sp vs H Q E) :
 codeAny (model P w) A (.call (.ref f) ⟨us,[]⟩) (CR CX outer P w H s Q E) s:=by
 have KX:K.In s.heap:=e0.mod.km.keeps fun b o e=>(e0.bs b o e).1;have hl:(us++[]).length=ps.length:=by rw[E8,<- r.length];exact F.len _ _ _ _ h
 have b:=hb s us KX hl;rw[E8] at b;exact F.run A outer s H ⟨us,[]⟩ us vs Q E hr e0 b r h
def NW (K:W.Frag)(H:Hp)(f:Addr):Prop:=
 (∃ oc od fd sl,K.lookup f=some ⟨oc,od,.func fd,sl⟩)\/∃ oc od fd sl u,H f=some (.frz ⟨oc,od,.func fd,sl⟩ u)
section
variable {X:Cx}{CX:Dw}{k:Nat}{sp:Addr->Sp}{E:XK}{p:Pos}{t:TA}
theorem gv.fnAt (I:gv X aa σ H s)(h:NW X.K H f):PySem.W.FnAt f s.heap:=by
 rcases h with⟨oc,od,fd,sl,e⟩ | ⟨oc,od,fd,sl,u,e⟩
 . exact⟨oc,od,fd,sl,I.iY _ _ e⟩
 . exact⟨oc,od,fd,sl,(I.hW _ _ e).1⟩
theorem Z4 {Q:VK}(F:CV X.prog X.w X.K X.mg X.base CX k sp)(hr:ic k X.A)(hx:ED CX X E)
 (I:gv X aa σ H s)(r:hI vs us)(h:sp f vs H Q E):wpAny (model X.prog X.w) X.A (call (.ref f) us) (EP X aa σ Q) X.xe s:=by
 refine FQ (codeAny_mono (F f X.A X.stack s H us vs Q E hr I.kj r h) fun r s' hq=>?_);cases r with
 | error e=>exact hx aa σ H s e s' I hq
 | ok fl=>
  cases fl with
  | ret u=>exact I.after hq
  | next=>exact False.elim hq
  | brk=>exact False.elim hq
  | cont=>exact False.elim hq
def R7 (K:W.Frag)(i:Nat)(sp:Addr->Sp)(E:XK)(t:TA):TE:=fun σ H Q=>∃ f,σ[i]? = some (some (.ref f))/\NW K H f/\t σ H fun vs H1=>NW K H1 f/\sp f vs H1 Q E
theorem C2 (F:CV X.prog X.w X.K X.mg X.base CX k sp)(hr:ic k X.A)(hx:ED CX X E)(hN:X.N[i]? = some x)(hv:Kr X.env.scope x)(ha:PA X (e :: es) t)
 (hdb:DT x:=by decide)(hcd:(x == ("__classdict__" : Str))=false:=by decide)
 (he:Ef X e es:=by rfl)(hpl:DU X es pos:=by rfl) :
 PE X (.Call (.Name x p) (e :: es) [] pos) (R7 X.K i sp E t):=by
 intro aa s σ H Q I h;obtain⟨f,ef,hf,h⟩:=h;refine HG (Av (VV (i:=i) hN hv hdb hcd aa s σ H (fun v H'=>v = .ref f/\H'=H) I ⟨_,ef,U,U⟩) fun u s1 hz=>?_);obtain⟨v,H1,I1,r1,e1,e2⟩:=hz;subst e1 e2;obtain rfl:u=Value.ref f:=r1;refine PySem.W.callWith_F (first:=[]) (I1.fnAt hf) (Av (ha pos aa s1 σ H1 _ I1 h) fun us s2 ⟨vs,H2,I2,r,hf2,q⟩=>⟨I2.fnAt hf2,?_⟩) he hpl;exact Z4 F hr hx I2 r q
end
section
variable {X:Cx}
theorem TM:Fz X "int.bit_length" (fun x vs H Q=>∃ i,x = .int i/\vs=[]/\Q (.int (Builtin.Int.intBits i:Nat)) H):=by
 intro aa s σ H x vs v us Q I rx rv h;obtain⟨i,rfl,rfl,q⟩:=h;obtain⟨t,rfl⟩:=rx;cases rv.zero
 exact call_int_bit_length ⟨.int _,H,I.tok _,⟨_,U⟩,q⟩
theorem Dp:CY X (.builtin "isinstance") (fun xs H Q=>∃ x t c b,xs=[x,.ty c]/\D6 X.K H x t/\W.kitOne X.K t (.type c)=some b/\Q (.bl b) H):=by
 intro aa s σ H xs us Q I r h;obtain⟨x,t,c,b,rfl,ty,e,q⟩:=h;obtain⟨u,w',rfl,rx,rc⟩:=Mm r;obtain rfl:w'=Value.type c:=rc;exact VM I rx ty e fun tk=>⟨.bl b,H,I.tok tk,U,q⟩
def ND (K:W.Frag)(H:Hp)(a:Addr)(xs:List V):Prop:=
 ∃ (its:List Value) (n:Nat),hI xs its/\xs.length<=sizeLine/\((∃ u,H a=some (.frz { cls:=.type "list",data:=.seq its.toArray n } u))\/K.lookup a=some { cls:=.type "list",data:=.seq its.toArray n })
end
def LR (H:Hp):Nat->V->V->Prop
 | 0,x,y=>x=y/\CD x=true
 | n+1,x,y=>(x=y/\CD x=true)\/∃ a b xs ys,x = .ref a/\y = .ref b/\H a=some (.tup xs)/\H b=some (.tup ys)/\xs.length=ys.length/\∀ (i:Nat) u v,xs[i]? = some u->ys[i]? = some v->LR H n u v
theorem LD {x:V}(h:CD x=true):Du x x=true:=by
 cases x <;> first | rfl | exact beq_self_eq_true _ | cases h
theorem OV (n:Nat):(List.range n).all (fun _=>true)=true:=by simp
theorem hI.at {xs:List V}(r:hI xs its)(h:j<its.toArray.size):∃ x,xs[j]? = some x/\hG x its.toArray[j]:=by
 have hl:=r.length;have hj:j<xs.length:=by simp at h;exact om
 obtain⟨u,hu,ru⟩:=r.get (i:=j) (x:=xs[j]) (by simp[hj]);refine⟨xs[j],by simp[hj],?_⟩;have:its.toArray[j]=u:=by
  have h2:j<its.length:=by simpa using h
  rw[List.getElem_toArray];rw[Bc h2] at hu;exact Option.some.inj hu
 rw[this];exact ru
theorem VF {P:Program}{w:World}{H:Hp}{s:Shared}(ok:iQ P w H s.heap):∀ (n:Nat)(x y:V)(u v:Value)(A:Around),LR H n x y->hG x u->hG y v->A.units+n<cLine->SeqAt.EqAt A s u v true
 | 0,x,y,u,v,A,h,rx,ry,_=>by
  obtain⟨rfl,f⟩:=h;have:=Px (A:=A) (s:=s) rx ry f f;rw[LD f] at this;exact this
 | n+1,x,y,u,v,A,h,rx,ry,hu=>by
  rcases h with⟨rfl,f⟩ | ⟨a,b,xs,ys,rfl,rfl,ha,hb,hl,hi⟩
  . have:=Px (A:=A) (s:=s) rx ry f f;rw[LD f] at this;exact this
  . obtain rfl:u=Value.ref a:=rx;obtain rfl:v=Value.ref b:=ry;by_cases e:a=b
    . subst e;exact OB _
    obtain⟨za,its,r,pa⟩:=ok _ _ ha;obtain⟨zb,its2,r2,pb⟩:=ok _ _ hb;have q:=Qf (A:=A) (s:=s) (e:=fun _=>true) (show s.heap.IsTuple a its.toArray from pa) (show s.heap.IsTuple b its2.toArray from pb) om fun j h1 h2=>by
     obtain⟨x1,e1,q1⟩:=r.at h1;obtain⟨y1,e2,q2⟩:=r2.at h2;exact VF ok n x1 y1 _ _ A.in1 (hi j x1 y1 e1 e2) q1 q2 (by show A.units+1+n<cLine;exact om)
    have e3:((List.range (min its.toArray.size its2.toArray.size)).all (fun _=>true) && its.toArray.size == its2.toArray.size)=true:=by
     have h1:=r.length;have h2:=r2.length
     rw[OV,EH];simp;exact om
    rw[e3] at q;exact MI e q
section
variable {X:Cx}
def WV (K:W.Frag)(un:Nat)(b:Bool):R2:=fun x y H Q=>∃ p q xs ys n,x = .ref p/\y = .ref q/\gy K H p xs/\gy K H q ys/\xs.length=ys.length/\(∀ (i:Nat) u v,xs[i]? = some u->ys[i]? = some v->LR H n u v)/\un+n+1<cLine/\Q (.bl b) H
theorem f9:B6 X (compareOp .Eq) (WV X.K X.A.units true):=by
 intro aa s σ H x y v u Q I rx ry h;obtain⟨a,b,xs,ys,n,rfl,rfl,ha,hb,hl,hi,hu,q⟩:=h;obtain rfl:v=Value.ref a:=rx;obtain rfl:u=Value.ref b:=ry;obtain⟨its,r,pa,za⟩:=I.list ha;obtain⟨its2,r2,pb,zb⟩:=I.list hb;have h1:=r.length;have h2:=r2.length
 have q2:=Q6 (A:=X.A) (s:=s) (e:=fun _=>true) pa.isList pb.isList (by simp;exact om) om fun j h1 h2=>by
  obtain⟨x1,e1,q1⟩:=r.at h1;obtain⟨y1,e2,q2⟩:=r2.at h2;exact VF I.hW n x1 y1 _ _ X.A.in1 (hi j x1 y1 e1 e2) q1 q2 (by show X.A.units+1+n<cLine;exact om)
 rw[OV] at q2;exact q2 X.prog X.w X.xe _ ⟨.bl true,H,I,U,q⟩
end
theorem Zi {prog:Program}{w:World}{d:Addr}(hd:(d == sysModules)=false) :
 MeetsIn prog w (Builtin.«dict.__len__» ⟨[.ref d],[]⟩) (fun _ R s=>∃ o es ep,s.heap.get? d=some o/\o.data = .dict es ep/\R (.ok (.ret (.int es.size s.toks))) { s with toks:=s.toks+1 }):=
 .of_wp fun A R s ⟨o,es,ep,ho,hdat,h⟩=>by
  show wpAny _ _ (dictSize d >>= _) _ _ s;unfold dictSize;refine Am (Am (wpAny_dictEntries ho hdat (AY ?_)));show wpAny _ _ (Builtin.Dict.pendingCount d >>= _) _ _ s;refine Am (wpAny_pendingCount_other hd ?_);refine wpAny_ret_mkInt ?_;rw[Nat.add_zero];exact h
theorem bv {prog:Program}{w:World}{d:Addr}{o:Obj}{es:Array DictEntry}(hd:(d == sysModules)=false)(ho:s.heap.get? d=some o)
 (hx:o.ExactDict)(hdt:o.data = .dict es ep)(hfit:(es.size:Int)<2 ^ 63)(h:Q (.int es.size (s.toks+1)) { s with toks:=s.toks+1+1 }):wpAny (model prog w) A (call (.builtin "len") [.ref d]) Q E s:=by
 refine VE kind_len plain_len entry_len (args_len1 _) ?_;unfold Builtin.«len»;have ty:s.TypeIs (.ref d) "dict":=⟨o,ho,hx.1⟩
 refine Am (m:=oneArg "len" _) (AY ?_);refine Am (m:=callSpecial? (.ref d) (Str.ofString "__len__")) (wpAny_callSpecial?_slot (name:=Str.ofString "__len__") ty F.slot_dict_len
  (call_meetsIn F.slot_dict_len ty F.entry_dict_len (F.args_dict_len_1 _) (Zi hd) ⟨o,es,ep,ho,hdt,?_⟩))
 show wpAny _ _ _ _ _ { s with toks:=s.toks+1 };refine Am (GM (AY ?_));refine Am (wpAny_letGo ?_);show wpAny _ _ (if ((es.size:Nat):Int)<0 then _ else _) _ _ _;rw[if_neg om];show wpAny _ _ (if ((es.size:Nat):Int)>=2 ^ 63 then _ else _) _ _ _;rw[if_neg om];exact Am (wpAny_mkInt (AY ⟨_,U,h⟩))
theorem Yz {X:Cx}:CY X (.builtin "len") (fun xs H Q=>∃ a kvs,xs=[V.ref a]/\H a=some (.dT kvs)/\Q (.int kvs.length) H):=by
 intro aa s σ H xs us Q I r h;obtain⟨a,kvs,rfl,ha,q⟩:=h;obtain⟨u,rfl,ru⟩:=CT r;cases ru
 obtain⟨z,hd,ys,rel,o,es,ep,ho,hx,hdt,hes,hnd⟩:=I.hW _ _ ha;have e:es.size=kvs.length:=by
  have h1:=congrArg List.length hes;have h2:=Paired.length rel;simp at h1;exact om
 refine bv hd ho hx hdt (by rw[Bf] at z;exact om) ?_;rw[e];exact⟨.int kvs.length,H,I.tok _,⟨_,U⟩,q⟩
noncomputable def N3 (P:Program) (w:World) (K:W.Frag) (mg:gj) (base:Heap) (N:List Str) (qual:Str) (scope:Scope) (f:Addr) (cd:Value) (cl:List (Str×Addr)) (A:Around) (outer:List Env) (s:Shared) (H:Hp):Cx where
 prog:=P
 w:=w
 K:=K
 mg:=mg
 base:=base
 A:=A.deeper (PySem.W.envX qual scope s.heap.objs.size f cd cl)
 N:=N
 s₀:=s
 H₀:=H
 env:=PySem.W.envX qual scope s.heap.objs.size f cd cl
 outer:=outer
 stack:=PySem.W.envX qual scope s.heap.objs.size f cd cl :: outer
 ex:=[]
 calm:=true
 fn:=fun _=>false
 pn:=[]
 xe:=fun _ _=>False
structure VQ (ps:List Str)(y:Str)(sc:Scope):Prop where
 kind:sc.kind = .function
 co:sc.isCoroutine=false
 gen:sc.isGenerator=false
 nd:(ps++[y]).Nodup
 par:∀ x∈ps,sc.names.lookup x=some .local
 jI:∀ z∈sc.names,z.2≠.cell
 free:∀ x,sc.names.lookup x=some .free->x=y
 kL:sc.names.lookup y=some .free
theorem WG {ps:List Str}(hn:ps.Nodup):∀ {us:List Value}{i:Nat}{x:Str}{u:Value},ps[i]? = some x->us[i]? = some u->ps.length=us.length->(ps.zip us).reverse.lookup x=some u:=by
 intro us i x u h1 h2 hl;have key:∀ (l:List (Str×Value)),(l.map (·.1)).Nodup->(x,u)∈l->l.lookup x=some u:=by
  intro l
  induction l with
  | nil=>intro _ h;cases h
  | cons p r ih=>
   intro hn hm;obtain⟨a,b⟩:=p;have hn':=List.nodup_cons.mp hn;rw[Hw];rcases List.mem_cons.mp hm with e | hm2
   . cases e;simp
   . have hne:(x == a)=false:=by
      rw[beq_eq_false_iff_ne];intro e;exact hn'.1 (List.mem_map.mpr ⟨(x,u),hm2,e⟩)
     rw[hne];exact ih hn'.2 hm2
 refine key _ ?_ ?_
 . rw[List.map_reverse];have e:(ps.zip us).map (·.1)=ps:=by rw[List.map_fst_zip om]
   rw[e];exact List.pairwise_reverse.mpr (hn.imp Ne.symm)
 . refine List.mem_reverse.mpr (CK (i:=i) ?_);rw[List.getElem?_zip_eq_some];exact⟨h1,h2⟩
theorem WQ {k:Nat}{c c':Addr}{y:Str}{params:Arguments}{ct:Value}{ps:List Str}{co:Obj}{cvs:Array Value}{ctk:Tok}{cu:Value}{cv:V}
 {Q:VK}{E:XK}
 (S:VQ ps y scope)(hr:ic (k+1) A)(e0:ju P w K mg base A outer s H)(r:hI vs us)(hl:vs.length=ps.length)
 (hf:H f=some (.frz ⟨oc,od,.func (PySem.W.fnX name qual params body scope [(y,c)] .none .none doc pm none (.ref c') ct),osl⟩ (.own 0)))
 (hc':H c'=some (.frz ob (.own 0)))(hob:ob.data = .fields cvs)(hcq:cvs[1]? = some (.str qual ctk))
 (hc:H c=some (.frz co (.own 0)))(hco:co.data = .cell (some cu))(rc:hG cv cu)
 (hbind:∀ us:List Value,us.length=ps.length->bindArgs (PySem.W.fnX name qual params body scope [(y,c)] .none .none doc pm none (.ref c') ct) ⟨us,[]⟩=pure (ps.zip us))
 (ag:ic k (A.deeper (PySem.W.envX qual scope s.heap.objs.size f (.ref c') [(y,c)]))->
  ∃ t,i0 (N3 P w K mg base (ps++[y]) qual scope f (.ref c') [(y,c)] A outer s H) body t/\t { nx:=fun _ H'=>Q .non H',rt:=Q } (vs.map some++[some cv]) H) :
 codeAny (model P w) A (.call (.ref f) ⟨us,[]⟩) (CR Bh outer P w H s Q E) s:=by
 have lim:s.heap.NoLimit:=e0.mod.nolimit.keeps fun b o e=>(e0.bs b o e).1;have of:=(e0.hW _ _ hf).1;have oc':=(e0.hW _ _ hc').1;have occ:=(e0.hW _ _ hc).1;have hul:us.length=ps.length:=by rw[<- r.length];exact hl
 refine codeAny_call_function hr.depth of rfl S.co S.gen rfl ⟨c',ob,cvs,ctk,U,oc',hob,hcq⟩ (BindsTo.of_eq (hbind us hul) _ _ _ _ ?_);refine wpAny_newFunctionEnv S.jI (fun x hx=>S.par _ (KS (show(x.1,x.2)∈ps.zip us from hx)).1) (fun h1 hns hsb=>?_) S.kind;have hk:∀ b o,s.heap.get? b=some o->h1.get? b=some o:=fun b o e=>hsb.extBut b o (BC (Bg e)) (Bb _ e);refine⟨lim.keeps hk,codeAny_func ?_⟩;obtain⟨t,ht,hq⟩:=ag (hr.deeper _);have noA:∀ b:Addr,b∉(N3 P w K mg base (ps++[y]) qual scope f (.ref c') [(y,c)] A outer s H).ex:=fun b z=>absurd (show b∈([]:List Addr) from z) (by simp);have lk:∀ x a,([(y,c)]:List (Str×Addr)).lookup x=some a->x=y/\a=c:=fun x a e=>by
  rw[Hw] at e;cases hb:x == y with
  | true=>rw[hb] at e;cases e;exact⟨eq_of_beq hb,U⟩
  | false=>rw[hb] at e;cases e
 have ly:([(y,c)]:List (Str×Addr)).lookup y=some c:=by simp[Hw]
 have I:gv (N3 P w K mg base (ps++[y]) qual scope f (.ref c') [(y,c)] A outer s H) [] (vs.map some++[some cv]) H { s with heap:=h1,toks:=s.toks+(ps.zip us).length }:=by
  refine⟨⟨e0.mod,S.kind,U,U,Ay _,fun x z a h1 h2=>?_,fun x hx=>?_,fun x a q _=>?_,fun _=>hr.hd,Around.frames_deeper e0.frames,.inr ⟨U,U⟩,fun b z=>absurd z (noA b),e0.bs,e0.j5,fun b _ _=>noA b,fun b z=>absurd z (noA b),e0.iW,e0.j8⟩,
   rfl,e0.bare,Un.kept hk,⟨_,hns,fun i x v h1 h2 h3=>?_⟩,fun x a h=>?_,e0.hW.fresh (Ay _),fun x a h=>?_,fun p hp=>absurd (show p∈([]:List (Addr×Obj)) from hp) (by simp),e0.hW.kept hk,?_⟩
  . rw[(lk x a h1).1,(lk z a h2).1]
  . have hx:scope.names.lookup x=some .cell\/scope.names.lookup x=some .free:=hx;rcases hx with hx | hx
    . exact absurd rfl (S.jI _ (Fy hx))
    . rw[S.free x hx];exact⟨c,ly⟩
  . exact absurd (show false=true from q) (by simp)
  . by_cases hi:i<ps.length
    . have h1':ps[i]? = some x:=by
       have h1:(ps++[y])[i]? = some x:=h1
       rwa [O6 hi] at h1
      have h2':vs[i]? = some v:=by
       rw[O6 (by simp;exact om),BG] at h2;cases e:vs[i]? with
       | none=>rw[e] at h2;cases h2
       | some a=>rw[e] at h2;cases h2;rfl
      obtain⟨u,hu,rv⟩:=r.get h2';refine⟨u,rv,.inl ⟨S.par x (CK h1'),?_⟩⟩;have ndP:ps.Nodup:=S.nd.sublist (List.sublist_append_left _ _);exact WG ndP h1' hu hul.symm
    . have h1:(ps++[y])[i]? = some x:=h1;rw[KY om] at h1;rw[KY (by simp;exact om)] at h2;have e1:i - ps.length=0:=by
       cases q:i - ps.length with
       | zero=>rfl
       | succ j=>rw[q] at h1;simp at h1
      have e2:i - (vs.map some).length=0:=by simp;exact om
      rw[e1] at h1;rw[e2] at h2;simp at h1 h2;subst h1 h2;exact⟨cu,rc,.inr ⟨.inr S.kL,c,ly,co,hk _ _ occ,hco⟩⟩
  . rw[(lk x a h).2];exact⟨_,co,hk _ _ occ,hco⟩
  . rw[(lk x a h).2];exact .inr ⟨U,co,hc⟩
  . show _=(ps++[y]).length;simp;exact hl
 refine C6 (ht [] _ _ H _ I hq) (fun fl s' hs=>?_) fun e s' hs=>False.elim hs;have fin:∀ {σ':St}{H':Hp}{v:V}{u:Value},gv (N3 P w K mg base (ps++[y]) qual scope f (.ref c') [(y,c)] A outer s H) [] σ' H' s'->hG v u->Q v H'->CE outer P w H s Q u s':=
  fun {σ' H' v u} J rv q=>⟨v,H',J.os,J.bare,J.base,J.hW,rv,q⟩
 cases fl with
 | ret u=>
  obtain⟨v,σ',H',J,rv,q⟩:=hs;exact fin J rv q
 | next=>
  obtain⟨σ',H',J,q⟩:=hs;exact fin (v:=V.non) (u:=Value.none) J rfl q
 | brk=>
  obtain⟨_,_,_,q⟩:=hs;exact False.elim q
 | cont=>
  obtain⟨_,_,_,q⟩:=hs;exact False.elim q
theorem iQ.jj {P:Program}{w:World}{o:Obj}(x:iQ P w H h)(ho:h.get? a=some o)(hn:H a=none):iQ P w (Ab H a (.frz o (.own 0))) h:=fun b u e=>by
 by_cases hb:b=a
 . subst hb;rw[Ad] at e;cases e;exact⟨ho,o,ho⟩
 . rw[Af hb] at e;exact(x b u e).jo (fun c v _ q=>q) (fun c q=>by rw[Af (Aq q hn)];exact q) fun c xs q=>by rw[Af (Aq q hn)];exact q
theorem Un.jj {fs ex:List Addr}{h1:Heap}(u:Un fs ex H H1 h h1)(hs:h.objs.size<=a)(hn:H1 a=none):Un fs ex H (Ab H1 a o) h h1:=
 ⟨u.keep,u.slot,fun b o q n hx=>by rw[Af (BC (Cq (Bg q) hs))];exact u.free b o q n hx,u.there,
  fun b xs q=>by have z:=u.jp b xs q;rw[Af (Aq z hn)];exact z,fun b o v q=>by have z:=u.iX b o v q;rw[Af (Aq z hn)];exact z,
  fun b ps q=>by obtain⟨m,z⟩:=u.ji b ps q;exact⟨m,by rw[Af (Aq z hn)];exact z⟩⟩
theorem gv.jj {X:Cx}{o:Obj}(I:gv X aa σ H s)(ho:s.heap.get? a=some o)(fp:E3 X aa H a)(hs:X.s₀.heap.objs.size<=a) :
 gv X aa σ (Ab H a (.frz o (.own 0))) s:=by
 obtain⟨f0,f1,f2,f3,f4,f5⟩:=fp;refine⟨I.ok,I.os,I.bare,I.base.jj hs f0,I.loc,I.cell,?_,fun x c e=>?_,fun p hp=>?_,I.hW.jj ho f0,I.len⟩
 . rw[Af (Ne.symm f1)];exact I.free
 . rcases I.iF x c e with z | ⟨z1,ob,z⟩
   . left;rw[Af (f4 x c e)];exact z
   . right;exact⟨z1,ob,by rw[Af (f4 x c e)];exact z⟩
 . obtain⟨e,n,ne,nf,d⟩:=I.pin p hp;exact⟨e,by rw[Af (f5 p hp)];exact n,ne,nf,d⟩
theorem Zb {k:Nat}{params:Arguments}{kV ct:Value}
 {ps:List Str}(lk:K.lookup f=some ⟨oc,od,.func (W.fnOf name qual params body scope dV kV doc pm an ad ct),osl⟩) (hcd:PySem.W.codeIn K ad qual=true) (S:AA N ps scope)
 (len:∀ vs H Q E,sp vs H Q E->vs.length=ps.length)
 (ag:∀ (A:Around)(outer:List Env)(s s1:Shared)(H:Hp)(vs:List V)(Q:VK)(E:XK),ic k (A.deeper (envOfC qual scope s.heap.objs.size f ad))->sp vs H Q E->
  gv (BU Bh P w K mg base N qual scope f ad A outer s H E) [] (DJ N vs) H s1->
  wpAny (model P w) (A.deeper (envOfC qual scope s.heap.objs.size f ad)) (execs body (envOfC qual scope s.heap.objs.size f ad)) (fun fl s'=>match fl with | .ret u=>CE outer P w H s Q u s' | .next=>CE outer P w H s Q .none s' | _=>False)
   (BU Bh P w K mg base N qual scope f ad A outer s H E).xe s1) :
 iC P w K mg base Bh (k+1) f (W.fnOf name qual params body scope dV kV doc pm an ad ct) ps sp:=by
 refine⟨len,fun A outer s H args us vs Q E hr e0 hb r hsp=>?_⟩;have hl:=len _ _ _ _ hsp;have KX:K.In s.heap:=e0.mod.km.keeps fun b o e=>(e0.bs b o e).1;have lim:s.heap.NoLimit:=e0.mod.nolimit.keeps fun b o e=>(e0.bs b o e).1;have hkind:∀ y∈ps.zip us,scope.names.lookup y.1=some .local\/(scope.names.lookup y.1=some .cell/\((cellsFrom (s.heap.objs.size+1) scope.names []).lookup y.1).isSome=true):=fun⟨n,v⟩ hy=>by
  rcases S.par n (KS hy).1 with q | q
  . exact .inl q
  . exact .inr ⟨q,QW _ _ _ (.inl q)⟩
 refine codeAny_call_function hr.depth (KX _ _ lk) rfl S.co S.gen rfl (PySem.W.codeRec_of KX hcd) (hb _ _ _ _ ?_);refine Sz S.kind hkind fun env he s1 x=>?_;subst he;refine⟨lim.keeps x.toInCall.keep,codeAny_func ?_⟩;have I:gv (BU Bh P w K mg base N qual scope f ad A outer s H E) [] (DJ N vs) H s1:=Vc S hr.hd e0 hl r x;refine C6 (ag A outer s s1 H vs Q E (hr.deeper _) hsp I) (fun fl s' hs=>?_) fun e s' hs=>hs;cases fl with
 | ret u=>exact hs
 | next=>exact hs
 | brk=>exact False.elim hs
 | cont=>exact False.elim hs
section
variable {X:Cx}{params:Arguments}{jJ:List (Str×Addr)}
def dm (Pt:Addr)(i:Nat)(name qual:Str)(params:Arguments)(body:List Stmt)(scope:Scope)(jJ:List (Str×Addr))(pos:Pos):TS:=fun D σ H=>∃ ps:Array Value,H Pt=some (.iZ ps)/\TriplesOk ps.toList/\codeAmong pos ps.toList=none/\
 ∀ (f c':Addr) (ob:Obj) (cvs:Array Value) (tk:Tok) (ctv doc pm:Value),H f=none->H c'=none->c'≠f->Pt≠f->Pt≠c'->ob.data = .fields cvs->cvs[1]? = some (.str qual tk)->
  D.nx (σ.set i (some (.ref f))) (Ab (Ab (Ab H Pt (.iZ (ps++#[rawInt pos.line,rawInt pos.col,.ref c']))) c' (.frz ob (.own 0))) f (.frz (PySem.W.fnMade name qual params body scope jJ doc pm c' ctv) (.own 0)))
theorem iQ.iZ {P:Program}{w:World}{p:Addr}{ps more:Array Value}(x:iQ P w H h)(hp:H p=some (.iZ ps))(k:∀ b o,b≠p->h.get? b=some o->h'.get? b=some o)(hp':h'.get? p=some (PySem.W.tabObj (ps++more))) :
 iQ P w (Ab H p (.iZ (ps++more))) h':=fun b u e=>by
 by_cases hb:b=p
 . subst hb;rw[Ad] at e;cases e;exact hp'
 . rw[Af hb] at e;refine(x b u e).jo (fun c v hc q=>k c v ?_ q) (fun c q=>?_) fun c xs q=>?_
   . rcases hc with rfl | hc
     . exact hb
     . rintro rfl;rw[hp] at hc;cases hc
   . rw[Af (by rintro rfl;rw[hp] at q;cases q)];exact q
   . rw[Af (by rintro rfl;rw[hp] at q;cases q)];exact q
theorem eZ (hd0:params.defaults=[])(hk0:params.kw_defaults=[])(ha:PySem.annTrees params none X.env=[])(hqual:qualnameIn X.env name name=qual)(hcl:closureFor scope X.env=pure jJ)(hcode:X.env.code = .ref c0)
 (C:PySem.W.CodeHd X.base c0 Pt)(hbm:∃ bm ob,X.mg "__builtins__" = some (.ref bm)/\bm≠builtinsNs/\X.base.get? bm=some ob/\ob.cls = .type "module"/\ob.dict=some builtinsNs/\ob.data = .plain)
 (hN:X.N.Nodup)(hi:X.N[i]? = some name)(hx:GQ X.env.scope name)(hf:X.fn name=true\/X.env.scope.names.lookup name=some .local) :
 PS X (.FunctionDef name params body [] none [] scope none name pos) (dm Pt i name qual params body scope jJ pos):=by
 intro aa s σ H D I h;obtain⟨ps,hP,ht,hnf,h⟩:=h;have hPo:s.heap.get? Pt=some (PySem.W.tabObj ps):=I.hW _ _ hP;have hgs:=I.mod.glob.keeps I.bk;obtain⟨bm,ob,b1,b2,b3,b4,b5,b6⟩:=hbm;have b3':=I.bk _ _ b3;have hgP:mainGlobals≠Pt:=fun q=>by
  obtain⟨o,es,ep,e,hd,_⟩:=hgs;rw[q,hPo] at e;cases e;cases hd
 have hbP:bm≠Pt:=fun q=>by rw[q,hPo] at b3';cases b3';cases b4
 have hbG:bm≠mainGlobals:=fun q=>by
  obtain⟨o,es,ep,e,hd,_⟩:=hgs;rw[q,e] at b3';cases b3';rw[hd] at b6;cases b6
 refine PySem.W.nestDef_K hd0 hk0 ha ?_;rw[hqual];refine PySem.W.makeFunction_K (mg:=X.mg) hcl I.ok.glob hgs hcode (C.keeps I.bk) hPo ht hnf hgP ⟨bm,ob,b1,b2,hbG,hbP,b3',b4,b5,b6⟩ fun c' ctv doc h' tk hx' hge hlt hrec htb=>?_;obtain⟨c2,oc,vs,t,e2,hoc,hd,hv⟩:=hrec;cases e2
 have hszle:s.heap.objs.size<=h'.objs.size:=HF (GK hge hlt);have hPlt:Pt<s.heap.objs.size:=Bg hPo;have hPm:∀ x a,X.env.cells.lookup x=some a->a≠Pt:=fun x a e z=>by
  obtain⟨v,o,ho,hd⟩:=I.cell x a e;rw[z,hPo] at ho;cases ho;cases hd
 have Un1:Un X.fs [] H (Ab H Pt (.iZ (ps++#[rawInt pos.line,rawInt pos.col,.ref c']))) s.heap h':=by
  refine⟨fun b o q n _ _=>hx' b o (by rintro rfl;rw[hP] at n;cases n) q,fun b o q n _ _=>⟨o.slots,hx' b o (by rintro rfl;rw[hP] at n;cases n) q⟩,fun b o q n _=>?_,fun b o q _=>?_,fun b xs q=>?_,fun b o u q=>?_,fun b qs q=>?_⟩
  . rw[Af (by rintro rfl;rw[hP] at n;cases n)];exact n
  . by_cases hb:b=Pt
    . subst hb;exact⟨_,htb⟩
    . exact⟨o,hx' b o hb q⟩
  . rw[Af (by rintro rfl;rw[hP] at q;cases q)];exact q
  . rw[Af (by rintro rfl;rw[hP] at q;cases q)];exact q
  . by_cases hb:b=Pt
    . subst hb;rw[hP] at q;cases q;exact⟨_,Ad⟩
    . exact⟨#[],by rw[Af hb,q];simp⟩
 have I1:gv X aa σ (Ab H Pt (.iZ (ps++#[rawInt pos.line,rawInt pos.col,.ref c']))) { s with heap:=h',toks:=tk }:=
  I.un Un1 (I.hW.iZ hP (fun b o hb q=>hx' b o hb q) htb)
 have hcn:Ab H Pt (.iZ (ps++#[rawInt pos.line,rawInt pos.col,.ref c'])) c'=none:=by
  rw[Af (NR (Cq hPlt hge))];exact I.hW.fresh hge
 have I2:gv X aa σ (Ab (Ab H Pt (.iZ (ps++#[rawInt pos.line,rawInt pos.col,.ref c']))) c' (.frz oc (.own 0))) { s with heap:=h',toks:=tk }:=by
  have f2:=I.jv (H':=Ab H Pt (.iZ (ps++#[rawInt pos.line,rawInt pos.col,.ref c']))) hge hcn;exact I1.jj hoc f2 (Bu I.sz hge)
 have hfn:(Ab (Ab H Pt (.iZ (ps++#[rawInt pos.line,rawInt pos.col,.ref c']))) c' (.frz oc (.own 0))) h'.objs.size=none:=I2.hW.fresh (Ay _);have I3:=I2.laid (a:=h'.objs.size) (o:=.frz (PySem.W.fnMade name qual params body scope jJ doc ((X.mg "__name__").getD .none) c' ctv) (.own 0)) (t':=tk)
  (fun b o q=>Bb (PySem.W.fnMade name qual params body scope jJ doc ((X.mg "__name__").getD .none) c' ctv) q) (Ay _) ⟨Cn _ rfl,_,Cn _ rfl⟩
 refine Ly I3 hN hi hx (v:=.ref h'.objs.size) rfl (fun s' I'=>⟨_,_,I',?_⟩) hf;exact h h'.objs.size c' oc vs t ctv doc _ (I.hW.fresh hszle) (I.hW.fresh hge) (BC hlt) (BC (Cq hPlt hszle)) (BC (Cq hPlt hge)) hd hv
end
noncomputable def Dd (X:Cx) (s₂:Shared) (H₂:Hp) (fp:List Addr) (sc:Scope) (cl:List (Str×Addr)) (N':List Str):Cx:=
 { X with N:=N',s₀:=s₂,H₀:=H₂,env:=compEnvC sc cl s₂.heap.objs.size X.env,outer:=X.stack,stack:=X.stack,ex:=fp,fn:=fun _=>false,pn:=[],xe:=fun _ _=>False }
def KN (X:Cx)(ifs:List Expr)(tt:TT):Prop:=
 ∀ (aa:List (Addr×Obj)) (s:Shared) (σ:St) (H:Hp) (Q:Bool->Hp->Prop) (E:gk),X.xe=(fun _ _=>False)->gv X aa σ H s->tt σ H Q->
  wpAny (model X.prog X.w) X.A (forIn ifs true fun c r=>if r=true then do let ok <- isTrue c X.env (eval c X.env);pure (ForInStep.yield ok) else pure (ForInStep.yield r)) (TP X aa σ Q) E s
theorem Gz {X:Cx}:KN X [] (fun _ H Q=>Q true H):=fun aa s σ H Q E _ I h=>wpAny_tests_nil ⟨H,I,h⟩
theorem L8 {X:Cx}{t:TT}(h:PT X c t):KN X [c] t:=fun aa s σ H Q E hx I q=>wpAny_tests_one (C6 (h aa s σ H Q I q) (fun _ _ x=>x) fun e s' x=>by rw[hx] at x;exact x.elim)
noncomputable def CS (js:List Nat) (σ:St):St:=js.map fun j=>(σ[j]?).join
def P2 (wi:TI)(js:List Nat)(tt:TT)(te:TE):TE:=fun σ H Q=>wi σ H fun J H1=>∀ D,H1 D=none->∃ W:Nat->Nat->List V->Hp->Prop,(∃ m,W 0 m [] (Ab H1 D (.lst [])))/\∀ i m ys H,W i m ys H->
 (J.stop i H/\Q (.ref D) H)\/(J.go i H/\∀ x H',J.jT i H x H'->tt (some x :: CS js σ) H' fun b H2=>if b=true then te (some x :: CS js σ) H2 fun y H3=>H3 D=some (.lst ys)/\ys.length<sizeLine/\∃ m',m'<m/\W (i+1) m' (ys++[y]) (Ab H3 D (.lst (ys++[y])))
  else ∃ m',m'<m/\W (i+1) m' ys H2)
structure Rf (X:Cx)(x:Str)(ys:List Str)(js:List Nat)(sc:Scope)(cl:List (Str×Addr)):Prop where
 calm:X.calm=true
 jJ:closureFor sc X.env=pure cl
 kind:sc.kind = .function
 names:∀ z∈sc.names,z.2 = .local->sc.names.lookup z.1=some .local
 jI:∀ z∈sc.names,z.2≠.cell
 own:sc.names.lookup x=some .local
 nd:(x :: ys).Nodup
 same:∀ z c,cl.lookup z=some c->X.env.cells.lookup z=some c
 has:(relabel sc X.env).names.all (fun p=>!(p.2 == .cell || p.2 == .free) || (cl.lookup p.1).isSome)=true
 jC:∀ (i:Nat) y,ys[i]? = some y->∃ j,js[i]? = some j/\X.N[j]? = some y/\X.env.scope.names.lookup y=some .cell/\(relabel sc X.env).names.lookup y=some .cell
 len:ys.length=js.length
theorem Uz {X:Cx}{ys:List Str}{wi:TI}{use:Option (Value->Sem Unit)}{QQ:gk}
 (ok:Rf X x ys js sc cl)(hi:PI X (.Name x px) iter wi)
 (ht:∀ s₂ H₂ fp,KN (Dd X s₂ H₂ fp sc cl (x :: ys)) ifs tt)(he:∀ s₂ H₂ fp,PE (Dd X s₂ H₂ fp sc cl (x :: ys)) elt te)
 {Q:VK}(I:gv X aa σ H s) (h:P2 wi js tt te σ H Q)
 (fin:∀ (D C:Addr)(H':Hp)(s':Shared),gv X aa σ H' s'->Q (.ref D) H'->E3 X aa H' C->(∃ m,s'.heap.Ns C m)->compPost (model X.prog X.w) X.A X.xe use QQ (.ref D) C (.ok .next) s')
 (hs:∀ x,foldedSetIterable iter X.env x=pure x) :
 wpAny (model X.prog X.w) X.A (comprehension (.ListComp elt [⟨.Name x px,iter,ifs,0⟩] sc pos) sc X.env p2 (newList []) false (eval iter X.env) use) QQ X.xe s:=by
 refine wpAny_comprehension_free (use:=use) rfl hs ok.jJ ok.kind ok.names (Av (hi aa s σ H _ I h) fun v s0 h0=>Av h0 fun itv s1 h1=>?_);obtain⟨it,fp,tn,J,H1,e,I1,T,st1,f1,h1⟩:=h1;subst e;refine OQ ?_;have I2:=I1.kE (ys:=[]) (its:=[]) (t':=s1.toks) .nil (by simp);obtain⟨W,⟨m0,w0⟩,turn⟩:=h1 s1.heap.objs.size I1.fresh;generalize hs2:({ s1 with heap:=s1.heap.push { cls:=.type "list",data:=.seq ([]:List Value).toArray },toks:=s1.toks }:Shared)=s2 at I2;have es2:s2.heap=s1.heap.push { cls:=.type "list",data:=.seq ([]:List Value).toArray }:=by rw[<- hs2]
 have hD:s1.heap.objs.size<s2.heap.objs.size:=by rw[es2,QG];exact QH _
 generalize hH2:Ab H1 s1.heap.objs.size (.lst [])=H2 at I2 w0;have k12:∀ b o,s1.heap.get? b=some o->s2.heap.get? b=some o:=fun b o e=>by rw[es2];exact Bb _ e
 have st2:tn 0 s2.heap:=T.keep _ _ _ st1 fun b hb o e=>k12 b o e;have fplt:∀ b∈fp,b<s1.heap.objs.size:=fun b hb=>by obtain⟨o,e,_⟩:=T.obj _ _ st1 b hb;exact Bg e
 have f2:∀ b∈fp,E3 X aa H2 b:=fun b hb=>⟨by rw[<- hH2,Af (BC (fplt b hb))];exact(f1 b hb).1,(f1 b hb).2⟩
 refine wpAny_newFunctionEnv ok.jI (by intro z hz;simp at hz) (fun h3 hns hsb=>?_) ok.kind;have k23:∀ b o,s2.heap.get? b=some o->h3.get? b=some o:=fun b o e=>hsb.extBut b o (BC (Bg e)) (Bb _ e);generalize hs3:({ s2 with heap:=h3,toks:=s2.toks+([]:List (Str×Value)).length }:Shared)=s3;have es3:s3.heap=h3:=by rw[<- hs3]
 have os3:s3.os=s2.os:=by rw[<- hs3]
 have gs3:s3.gens=s2.gens:=by rw[<- hs3]
 have hX:(Dd X s2 H2 fp sc cl (x :: ys)).Ok:=by
  refine⟨I2.mod,ok.kind,I2.ok.glob,I2.ok.blt,Ay _,fun a b c e1 e2=>I2.ok.inj a b c (ok.same a c e1) (ok.same b c e2),fun z hz=>?_,fun z c q _=>absurd (show false=true from q) (by simp),I2.ok.hd,I2.ok.frames,.inl rfl,
   fun b hb=>?_,I2.bs,?_,fun b o e hb=>?_,fun b hb hf=>?_,I2.stack,I2.jr⟩
  . have hz:(relabel sc X.env).names.lookup z=some .cell\/(relabel sc X.env).names.lookup z=some .free:=hz;have go:∀ k,(relabel sc X.env).names.lookup z=some k->(k == .cell || k == .free)=true->∃ c,cl.lookup z=some c:=fun k hk hb=>by
     have q:=List.all_eq_true.mp ok.has (z,k) (Fy hk);rw[hb] at q;exact Option.isSome_iff_exists.mp q
    rcases hz with hz | hz
    . exact go _ hz rfl
    . exact go _ hz rfl
  . refine⟨?_,fun z c e=>(f2 b hb).2.2.2.2.1 z c (ok.same z c e)⟩;show b≠s2.heap.objs.size;exact BC (Nat.lt_trans (fplt b hb) hD)
  . show X.base.objs.size<=s2.heap.objs.size;exact Bu I2.ok.j5 I2.sz
  . rcases(f2 b hb).2.2.2.1 with z | z
    . exact I2.ok.jP b o e z
    . exact absurd (Cq (Bg e) (Bu I2.ok.j5 z)) (EZ _)
  . rcases List.mem_cons.mp (I2.jL b hf) with z | z
    . exact(f2 b hb).2.1 z
    . exact(f2 b hb).2.2.1 z
 have hlt2:∀ z c,X.env.cells.lookup z=some c->c<s2.heap.objs.size:=fun z c e=>by obtain⟨v,q⟩:=I2.cell z c e;exact q.lt
 have I3:∀ o:Option V,gv (Dd X s2 H2 fp sc cl (x :: ys)) [] (none :: CS js σ) H2 s3:=fun _=>by
  refine⟨hX,os3,by rw[gs3];exact I2.bare,Un.kept (by rw[es3];exact k23),⟨_,by rw[es3];exact hns,fun i y v e1 e2 e3=>?_⟩,fun z c e=>?_,I2.hW.fresh (Ay _),fun z c e=>?_,fun p hp=>absurd (show p∈([]:List (Addr×Obj)) from hp) (by simp),by rw[es3];exact I2.hW.kept k23,?_⟩
  . cases i with
    | zero=>simp at e2
    | succ i=>
     have e1:ys[i]? = some y:=by simpa [Dd] using e1
     obtain⟨j,hj,hN,hk,hk2⟩:=ok.jC i y e1;have e2:(CS js σ)[i]? = some (some v):=by simpa using e2
     unfold CS at e2;rw[BG,hj] at e2;have e2':(σ[j]?).join=some v:=by simpa using e2
     have e4:σ[j]? = some (some v):=by
      cases q:σ[j]? with
      | none=>rw[q] at e2';cases e2'
      | some w=>rw[q] at e2';simp at e2';rw[e2']
     obtain⟨m,hn,hl⟩:=I2.loc;obtain⟨u,r,l⟩:=hl j y v hN e4 (.inr (.inl hk));refine⟨u,r,?_⟩;rcases l with⟨k,_⟩ | ⟨_,c,hc,z⟩
     . exact absurd ((show X.env.scope.names.lookup y=some .local from k).symm.trans hk) (by simp)
     . have q:=List.all_eq_true.mp ok.has (y,.cell) (Fy hk2);obtain⟨c',hc'⟩:∃ c',cl.lookup y=some c':=Option.isSome_iff_exists.mp (by simpa using q);have e5:=ok.same y c' hc';rw[hc] at e5;cases e5
       refine .inr ⟨.inl hk2,c,hc',?_⟩;rw[es3];exact z.keeps k23
  . obtain⟨v,q⟩:=I2.cell z c (ok.same z c e);exact⟨v,by rw[es3];exact q.keeps k23⟩
  . rcases I2.iF z c (ok.same z c e) with q | ⟨_,ob,q⟩
    . exact .inl q
    . exact .inr ⟨U,ob,q⟩
  . show _=(x :: ys).length;unfold CS;simp;exact ok.len.symm
 have stat:∀ {H':Hp},(∀ b∈fp,H' b=none)->∀ b∈fp,E3 (Dd X s2 H2 fp sc cl (x :: ys)) [] H' b:=fun {H'} hn b hb=>by
  refine⟨hn b hb,BC (Nat.lt_trans (fplt b hb) hD),fun hf=>?_,.inl hb,fun z c e=>(f2 b hb).2.2.2.2.1 z c (ok.same z c e),fun p hp=>absurd (show p∈([]:List (Addr×Obj)) from hp) (by simp)⟩;rcases List.mem_cons.mp (I2.jL b hf) with z | z
  . exact(f2 b hb).2.1 z
  . exact(f2 b hb).2.2.1 z
 have loop:codeAny (model X.prog X.w) X.A (.compLoop (.ListComp elt [⟨.Name x px,iter,ifs,0⟩] sc pos) 0 (.ref it) (.ref s1.heap.objs.size) (compEnvC sc cl s2.heap.objs.size X.env)) (compPost (model X.prog X.w) X.A X.xe use QQ (.ref s1.heap.objs.size) s2.heap.objs.size) s3:=by
  refine codeAny_compLoop_tests (fun n s'=>∃ i o zs H',gv (Dd X s2 H2 fp sc cl (x :: ys)) [] (o :: CS js σ) H' s'/\tn i s'.heap/\(∀ b∈fp,H' b=none)/\W i n zs H') ?_ m0 ⟨0,none,[],H2,I3 none,T.keep _ _ _ st2 fun b hb o e=>by rw[es3];exact k23 b o e,fun b hb=>(f2 b hb).1,w0⟩;rintro n s4 ⟨i,o,zs,H4,I4,st4,fr4,w4⟩;rcases turn i n zs H4 w4 with⟨stop,qn⟩ | ⟨go,step⟩
  . refine C6 (T.done (Dd X s2 H2 fp sc cl (x :: ys)) rfl rfl rfl ok.calm i [] s4 _ H4 (fun _ _=>False) I4 (stat fr4) st4 stop) (fun r s5 ⟨hr,I5⟩=>?_) fun _ _ e=>e.elim;subst hr;have I6:gv X aa σ H4 s5:=I2.jW (ch:=fp) I5.os I5.base I5.hW I5.bare fun b hb=>⟨(f2 b hb).2.2.2.1,(f2 b hb).2.1,(f2 b hb).2.2.2.2.1,(f2 b hb).2.2.2.2.2⟩
    obtain⟨m,hn,_⟩:=I5.loc;exact fin _ _ H4 s5 I6 qn (I2.jv (Ay _) I5.free) ⟨m,hn⟩
  . refine C6 (T.item (Dd X s2 H2 fp sc cl (x :: ys)) rfl rfl rfl ok.calm i [] s4 _ H4 (fun _ _=>False) I4 (stat fr4) st4 go) (fun r s5 hz=>?_) fun _ _ e=>e.elim;obtain⟨u,hr,h5⟩:=hz;subst hr;have asg:∀ (Q2:Unit->Shared->Prop),(∀ s6 v H6,gv (Dd X s2 H2 fp sc cl (x :: ys)) ([]++Ib fp s6.heap) (some v :: CS js σ) H6 s6->J.jT i H4 v H6->tn (i+1) s6.heap->(∀ b∈fp,H6 b=none)->Q2 () s6)->
     wpAny (model X.prog X.w) X.A (assign (.Name x px) (compEnvC sc cl s2.heap.objs.size X.env) u) Q2 (fun _ _=>False) s5:=fun Q2 hQ2=>by
     have z:wpAny (model X.prog X.w) X.A (letOwnedTupleGo (.Name x px) (.ref it) u >>= fun _=>assign (.Name x px) (compEnvC sc cl s2.heap.objs.size X.env) u) Q2 (fun _ _=>False) s5:=by
      refine Am (C6 h5 (fun _ s6 hz=>?_) fun _ _ e=>e);obtain⟨v,H6,I6,r6,y6,st6,fr6⟩:=hz;have I6':=I6.pinned (stat fr6) (T.obj _ _ st6);refine Qy (Ly (X:=Dd X s2 H2 fp sc cl (x :: ys)) (i:=0) I6' ok.nd rfl (.inl (lookup_relabel_local ok.own)) r6 (fun s7 I7=>?_) (.inr (lookup_relabel_local ok.own)));have e7:∀ b∈fp,∀ o,s6.heap.get? b=some o->s7.heap.get? b=some o:=fun b hb o e=>(I7.pin (b,o) (DN _ (DN _ (Lc hb e)))).1;have st7:tn (i+1) s7.heap:=T.keep _ _ _ st6 e7;refine hQ2 s7 v H6 ?_ y6 st7 fr6;have I8:=I7.iD;exact I8.pinned (stat fr6) (T.obj _ _ st7)
     have e:letOwnedTupleGo (.Name x px) (.ref it) u=pure ():=rfl;rw[e,pure_bind] at z;exact z
    refine C6 (asg _ fun s6 v H6 I6 y6 st6 fr6=>?_) (fun _ _ q=>q) fun _ _ e=>e.elim;have keepI:∀ {H7:Hp}{s7:Shared}{σ7:St},gv (Dd X s2 H2 fp sc cl (x :: ys)) ([]++Ib fp s6.heap) σ7 H7 s7->tn (i+1) s7.heap/\∀ b∈fp,H7 b=none:=fun {H7 s7 σ7} I7=>
     ⟨T.keep _ _ _ st6 fun b hb o e=>(I7.pin (b,o) (DN _ (DN _ (Lc hb e)))).1,fun b hb=>by
      obtain⟨o,e,d⟩:=T.obj _ _ st6 b hb;exact(I7.pin (b,o) (DN _ (DN _ (Lc hb e)))).2.1⟩
    refine C6 (ht s2 H2 fp _ s6 _ H6 _ (fun _ _=>False) rfl I6 (step v H6 y6)) (fun b s7 hz=>?_) fun _ _ e=>e.elim;obtain⟨H7,I7,q7⟩:=hz;cases b with
    | false=>
     rw[if_neg BX] at q7 ⊢;obtain⟨m',hm,w7⟩:=q7;obtain⟨st7,fr7⟩:=keepI I7;exact⟨m',hm,i+1,some v,zs,H7,I7.iD,st7,fr7,w7⟩
    | true=>
     rw[if_pos rfl] at q7 ⊢;refine C6 (he s2 H2 fp _ s7 _ H7 _ I7 q7) (fun y s8 hz=>?_) fun _ _ (e:False)=>e.elim;obtain⟨yv,H8,I8,r8,hD8,hz8,m',hm,w8⟩:=hz;refine C6 (DM (X:=Dd X s2 H2 fp sc cl (x :: ys)) _ s8 _ H8 (.ref s1.heap.objs.size) [yv] (.ref s1.heap.objs.size) [y] (fun v H9=>H9=Ab H8 s1.heap.objs.size (.lst (zs++[yv]))) I8 rfl (.cons r8 .nil) ⟨_,zs,yv,U,U,hD8,hz8,U⟩)
      (fun _ s9=>Bl fun _ H9 I9 _ e9=>?_) fun _ _ (e:False)=>e.elim
     subst e9;obtain⟨st9,fr9⟩:=keepI I9;exact⟨m',hm,i+1,some v,zs++[yv],_,I9.iD,st9,fr9,w8⟩
 have self3:tn 0 s3.heap:=T.keep _ _ _ st2 fun b hb o e=>by rw[es3];exact k23 b o e
 exact codeAny_compStart_list loop (T.self X.A 0 _ _ _ self3 loop)
theorem JK {X:Cx}{ys:List Str}{wi:TI}(ok:Rf X x ys js sc cl)(hi:PI X (.Name x px) iter wi)
 (ht:∀ s₂ H₂ fp,KN (Dd X s₂ H₂ fp sc cl (x :: ys)) ifs tt)(he:∀ s₂ H₂ fp,PE (Dd X s₂ H₂ fp sc cl (x :: ys)) elt te)(hs:∀ x,foldedSetIterable iter X.env x=pure x:=by intro _;rfl) :
 PE X (.ListComp elt [⟨.Name x px,iter,ifs,0⟩] sc pos) (P2 wi js tt te):=by
 intro aa s σ H Q I h;rw[eval_ListComp];refine Uz (use:=none) ok hi ht he I h (fun D C H' s' I' q fc ⟨m,hn⟩=>⟨m,hn,fun h' hs'=>?_⟩) hs;obtain⟨f0,f1,f2,f3,f4,f5⟩:=fc;exact⟨.ref D,H',I'.turned (t':=s'.toks) (fun b o hb e=>(hs'.2 b hb).trans e) f0 f1 f3 f4 f5,U,q⟩
theorem GP {X:Cx}{z:Str}{pz:Pos}{iz:Nat}{ys:List Str}{spos:Pos}{wi:TI}(ok:Rf X x ys js sc cl)(hi:PI X (.Name x px) iter wi)
 (ht:∀ s₂ H₂ fp,KN (Dd X s₂ H₂ fp sc cl (x :: ys)) ifs tt)(he:∀ s₂ H₂ fp,PE (Dd X s₂ H₂ fp sc cl (x :: ys)) elt te)
 (hN:X.N.Nodup)(hiz:X.N[iz]? = some z)(hz:GQ X.env.scope z)(hf:X.fn z=true\/X.env.scope.names.lookup z=some .local)
 (hsw:swapsWith (.ListComp elt [⟨.Name x px,iter,ifs,0⟩] sc pos) (some (.Name z pz)) spos.line X.env=pure true)(hs:∀ x,foldedSetIterable iter X.env x=pure x:=by intro _;rfl) :
 PS X (.Assign [.Name z pz] (.ListComp elt [⟨.Name x px,iter,ifs,0⟩] sc pos) spos) (HY (P2 wi js tt te) (AZ iz)):=by
 intro aa s σ H D I h;rw[exec_Assign_Name_used _ _ _ _ hsw];refine Am (wpAny_standAt (Am ?_));show wpAny _ X.A (do let _ <- comprehension (.ListComp elt [⟨.Name x px,iter,ifs,0⟩] sc pos) sc X.env _ (newList []) false (eval iter X.env) (some (assign (.Name z pz) X.env))) _ _ s;refine Am (C6 (Uz (use:=some (assign (.Name z pz) X.env)) (QQ:=fun _ s'=>SP X aa D .next s') ok hi ht he I h (fun d C H' s' I' q fc ⟨m,hn⟩=>?_) hs) (fun _ s' hq=>AY (AY hq)) fun _ _ e=>e);obtain⟨f0,f1,f2,f3,f4,f5⟩:=fc;show wpAny _ _ (assign (.Name z pz) X.env (.ref d)) _ _ s';refine Qy (Vf I' hN hiz hz (v:=.ref d) rfl (fun s2 I2 hz=>?_) hf);obtain⟨a,hsb,ha⟩:=hz;have hCa:C≠a:=by
  rcases ha with rfl | ha
  . exact f1
  . exact fun e=>f4 z a ha e.symm
 refine⟨m,hn.sameBut hsb hCa,fun h' hs'=>⟨_,H',I2.turned (t':=s2.toks) (fun b o hb e=>(hs'.2 b hb).trans e) f0 f1 f3 f4 f5,q⟩⟩
inductive Tm where
 | int (i:Int) | str (x:Str) | nd (m:Str) (a b:Tm)
noncomputable def Tm.dep:Tm->Nat
 | .nd _ a b=>max a.dep b.dep+1
 | _=>0
inductive Sl where
 | plain | turned | num (d:Addr)
noncomputable def Sl.d:Sl->Option Addr
 | .num d=>some d
 | _=>none
def AE (S:Sl)(H:Hp):Tm->V->Prop
 | .int i,v=>v = .int i
 | .str x,v=>v = .str x
 | .nd m a b,v=>match S with
  | .plain=>∃ p va vb,v = .ref p/\H p=some (.tup [.str m,va,vb])/\AE S H a va/\AE S H b vb
  | .turned=>∃ p va vb,v = .ref p/\H p=some (.tup [.str "seal of",vb,va,.str m])/\AE S H a va/\AE S H b vb
  | .num d=>∃ kvs ka kb n,H d=some (.dT kvs)/\AE S H a (kV ka)/\AE S H b (kV kb)/\AX kvs [.inr m,ka,kb]=some (.int n)/\v = .int n
abbrev Bs (S:Sl)(H:Hp):List Tm->List V->Prop:=Paired (AE S H)
noncomputable def T7:HO->Bool
 | .tup _=>true
 | .frz _ _=>true
 | .rng _ _=>true
 | _=>false
def iH (l:List (List Al×V)):Prop:=∀ (j:Nat) p,l[j]? = some p->p.2=V.int (j:Nat)
theorem iH.nil:iH []:=fun j p h=>by simp at h
theorem iH.snoc (x:iH l)(k:List Al):iH (l++[(k,V.int l.length)]):=fun j p h=>by
 by_cases hj:j<l.length
 . rw[O6 hj] at h;exact x j p h
 . rw[KY om] at h;have e:j - l.length=0:=by
    cases q:j - l.length with
    | zero=>rfl
    | succ m=>rw[q] at h;simp at h
   rw[e] at h;simp at h;rw[<- h,show j=l.length by exact om]
theorem Ql {k:List Al}(h:AX l k=some v):∃ (j:Nat)(p:List Al×V),l[j]? = some p/\p.1=k/\p.2=v:=by
 induction l with
 | nil=>cases h
 | cons p r ih=>
  by_cases e:p.1=k
  . rw[ER e] at h;exact⟨0,p,U,e,Option.some.inj h⟩
  . rw[EW e] at h;obtain⟨j,q,e1,e2,e3⟩:=ih h;exact⟨j+1,q,by simpa using e1,e2,e3⟩
theorem iH.val (x:iH l){k:List Al}(h:AX l k=some v):∃ i,v=V.int i:=by
 obtain⟨j,p,e1,_,e3⟩:=Ql h;exact⟨_,e3.symm.trans (x j p e1)⟩
theorem iH.inj (x:iH l){k k':List Al}(h:AX l k=some v)(h':AX l k'=some v):k=k':=by
 obtain⟨j,p,e1,e2,e3⟩:=Ql h;obtain⟨j',p',e1',e2',e3'⟩:=Ql h';have a:=x j p e1;have a':=x j' p' e1';rw[e3] at a;rw[e3',a] at a';have e:j=j':=by injection a' with a';exact om
 subst e;rw[e1] at e1';cases e1';rw[<- e2,<- e2']
structure Gn (S:Sl)(n:Nat)(H H':Hp):Prop where
 keep:∀ b o,H b=some o->T7 o=true->H' b=some o
 told:∀ d,S.d=some d->∃ kvs more,H d=some (.dT kvs)/\H' d=some (.dT (kvs++more))/\more.length<=n/\(iH kvs->iH (kvs++more))
structure Gr (S:Sl)(n:Nat)(H H':Hp):Prop where
 gn:Gn S n H H'
 all:∀ b o,H b=some o->S.d≠some b->H' b=some o
def C3 (S:Sl)(H:Hp):Prop:=∀ d,S.d=some d->∃ kvs,H d=some (.dT kvs)
theorem Gn.gu (g:Gn S n H H'):C3 S H':=fun d e=>by obtain⟨kvs,more,_,h,_,_⟩:=g.told d e;exact⟨_,h⟩
theorem Gn.refl (t:C3 S H):Gn S 0 H H:=⟨fun _ _ h _=>h,fun d e=>by obtain⟨kvs,h⟩:=t d e;exact⟨kvs,[],h,by simpa using h,Ay _,fun z=>by simpa using z⟩⟩
theorem Gr.refl (t:C3 S H):Gr S 0 H H:=⟨.refl t,fun _ _ h _=>h⟩
theorem Gn.trans {a b:Nat}(g:Gn S a H H1)(g2:Gn S b H1 H2):Gn S (a+b) H H2:=
 ⟨fun c o h i=>g2.keep c o (g.keep c o h i) i,fun d e=>by
  obtain⟨kvs,more,h1,h2,h3,h4⟩:=g.told d e;obtain⟨kvs',more',h1',h2',h3',h4'⟩:=g2.told d e;rw[h2] at h1';cases h1';exact⟨kvs,more++more',h1,by rw[h2',JO],by rw[Cf];exact om,fun z=>by rw[<- JO];exact h4' (h4 z)⟩⟩
theorem Gr.trans {a b:Nat}(g:Gr S a H H1)(g2:Gr S b H1 H2):Gr S (a+b) H H2:=⟨g.gn.trans g2.gn,fun c o h n=>g2.all c o (g.all c o h n) n⟩
theorem Gn.up {a b:Nat}(g:Gn S a H H1)(h:a<=b):Gn S b H H1:=⟨g.keep,fun d e=>by obtain⟨k,m,h1,h2,h3,h4⟩:=g.told d e;exact⟨k,m,h1,h2,Bu h3 h,h4⟩⟩
theorem Gr.up {a b:Nat}(g:Gr S a H H1)(h:a<=b):Gr S b H H1:=⟨g.gn.up h,g.all⟩
theorem Gr.new {p:Addr}(t:C3 S H)(h:H p=none):Gr S 0 H (Ab H p o):=
 ⟨⟨fun b u q _=>by rw[Af (Aq q h)];exact q,fun d e=>by
  obtain⟨kvs,q⟩:=t d e;exact⟨kvs,[],q,by rw[Af (Aq q h)];simpa using q,Ay _,fun z=>by simpa using z⟩⟩,fun b u q _=>by rw[Af (Aq q h)];exact q⟩
theorem Gn.chg {p:Addr}{o':HO}(t:C3 S H)(h:H p=some o)(hi:T7 o=false)(hd:∀ kvs,o≠.dT kvs):Gn S 0 H (Ab H p o'):=
 ⟨fun b u q i=>by
  rw[Af (by rintro rfl;rw[h] at q;cases q;rw[hi] at i;cases i)];exact q,fun d e=>by
  obtain⟨kvs,q⟩:=t d e;exact⟨kvs,[],q,by rw[Af (by rintro rfl;rw[h] at q;exact hd _ (Option.some.inj q))];simpa using q,Ay _,fun z=>by simpa using z⟩⟩
theorem Gr.own {p:Addr}(g:Gr S n H H')(h:H p=none):Gr S n H (Ab H' p o):=
 ⟨⟨fun b u q i=>by rw[Af (Aq q h)];exact g.gn.keep b u q i,fun d e=>by
  obtain⟨kvs,more,h1,h2,h3,h4⟩:=g.gn.told d e;exact⟨kvs,more,h1,by rw[Af (Aq h1 h)];exact h2,h3,h4⟩⟩,fun b u q hd=>by rw[Af (Aq q h)];exact g.all b u q hd⟩
theorem Gr.free (g:Gr S n H H'){p:Addr}(h:H' p=none):H p=none:=by
 cases q:H p with
 | none=>rfl
 | some o=>
  by_cases hd:S.d=some p
  . obtain⟨kvs,more,h1,h2,_,_⟩:=g.gn.told p hd;rw[h2] at h;cases h
  . rw[g.all p o q hd] at h;cases h
theorem Gr.lst (g:Gr S n H H'){p:Addr}{xs:List V}(h:H p=some (.lst xs)):H' p=some (.lst xs):=g.all p _ h fun e=>by
 obtain⟨kvs,more,h1,_,_,_⟩:=g.gn.told p e;rw[h] at h1;cases h1
theorem Gr.same (g:Gr S n H H'){p:Addr}(h:H p=some o)(hd:∀ kvs,o≠.dT kvs:=by exact fun _ e=>nomatch e):H' p=some o:=g.all p _ h fun e=>by
 obtain⟨kvs,more,h1,_,_,_⟩:=g.gn.told p e;rw[h] at h1;exact hd _ (Option.some.inj h1)
theorem Gr.sq (g:Gr S n H H'){K:W.Frag}{p:Addr}{xs:List V}(h:gy K H p xs):gy K H' p xs:=by
 rcases h with(h | ⟨o,h⟩) | h
 . exact .inl (.inl (g.lst h))
 . exact .inl (.inr ⟨o,g.same h (fun _ e=>nomatch e)⟩)
 . exact .inr h
theorem fX {κ:Type} [DecidableEq κ] {kvs more:List (κ×V)}{k:κ}{v:V}(h:AX kvs k=some v):AX (kvs++more) k=some v:=by
 induction kvs with
 | nil=>cases h
 | cons p r ih=>
  rw[PV];by_cases e:p.1=k
  . rw[ER e] at h ⊢;exact h
  . rw[EW e] at h ⊢;exact ih h
theorem AO {S:Sl}{n:Nat}{H H':Hp}(g:Gn S n H H'):∀ {t:Tm}{v:V},AE S H t v->AE S H' t v
 | .int _,_,h=>h
 | .str _,_,h=>h
 | .nd m a b,v,h=>by
  cases S with
  | plain=>obtain⟨p,va,vb,e,hp,ha,hb⟩:=h;exact⟨p,va,vb,e,g.keep _ _ hp rfl,AO g ha,AO g hb⟩
  | turned=>obtain⟨p,va,vb,e,hp,ha,hb⟩:=h;exact⟨p,va,vb,e,g.keep _ _ hp rfl,AO g ha,AO g hb⟩
  | num d=>
   obtain⟨kvs,ka,kb,n,hd,ha,hb,hv,e⟩:=h;obtain⟨kvs',more,h1,h2,_,_⟩:=g.told d rfl;rw[hd] at h1;cases h1;exact⟨_,ka,kb,n,h2,AO g ha,AO g hb,fX hv,e⟩
theorem Paired.je {α β:Type}{F G:α->β->Prop}(f:∀ a b,F a b->G a b):∀ {l₁:List α}{l₂:List β},Paired F l₁ l₂->Paired G l₁ l₂
 | _,_,.nil=>.nil
 | _,_,.cons r t=>.cons (f _ _ r) (Paired.je f t)
theorem AQ (g:Gn S n H H')(h:Bs S H ts vs):Bs S H' ts vs:=Paired.je (fun _ _ q=>AO g q) h
theorem Bq {α β:Type}{F:α->β->Prop}:∀ {l₁:List α}{l₂:List β},Paired F l₁ l₂->l₁.length=l₂.length
 | _,_,.nil=>rfl
 | _,_,.cons _ t=>by simp[Bq t]
theorem EI {α β:Type}{F:α->β->Prop}:∀ {l₁:List α}{l₂:List β}(n:Nat),Paired F l₁ l₂->Paired F (l₁.take n) (l₂.take n)
 | _,_,0,_=>.nil
 | _,_,_+1,.nil=>.nil
 | _,_,n+1,.cons r t=>.cons r (EI n t)
theorem FH {α β:Type}{F:α->β->Prop}:∀ {l₁:List α}{l₂:List β}(n:Nat),Paired F l₁ l₂->Paired F (l₁.drop n) (l₂.drop n)
 | _,_,0,r=>r
 | _,_,_+1,.nil=>.nil
 | _,_,n+1,.cons _ t=>FH n t
theorem Dy {α β:Type}{F:α->β->Prop}:∀ {l₁ l₂:List α}{m₁ m₂:List β},Paired F l₁ m₁->Paired F l₂ m₂->Paired F (l₁++l₂) (m₁++m₂)
 | _,_,_,_,.nil,s=>s
 | _,_,_,_,.cons r t,s=>.cons r (Dy t s)
theorem NU {α β:Type}{F:α->β->Prop}:∀ {l₁:List α}{l₂:List β}{i:Nat}{a:α}{b:β},Paired F l₁ l₂->l₁[i]? = some a->l₂[i]? = some b->F a b
 | _,_,0,_,_,.cons r _,h1,h2=>by simp at h1 h2;subst h1 h2;exact r
 | _,_,i+1,_,_,.cons _ t,h1,h2=>NU (i:=i) t (by simpa using h1) (by simpa using h2)
theorem JP {α β:Type}{F:α->β->Prop}:∀ {l₁:List α}{l₂:List β}{i:Nat}{b:β},Paired F l₁ l₂->l₂[i]? = some b->∃ a,l₁[i]? = some a/\F a b
 | _,_,0,_,.cons r _,h2=>by simp at h2;subst h2;exact⟨_,U,r⟩
 | _,_,i+1,_,.cons _ t,h2=>by
  obtain⟨a,h1,h3⟩:=JP (i:=i) t (by simpa using h2);exact⟨a,by simpa using h1,h3⟩
theorem Qp {d:Addr}{H:Hp}:∀ {t:Tm}{v v':V},AE (.num d) H t v->AE (.num d) H t v'->v=v'
 | .int _,_,_,h,h'=>(show _=_ from h).trans (show _=_ from h').symm
 | .str _,_,_,h,h'=>(show _=_ from h).trans (show _=_ from h').symm
 | .nd m a b,v,v',h,h'=>by
  obtain⟨kvs,ka,kb,n,hd,ha,hb,hv,e⟩:=h;obtain⟨kvs',ka',kb',n',hd',ha',hb',hv',e'⟩:=h';rw[hd] at hd';cases hd';have e1:=UE (Qp ha ha');have e2:=UE (Qp hb hb');subst e1 e2;rw[hv] at hv';cases hv';rw[e,e']
theorem Nz {d:Addr}{H:Hp}:∀ {t:Tm}{v:V},AE (.num d) H t v->∃ k,v=kV k
 | .int i,_,h=>⟨.inl i,h⟩
 | .str x,_,h=>⟨.inr x,h⟩
 | .nd m a b,v,h=>by
  obtain⟨kvs,ka,kb,n,hd,ha,hb,hv,e⟩:=h;exact⟨.inl n,e⟩
theorem U4 (k:Al):CD (kV k)=true:=by cases k <;> rfl
def iJ (S:Sl)(H:Hp)(n:Nat):Prop:=∀ d kvs,S.d=some d->H d=some (.dT kvs)->kvs.length+n<=10000000
theorem iJ.dn {a b:Nat}(c:iJ S H a)(h:b<=a):iJ S H b:=fun d kvs e q=>Bu (GX h _) (c d kvs e q)
theorem iJ.go {a b:Nat}(c:iJ S H n)(g:Gn S a H H')(h:a+b<=n):iJ S H' b:=fun d kvs e q=>by
 obtain⟨k,m,h1,h2,h3,_⟩:=g.told d e;rw[h2] at q;cases q;have:=c d k e h1;rw[Cf];exact om
noncomputable abbrev AM:Tm:=.nd "none" (.int 0) (.int 0)
noncomputable abbrev AJ:Tm->Tm->Tm:=.nd "pair"
noncomputable abbrev DC:List Tm->Tm:=Gb.topT AM AJ
noncomputable abbrev CG:List Tm->Nat->List Tm:=Gb.pathT AM AJ
theorem LV:∀ (n:Nat)(ts:List Tm)(B:Nat),ts.length<=n->(∀ t∈ts,t.dep<=B)->(DC ts).dep<=B+n+1
 | n,[],B,_,_=>by show(Gb.topT AM AJ []).dep<=_;rw[Gb.topT_nil];simp[Tm.dep]
 | n,[t],B,_,h=>by show(Gb.topT AM AJ [t]).dep<=_;rw[Gb.topT_one];have:=h t (by simp);exact om
 | 0,a :: b :: r,B,hl,_=>by simp at hl
 | n+1,a :: b :: r,B,hl,h=>by
  generalize hts:a :: b :: r=ts at hl h ⊢;have h2:2<=ts.length:=by rw[<- hts];simp
  have e:=Gb.topT_more AM AJ h2;have x1:=Gb.spl_lt h2;have x2:=Gb.spl_pos ts.length;show(Gb.topT AM AJ ts).dep<=_;rw[e];have i1:=LV n (ts.take (Gb.spl ts.length)) B (by simp;exact om) fun t ht=>h t (Rb ht);have i2:=LV n (ts.drop (Gb.spl ts.length)) B (by simp;exact om) fun t ht=>h t (JW ht);show max _ _+1<=_;have i1':(Gb.topT AM AJ (ts.take (Gb.spl ts.length))).dep<=B+n+1:=i1;have i2':(Gb.topT AM AJ (ts.drop (Gb.spl ts.length))).dep<=B+n+1:=i2;exact om
def gp (K:W.Frag)(mg:gj)(x:Str)(st:Stmt):Prop:=∃ f fd,mg x=some (.ref f)/\kz K x x st f fd
theorem Z2 {K:W.Frag}{mg:gj}(X:K.In h)(G:h.Ns mainGlobals mg){kV ct:Value}
 (a:W.nsIn K mainGlobals x=some (some (.ref f)))(l:K.lookup f=some ⟨oc,od,.func (W.fnOf x x (CU st) (By st) (Ah st) .none kV doc pm an ad ct),osl⟩)
 (c:PySem.W.codeIn K ad x=true)(k:W.keepIn K (.ref f)=true):gp K mg x st:=⟨f,_,E2 X G a,Vr l c k⟩
def hU (P:Program)(w:World)(K:W.Frag)(mg:gj)(base:Heap)(k:Nat)(x:Str)(ps:List Str)(sp:Sp):Prop:=
 ∃ f fd,mg x=some (.ref f)/\W.keepIn K (.ref f)=true/\iq K fd ps []/\iC P w K mg base Bh k f fd ps sp/\∃ oc od sl,K.lookup f=some ⟨oc,od,.func fd,sl⟩
theorem hU.mono {k:Nat}{ps:List Str}(F:hU P w K mg base j x ps sp)(h:j<=k):hU P w K mg base k x ps sp:=by
 obtain⟨f,fd,h1,h2,h3,h4,h5⟩:=F;exact⟨f,fd,h1,h2,h3,h4.mono h,h5⟩
theorem gp.ok {ps:List Str}{k:Nat}(F:gp K mg x st)(S:AA N ps (Ah st))
 (hb:∀ (kV doc pm:Value)(an:Option Addr)(ad ct:Value)(us:List Value),us.length=ps.length->bindArgs (W.fnOf x x (CU st) (By st) (Ah st) .none kV doc pm an ad ct) ⟨us,[]⟩=pure (ps.zip us))
 (len:∀ vs H Q E,sp vs H Q E->vs.length=ps.length)
 (ag:∀ (f:Addr)(ad:Value)(A:Around)(outer:List Env)(s:Shared)(H:Hp)(vs:List V)(Q:VK)(E:XK),ic k (A.deeper (envOfC x (Ah st) s.heap.objs.size f ad))->sp vs H Q E->
  ∃ t,i0 (BU Bh P w K mg base N x (Ah st) f ad A outer s H E).jN (By st) t/\t { nx:=fun _ H'=>Q .non H',rt:=Q } (DJ N vs) H):hU P w K mg base (k+1) x ps sp:=by
 obtain⟨f,fd,h1,F⟩:=F;refine⟨f,fd,h1,F.kp,F.binds hb,F.ok S len fun ad A outer s H vs Q E=>ag f ad A outer s H vs Q E,?_⟩;obtain⟨oc,od,kV,doc,pm,an,ad,ct,osl,rfl,lk,hcd⟩:=F.ex;exact⟨_,_,_,lk⟩
section
variable {X:Cx}{k:Nat}{ps:List Str}{p:Pos}{t:TA}
theorem Io (F:hU X.prog X.w X.K X.mg X.base k x ps sp)(hr:ic k X.A)(hg:Gl X x)(ha:PA X (e :: es) t)(hdb:DT x:=by decide)
 (he:Ef X e es:=by rfl)(hpl:DU X es pos:=by rfl):PE X (.Call (.Name x p) (e :: es) [] pos) (Hs sp [] E0 t):=by
 obtain⟨f,fd,h1,h2,h3,h4,_⟩:=F;exact dO h4 hr hg h1 h2 h3 .nil BD ha hdb he hpl
theorem Ai (F:hU X.prog X.w X.K X.mg X.base k x ps sp)(hr:ic k X.A)(ha:PA X (e :: es) t)(hg:Gl X x:=by rfl)(hdb:DT x:=by decide)(he:Ef X e es:=by rfl)(hpl:DU X es pos:=by rfl):PE X (.Call (.Name x p) (e :: es) [] pos) (Hs sp [] E0 t):=Io F hr hg ha hdb he hpl
theorem cS (F:hU X.prog X.w X.K X.mg X.base k x ps sp)(hr:ic k X.A)(hg:Gl X x)(hdb:DT x:=by decide):PE X (.Call (.Name x p) [] [] pos) (Hs sp [] E0 D7):=by
 obtain⟨f,fd,h1,h2,h3,h4,_⟩:=F;exact gE h4 hr hg h1 h2 h3 .nil BD hdb
end
theorem Dn {X:Cx}{T:String}(hg:Gl X x)(hm:X.mg x=none)(hv:bootBuiltins x=some (.type T))(hn:x≠"__name__":=by decide)(hd:(x == ("__debug__" : Str))=false:=by decide):PE X (.Name x pos) (tC (.ty T)):=
 XL (v:=.ty T) hg hm hv rfl hn hd
def gx (K:W.Frag)(mg:gj)(st:Stmt)(S:Sl)(H:Hp)(f:Addr):Prop:=match S with
 | .plain=>mg "_law_plain" = some (.ref f)/\∃ oc od fd sl,K.lookup f=some ⟨oc,od,.func fd,sl⟩
 | .turned=>mg "_law_turned" = some (.ref f)/\∃ oc od fd sl,K.lookup f=some ⟨oc,od,.func fd,sl⟩
 | .num d=>∃ (c c':Addr) (doc pm ct:Value) (ob co:Obj) (cvs:Array Value) (tk:Tok) (kvs:List (List Al×V)),
  H f=some (.frz (PySem.W.fnMade "_law_numbered" "_law_numbering.<locals>._law_numbered" (CU st) (By st) (Ah st) [("_law_told",c)] doc pm c' ct) (.own 0))/\
  H c'=some (.frz ob (.own 0))/\ob.data = .fields cvs/\cvs[1]? = some (.str "_law_numbering.<locals>._law_numbered" tk)/\H c=some (.frz co (.own 0))/\co.data = .cell (some (.ref d))/\H d=some (.dT kvs)/\iH kvs
section
variable {K:W.Frag}{mg:gj}
theorem gx.told (h:gx K mg st S H f):C3 S H:=fun d e=>by
 cases S with
 | plain=>cases e
 | turned=>cases e
 | num d'=>
  obtain rfl:d'=d:=Option.some.inj e;obtain⟨c,c',doc,pm,ct,ob,co,cvs,tk,kvs,_,_,_,_,_,_,h,_⟩:=h;exact⟨kvs,h⟩
theorem gx.up (h:gx K mg st S H f)(g:Gn S n H H'):gx K mg st S H' f:=by
 cases S with
 | plain=>exact h
 | turned=>exact h
 | num d=>
  obtain⟨c,c',doc,pm,ct,ob,co,cvs,tk,kvs,h1,h2,h3,h4,h5,h6,h7,h8⟩:=h;obtain⟨k,m,e1,e2,_,e4⟩:=g.told d rfl;rw[h7] at e1;cases e1;exact⟨c,c',doc,pm,ct,ob,co,cvs,tk,_,g.keep _ _ h1 rfl,g.keep _ _ h2 rfl,h3,h4,g.keep _ _ h5 rfl,h6,e2,e4 h8⟩
theorem gx.iK (h:gx K mg st S H f):NW K H f:=by
 cases S with
 | plain=>exact .inl h.2
 | turned=>exact .inl h.2
 | num d=>
  obtain⟨c,c',doc,pm,ct,ob,co,cvs,tk,kvs,h1,_⟩:=h;exact .inr ⟨_,_,_,_,_,h1⟩
end
def DK (K:W.Frag)(mg:gj)(st:Stmt):Addr->Sp:=fun f vs H Q _=>∃ S m t1 t2 v1 v2,gx K mg st S H f/\iJ S H 1/\vs=[.str m,v1,v2]/\AE S H t1 v1/\AE S H t2 v2/\
 ∀ v H',Gr S 1 H H'->AE S H' (.nd m t1 t2) v->Q v H'
def Ve:Sp:=fun vs H Q _=>∃ m v1 v2,vs=[.str m,v1,v2]/\∀ p,H p=none->Q (.ref p) (Ab H p (.tup [.str m,v1,v2]))
def VU:Sp:=fun vs H Q _=>∃ m v1 v2,vs=[.str m,v1,v2]/\∀ p,H p=none->Q (.ref p) (Ab H p (.tup [.str "seal of",v2,v1,.str m]))
def Jk (mg:gj)(h:Heap):Prop:=∃ bm ob,mg "__builtins__" = some (.ref bm)/\bm≠builtinsNs/\h.get? bm=some ob/\ob.cls = .type "module"/\ob.dict=some builtinsNs/\ob.data = .plain
theorem bj {P:Program}{w:World}{K:W.Frag}{mg mb:gj}{k:Nat}{s₁:Shared}{vs:List Value}{ns:List Int}
 (KX:K.In s₁.heap)(hns:s₁.heap.Ns mainGlobals mg)(hb:s₁.heap.Ns builtinsNs mb)(hbb:∀ x:Str,x≠"__name__"->mb x=bootBuiltins x)(hlim:s₁.heap.NoLimit)(hg:s₁.gens = #[])
 (ha:s₁.heap.get? a=some { cls:=.type "list",data:=.seq vs.toArray })(hi:IntsAre vs ns)(hl:ns.length<=sizeLine)(hr:ic k callerA)
 (hC:PySem.W.CodeHd s₁.heap c0 Pt)(hT:s₁.heap.get? Pt=some (PySem.W.tabObj #[]))(hnt:PySem.W.noTabs K=true)(hbm:Jk mg s₁.heap)
 (F:∀ base:Heap,K.In base->base.Ns mainGlobals mg->PySem.W.CodeHd base c0 Pt->Jk mg base->iC P w K mg base Bh k fa fd [x] sp)(hbind:∀ (s:Shared)(u:Value),BindsTo s fd ⟨[u],[]⟩ [(x,u)])
 (hsp:∀ H:Hp,gy K H a (ns.map V.int)->ND K H a (ns.map V.int)->H Pt=some (.iZ #[])->sp [.ref a] H (fun v _=>v = .bl true) fun _ _ _=>False) :
 codeAny (model P w) callerA (.call (.ref fa) ⟨[.ref a],[]⟩) (fun r s'=>r = .ok (.ret (.bool true))/\OldK s₁.heap s'.heap/\s'.os=s₁.os/\AllBare s'.gens) s₁:=by
 have rv:=SX hi;have lenV:=hi.length;have hKP:K.lookup Pt=none:=by
  cases q:K.lookup Pt with
  | none=>rfl
  | some o=>
   have e:=KX _ _ q;rw[hT] at e;cases e;have h2:=List.all_eq_true.mp hnt (Pt,PySem.W.tabObj #[]) (PySem.W.mem_of_lookupK q);exact absurd (show false=true from h2) BX
 have haP:a≠Pt:=by rintro rfl;rw[hT] at ha;cases ha
 have core:∀ H:Hp,gy K H a (ns.map V.int)->ND K H a (ns.map V.int)->H Pt=some (.iZ #[])->iQ P w H s₁.heap->(∀ b,H b≠none->b=Pt\/(b=a/\K.lookup a=none/\∃ o xs,H b=some (.frz o (.lst xs))))->
  codeAny (model P w) callerA (.call (.ref fa) ⟨[.ref a],[]⟩) (fun r s'=>r = .ok (.ret (.bool true))/\OldK s₁.heap s'.heap/\s'.os=s₁.os/\AllBare s'.gens) s₁:=by
  intro H hS hScr hP hW hA;have base_of:∀ {b:Addr}{o:Obj},s₁.heap.get? b=some o->H b=none->(EQ s₁.heap H).get? b=some o:=fun e n=>Xi e n;have noT:∀ {b:Addr}{o:Obj},s₁.heap.get? b=some o->o.cls≠.none->o.cls≠.type "list"->H b=none:=fun {b o} e d1 d2=>by
   cases q:H b with
   | none=>rfl
   | some u=>
    rcases hA b (by rw[q];simp) with z | ⟨z,_⟩
    . subst z;rw[hT] at e;cases e;exact absurd rfl d1
    . subst z;rw[ha] at e;cases e;exact absurd rfl d2
  have noA:∀ {b:Addr}{o:Obj}{es:Array DictEntry}{ep:Nat},s₁.heap.get? b=some o->o.data = .dict es ep->H b=none:=fun {b o es ep} e d=>by
   cases q:H b with
   | none=>rfl
   | some u=>
    rcases hA b (by rw[q];simp) with z | ⟨z,_⟩
    . subst z;rw[hT] at e;cases e;cases d
    . subst z;rw[ha] at e;cases e;have d':Data.seq vs.toArray _=Data.dict es ep:=d;cases d'
  have nsK:∀ {b:Addr}{m:gj},s₁.heap.Ns b m->(EQ s₁.heap H).Ns b m:=fun {b m} ⟨o,es,ep,e,d,r⟩=>⟨o,es,ep,base_of e (noA e d),d,r⟩
  have hKb:K.In (EQ s₁.heap H):=fun b o e=>base_of (KX b o e) (by
   cases q:H b with
   | none=>rfl
   | some u=>
    rcases hA b (by rw[q];simp) with z | ⟨z,z2,_⟩
    . subst z;rw[hKP] at e;cases e
    . subst z;rw[z2] at e;cases e)
  have hCb:PySem.W.CodeHd (EQ s₁.heap H) c0 Pt:=by
   obtain⟨o,vs',file,tf,flags,tg,inF,text,tt,e1,r1,r⟩:=hC;exact⟨o,vs',file,tf,flags,tg,inF,text,tt,base_of e1 (noT e1 (by rw[r1];nofun) (by rw[r1];decide)),r1,r⟩
  have hBb:Jk mg (EQ s₁.heap H):=by
   obtain⟨bm,ob,b1,b2,b3,b4,r⟩:=hbm;exact⟨bm,ob,b1,b2,base_of b3 (noT b3 (by rw[b4];nofun) (by rw[b4];decide)),b4,r⟩
  have hM:Mod K mg (EQ s₁.heap H):=⟨hKb,nsK hns,⟨mb,nsK hb,hbb⟩,let ⟨mc,h1,h2⟩:=hlim;⟨mc,nsK h1,h2⟩⟩
  have e0:ju P w K mg (EQ s₁.heap H) callerA [] s₁ H:=⟨U,hM,fun b o e=>Ww e,Nat.le_of_eq (ZC _ _),trivial,fun b hb=>absurd (show b∈([]:List Addr) from hb) (by simp),hW,.of_eq hg⟩
  refine codeAny_mono ((F _ hKb (nsK hns) hCb hBb).run callerA [] s₁ H ⟨[.ref a],[]⟩ [.ref a] [.ref a] _ _ hr e0 (hbind s₁ (.ref a)) (.cons rfl .nil) (hsp H hS hScr hP)) fun r s' h=>?_;cases r with
  | error e=>exact(show False from h).elim
  | ok fl=>
   cases fl with
   | next=>exact False.elim h
   | brk=>exact False.elim h
   | cont=>exact False.elim h
   | ret u=>
    obtain⟨v,H',os,bare,un,hok',r',q⟩:=h;have q':v = .bl true:=q;subst q';obtain rfl:u=Value.bool true:=r';have kp:∀ b o,s₁.heap.get? b=some o->b≠Pt->s'.heap.get? b=some o:=fun b o e hbP=>by
     cases q:H b with
     | none=>exact un.keep b o e q (by intro z;exact absurd (show b∈([]:List Addr) from z) (by simp)) (by simp)
     | some u=>
      rcases hA b (by rw[q];simp) with z | ⟨z,_,ob,xs,z2⟩
      . exact absurd z hbP
      . have z3:=un.iX b ob _ z2;obtain⟨e1,_⟩:=hW b _ z2;obtain⟨e2,_⟩:=hok' b _ z3;rw[e] at e1;cases e1;exact e2
    obtain⟨more,hm⟩:=un.ji Pt #[] hP;have hP':s'.heap.get? Pt=some (PySem.W.tabObj (#[]++more)):=hok' _ _ hm;refine⟨U,⟨fun b o e=>?_,fun b o e=>?_⟩,os,bare⟩
    . by_cases hbP:b=Pt
      . subst hbP;rw[hT] at e;cases e;exact .inr (.inl ⟨(hC.tab hT).isCodeTable,U,#[],more,U,hP'⟩)
      . exact .inl (kp b o e hbP)
    . by_cases hbP:b=Pt
      . subst hbP;exact⟨_,hP'⟩
      . exact⟨o,kp b o e hbP⟩
 cases hk:K.lookup a with
 | some o=>
  have e:=KX a o hk;rw[ha] at e;cases e
  refine core (fun b=>if b=Pt then some (.iZ #[]) else none) (.inr ⟨_,vs.toArray,_,hk,U,U,U,by rw[BE,lenV];exact hl,by simpa using rv⟩)
   ⟨vs,_,rv,by rw[AS];exact hl,.inr hk⟩ (if_pos rfl) (fun b u z=>?_) (fun b z=>?_)
  . by_cases hb:b=Pt
    . have z':=(if_pos hb).symm.trans z;cases z';subst hb;exact hT
    . have z':=(if_neg hb).symm.trans z;cases z'
  . by_cases hb:b=Pt
    . exact .inl hb
    . exact absurd (if_neg hb) z
 | none=>
  have eH:(fun b=>if b=Pt then some (.iZ #[]) else if b=a then some (.frz { cls:=.type "list",data:=.seq vs.toArray } (.lst (ns.map V.int))) else none:Hp) a=some (.frz { cls:=.type "list",data:=.seq vs.toArray } (.lst (ns.map V.int))):=by
   show(if a=Pt then _ else if a=a then _ else _)=_;rw[if_neg haP,if_pos rfl]
  refine core (fun b=>if b=Pt then some (.iZ #[]) else if b=a then some (.frz { cls:=.type "list",data:=.seq vs.toArray } (.lst (ns.map V.int))) else none) (.inl (.inr ⟨{ cls:=.type "list",data:=.seq vs.toArray },eH⟩))
   ⟨vs,_,rv,by rw[AS];exact hl,.inl ⟨_,eH⟩⟩ (if_pos rfl) (fun b u z=>?_) (fun b z=>?_)
  . by_cases hb:b=Pt
    . have z':=(if_pos hb).symm.trans z;cases z';subst hb;exact hT
    . have z1:=(if_neg hb).symm.trans z;by_cases hb2:b=a
      . have z2:=(if_pos hb2).symm.trans z1;cases z2
        subst hb2;exact⟨ha,by rw[AS];exact hl,vs,_,rv,ha⟩
      . have z2:=(if_neg hb2).symm.trans z1;cases z2
  . by_cases hb:b=Pt
    . exact .inl hb
    . by_cases hb2:b=a
      . exact .inr ⟨hb2,hk,_,_,by rw[if_neg hb,if_pos hb2]⟩
      . exact absurd (by rw[if_neg hb,if_neg hb2]) z
theorem X6 {l:PySem.W.OpenLaw}{k:Nat}{q:Program}{loose:List Str}{XP:(Str->Option Value)->Heap->Prop}{YP:World->Heap->Prop}{d dt:DefRec}{K:Params->W.Frag}{sp:W.Frag->(Str->Option Value)->Addr->Sp}{xn:Str}
 (hn:l.most=some n)(hn2:n<=sizeLine)(hdf:d.params.defaults=[])(hr:ic k callerA)
 (hY:∀ (w:World)(h:Heap),YP w h->(K w.params).In h)(hrec:(recsOf q).find? (fun e=>e.name == xn)=some dt)
 (ht:∀ w:World,PySem.W.tabIn (K w.params) xn=some (c0,Pt))(hnt:∀ w:World,PySem.W.noTabs (K w.params)=true)
 (F:∀ (w:World)(mg:gj)(fa:Addr)(h:Heap),(K w.params).In h->h.Ns mainGlobals mg->mg d.name=some (.ref fa)->PySem.W.tabIn (K w.params) xn=some (c0,Pt)->
  ∃ fd:FuncData,(∀ (s:Shared) (u:Value),BindsTo s fd ⟨[u],[]⟩ [(x,u)])/\
   ∀ base:Heap,(K w.params).In base->base.Ns mainGlobals mg->PySem.W.CodeHd base c0 Pt->Jk mg base->iC l.prog w (K w.params) mg base Bh k fa fd [x] (sp (K w.params) mg Pt))
 (hsp:∀ (K:W.Frag)(mg:gj)(Pt:Addr)(H:Hp)(a:Addr)(ns:List Int),ns.length<=n->gy K H a (ns.map V.int)->ND K H a (ns.map V.int)->H Pt=some (.iZ #[])->sp K mg Pt [.ref a] H (fun v _=>v = .bl true) fun _ _ _=>False) :
 PySem.W.WalkO q loose XP YP l.row.toRowW d [] (fun f vs=>PySem.call f vs):=by
 refine Att.attach_call hn hdf fun w s₀ s₁ mg mb fa o pm cd doc a vs ns G Y ho hd hcd hmg hobj hints ah hg=>?_;have KX:=hY w _ Y;obtain⟨fd,hb,hF⟩:=F w mg fa _ KX G.T.g hmg (ht w);obtain⟨hC,hT⟩:=PySem.W.tab_of G.T KX hrec (ht w);exact bj KX G.T.g G.T.b G.T.builtins G.T.nolimit hg hobj hints (Bu ah hn2) hr hC hT (hnt w) G.T.bmain hF hb fun H hS hScr hP=>hsp _ mg _ H a ns ah hS hScr hP
theorem ZU {k:Nat}{ps:List Str}(hmg:mg name=some (.ref fa))(F:gp K mg name st)
 (h:∀ base:Heap,K.In base->base.Ns mainGlobals mg->PySem.W.CodeHd base c0 Pt->Jk mg base->hU P w K mg base k name ps sp)
 (hps:ps=[x]:=by rfl)(hbind:∀ (kV doc pm:Value)(an:Option Addr)(ad ct u:Value),bindArgs (W.fnOf name name (CU st) (By st) (Ah st) .none kV doc pm an ad ct) ⟨[u],[]⟩=pure [(x,u)]:=by intros;rfl) :
 ∃ fd:FuncData,(∀ (s:Shared) (u:Value),BindsTo s fd ⟨[u],[]⟩ [(x,u)])/\∀ base:Heap,K.In base->base.Ns mainGlobals mg->PySem.W.CodeHd base c0 Pt->Jk mg base->iC P w K mg base Bh k fa fd [x] sp:=by
 subst hps;obtain⟨f,fd,h1,F⟩:=F;have e:=hmg.symm.trans h1;cases e
 obtain⟨oc,od,kV,doc,pm,an,ad,ct,osl,rfl,lk,hcd⟩:=F.ex;refine⟨_,fun s u=>.of_eq (hbind kV doc pm an ad ct u),fun base kb nb hC hB=>?_⟩;obtain⟨f',fd',h1',h2',h3',h4',oc2,od2,Cd,lk2⟩:=h base kb nb hC hB;have e:=h1.symm.trans h1';cases e
 rw[lk] at lk2;cases lk2
 exact h4'
theorem Za {K:W.Frag}{c P:Addr}{o1:Value}{o2:Option Addr}{s2:Array (Option Value)}{vs:Array Value}(a:W.nsIn K mainGlobals x=some (some (.ref f)))(l:K.lookup f=some ⟨oc,od,.func fd,sl⟩)(hc:fd.code = .ref c)
 (lc:K.lookup c=some ⟨o1,o2,.fields vs,s2⟩)(v:vs[11]? = some (.ref P)):PySem.W.tabIn K x=some (c,P):=by
 unfold PySem.W.tabIn;rw[a];dsimp only;rw[l];dsimp only;rw[hc];dsimp only;rw[lc];dsimp only;rw[v]
theorem RI {X:Cx}{CX:Dw}{k:Nat}{sp:Addr->Sp}{E:XK}{p:Pos}{t:TA}(K:W.Frag)(hK:X.K=K)(F:CV X.prog X.w X.K X.mg X.base CX k sp)(hr:ic k X.A)(hx:ED CX X E)(hN:X.N[i]? = some x)(hv:Kr X.env.scope x)(ha:PA X (e :: es) t)
 (hdb:DT x:=by decide)(hcd:(x == ("__classdict__" : Str))=false:=by decide)
 (he:Ef X e es:=by rfl)(hpl:DU X es pos:=by rfl) :
 PE X (.Call (.Name x p) (e :: es) [] pos) (R7 K i sp E t):=by subst hK;exact C2 F hr hx hN hv ha hdb hcd he hpl
theorem gi {X:Cx}(K:W.Frag)(hK:X.K=K):J0 X (V6 K):=by subst hK;exact FE
def UC (n:Int):R2:=fun x y H Q=>∃ p xs v,x = .ref p/\y = .int n/\H p=some (.tup xs)/\BF xs n=some v/\Q v H
theorem aK {X:Cx}{n:Int}:J0 X (UC n):=by
 intro value slice aa s σ H x y v u Q I rx ry h hs;obtain⟨p,xs,z,e1,e2,hp,he,q⟩:=h;exact FE value slice aa s σ H x y v u Q I rx ry ⟨p,xs,n,z,e1,e2,.inl (.inl hp),he,q⟩ hs
theorem As {X:Cx}{a:Expr}{ta:TE}{n:Int}{j} {p pos:Pos}(h:PE X a ta):PE X (.Subscript a (.Constant (.int n) j p) pos) (Im (UC n) ta (tC (.int n))):=Bw aK h Ac (fun _ _=>rfl)
noncomputable def Le (K:W.Frag) (a:Addr) (n:Nat):It:=
 ⟨fun i H=>i<n/\∃ xs,gy K H a xs/\xs.length=n,fun i H x H'=>H'=H/\∀ xs,gy K H a xs->xs[n - 1 - i]? = some x,fun i _=>i=n⟩
theorem XJ {P:Program}{w:World}{K:W.Frag}(a it:Addr)(n:Nat):GZ P w K tg (Le K a n) [it] it (fun i h=>h.IsRevIter it a ((n:Int) - 1 - (i:Nat))) where
 mem:=by simp
 obj:=fun i h st b hb=>by
  have e:b=it:=by simpa using hb
  subst e;obtain⟨o,e,c,d⟩:=st;exact⟨o,e,fun v z=>by rw[d] at z;cases z⟩
 keep:=fun i h h' st k=>st.at fun o e=>k it (by simp) o e
 item:=by
  intro X hP hw hK hc i aa s σ H E I hf st hg;subst hP hw hK;obtain⟨hi,xs,hq,hn⟩:=hg;obtain⟨its,rv,p,hz⟩:=I.list hq;have hl:=rv.length;have hx:xs[n - 1 - i]? = some (xs[n - 1 - i]'om):=Bc om;obtain⟨u,hu,ru⟩:=rv.get hx;obtain⟨f0,f1,f2,f3,f4,f5⟩:=hf it (by simp);have st:s.heap.IsRevIter it a ((n:Int) - 1 - (i:Nat)):=st;rw[show(n:Int) - 1 - (i:Nat)=((n - 1 - i:Nat):Int) by exact om] at st;refine wpAny_pyNext_rev_item st p.isList (x:=u) (by simpa using hu) fun h' st' sb=>?_;have I1:gv X aa σ H { s with heap:=h' }:=I.turned (t':=s.toks) (fun b o hb e=>(sb.2 b hb).trans e) f0 f1 f3 f4 f5;obtain⟨o,e,c,d⟩:=id st';rw[show((n - 1 - i:Nat):Int) - 1=(n:Int) - 1 - ((i+1:Nat):Int) by exact om] at st';exact⟨u,U,JG (s:={ s with heap:=h' }) e c d (by decide) ⟨_,H,I1,ru,⟨U,fun ys hy=>by rw[I.iV hy hq];exact hx⟩,st',fun b hb=>(hf b hb).1⟩⟩
 done:=by
  intro X hP hw hK hc i aa s σ H E I hf st hg;subst hP hw hK;obtain⟨f0,f1,f2,f3,f4,f5⟩:=hf it (by simp);have hg:i=n:=hg;have st:s.heap.IsRevIter it a ((n:Int) - 1 - (i:Nat)):=st;rw[show(n:Int) - 1 - (i:Nat) = -1 by exact om] at st;exact wpAny_pyNext_rev_end (I.ok.hd hc) st fun h' eb=>⟨U,I.turned (t':=s.toks) (fun b o hb e=>eb b o hb e) f0 f1 f3 f4 f5⟩
 self:=fun _ _ _ _ _ st h=>Rn st h
def Zr (K:W.Frag)(ta:TA):TI:=fun σ H R=>ta σ H fun vs H1=>∃ a xs,vs=[.ref a]/\gy K H1 a xs/\R (Le K a xs.length) H1
theorem fZ {X:Cx}{a:Expr}{ta:TA}{p:Pos}(hg:Gl X "reversed")(hm:X.mg "reversed" = none)(ha:PA X [a] ta)(hs:starEach [a] X.env=[(false,eval a X.env)]:=by rfl):PI X tg (.Call (.Name "reversed" p) [a] [] pos) (Zr X.K ta):=by
 intro aa s σ H R I h;refine Call_ (GC I hg hm boot_reversed (IT (Av (ha pos aa s σ H _ I h) fun us s1=>Bl fun vs H1 I1 r1 q1=>?_) hs rfl));obtain⟨l,xs,e,hq,q⟩:=q1;subst e;cases r1 with
 | cons r rr=>
  cases rr
  cases r
  obtain⟨its,rv,pl,hz⟩:=I1.list hq;have hl:=rv.length;refine call_reversed_list pl.isList ?_;have e1:((its.toArray.size:Nat):Int) - 1=(xs.length:Int) - 1 - ((0:Nat):Int):=by simp;exact om
  have I2:gv X aa σ H1 { s1 with heap:=s1.heap.push (revObj l ((its.toArray.size:Int) - 1)) }:=I1.kept (t':=s1.toks) fun b o e=>Bb _ e;have st:(s1.heap.push (revObj l ((its.toArray.size:Int) - 1))).IsRevIter s1.heap.objs.size l ((xs.length:Int) - 1 - ((0:Nat):Int)):=by
   rw[<- e1];exact⟨_,Cn _ rfl,U,U⟩
  refine Rn (s:={ s1 with heap:=s1.heap.push (revObj l ((its.toArray.size:Int) - 1)) }) st ?_;refine⟨s1.heap.objs.size,[s1.heap.objs.size],_,_,H1,U,I2,XJ l s1.heap.objs.size xs.length,st,fun b hb=>?_,q⟩;have e:b=s1.heap.objs.size:=by simpa using hb
  subst e;exact I1.jv (Ay _) (I1.hW.fresh (Ay _))
theorem aM {K:W.Frag}{xs:List V}(Pv:Nat->St->Hp->Prop)(h0:Pv 0 σ H)(hl:∀ i σ H,i<=xs.length->Pv i σ H->gy K H a xs)
 (hs:∀ i x σ H,i<xs.length->xs[xs.length - 1 - i]? = some x->Pv i σ H->g x σ H fun σ2 H2=>tb { D with nx:=Pv (i+1),ct:=Pv (i+1),bk:=D.nx } σ2 H2)(hd:∀ σ H,Pv xs.length σ H->D.nx σ H) :
 ∃ W:Nat->Nat->St->Hp->Prop,(∃ m,W 0 m σ H)/\∀ i m σ H,W i m σ H->
  ((Le K a xs.length).stop i H/\D.nx σ H)\/((Le K a xs.length).go i H/\∃ N:St->Hp->Prop,(∀ σ' H',N σ' H'->∃ m',m'<m/\W (i+1) m' σ' H')/\∀ x H',(Le K a xs.length).jT i H x H'->g x σ H' fun σ2 H2=>tb { D with nx:=N,ct:=N,bk:=D.nx } σ2 H2):=by
 refine⟨fun i m σ H=>m=xs.length - i/\i<=xs.length/\Pv i σ H,⟨xs.length,by simp,Es _,h0⟩,?_⟩;rintro i m σ H ⟨rfl,hi,p⟩;have q:=hl i σ H hi p;by_cases hlt:i<xs.length
 . refine .inr ⟨⟨hlt,xs,q,U⟩,Pv (i+1),fun σ' H' p'=>⟨xs.length - (i+1),om,U,hlt,p'⟩,fun x H' y=>?_⟩;obtain⟨e,y⟩:=y;subst e;exact hs i x σ _ hlt (y xs q) p
 . have e:i=xs.length:=by exact om
   subst e;exact .inl ⟨U,hd σ H p⟩
def gq (K:W.Frag)(C:Addr)(m qual:Str)(st:Stmt):Prop:=∃ f fd,Gy K C m f/\kz K m qual st f fd
theorem Hm {K:W.Frag}{C:Addr}{m:Str}{kV ct:Value}(a:W.findIn K (.ref C) m=some (some (.ref f)))(i:PySem.W.isFn K (.ref f)=true)
 (l:K.lookup f=some ⟨oc,od,.func (W.fnOf m qual (CU st) (By st) (Ah st) .none kV doc pm an ad ct),osl⟩)(c:PySem.W.codeIn K ad qual=true)(k:W.keepIn K (.ref f)=true):gq K C m qual st:=⟨f,_,⟨a,i,k⟩,Vr l c k⟩
def AF (P:Program)(w:World)(K:W.Frag)(mg:gj)(base:Heap)(C:Addr)(k:Nat)(m:Str)(ps:List Str)(sp:Sp):Prop:=∃ f fd,Gy K C m f/\iq K fd ps []/\iC P w K mg base Bh k f fd ps sp
section
variable {C:Addr}
theorem gq.ok {m:Str}{ps:List Str}{k:Nat}(F:gq K C m qual st)(S:AA N ps (Ah st))
 (hb:∀ (kV doc pm:Value)(an:Option Addr)(ad ct:Value)(us:List Value),us.length=ps.length->bindArgs (W.fnOf m qual (CU st) (By st) (Ah st) .none kV doc pm an ad ct) ⟨us,[]⟩=pure (ps.zip us))
 (len:∀ vs H Q E,sp vs H Q E->vs.length=ps.length)
 (ag:∀ (f:Addr)(ad:Value)(A:Around)(outer:List Env)(s:Shared)(H:Hp)(vs:List V)(Q:VK)(E:XK),ic k (A.deeper (envOfC qual (Ah st) s.heap.objs.size f ad))->sp vs H Q E->
  ∃ t,i0 (BU Bh P w K mg base N qual (Ah st) f ad A outer s H E).jN (By st) t/\t { nx:=fun _ H'=>Q .non H',rt:=Q } (DJ N vs) H):AF P w K mg base C (k+1) m ps sp:=by
 obtain⟨f,fd,h1,F⟩:=F;exact⟨f,fd,h1,F.binds hb,F.ok S len fun ad A outer s H vs Q E=>ag f ad A outer s H vs Q E⟩
end
section
variable {X:Cx}{C:Addr}{k:Nat}{ps:List Str}{m:Str}{o:Expr}{t:TA}{ae:Pos}
theorem Ct {pl:Sem Bool}(F:AF X.prog X.w X.K X.mg X.base C k m ps sp)(he:PE X o ta)(c:jk X.K C)(hr:ic k X.A)(ha:PA X (e :: es) t)
 (hst:Ef X e es:=by rfl)(hpl:DU X es pos:=by rfl)
 (ht:NA X o m (e :: es) pl ae pos:=by rfl) :
 PE X (.Call (.Attribute o m ae) (e :: es) [] pos) (FR C m sp [] E0 ta t):=by
 obtain⟨f,fd,h1,h3,h4⟩:=F;exact Tq he c h1 h4 hr h3 .nil BD ha hst hpl ht
theorem Ky {pl:Sem Bool}(F:AF X.prog X.w X.K X.mg X.base C k m ps sp)(he:PE X o ta)(c:jk X.K C)(hr:ic k X.A)
 (ht:NA X o m [] pl ae pos:=by rfl) :
 PE X (.Call (.Attribute o m ae) [] [] pos) (FR C m sp [] E0 ta D7):=by
 obtain⟨f,fd,h1,h3,h4⟩:=F;exact fh he c h1 h4 hr h3 .nil BD ht
end
theorem im.there {P:Program}{w:World}(x:im P w H h a o):∃ ob,h.get? a=some ob:=by
 cases o with
 | lst xs=>obtain⟨_,_,_,_,e⟩:=x;exact⟨_,e⟩
 | tup xs=>obtain⟨_,_,_,o,e,_⟩:=x;exact⟨_,e⟩
 | dK kvs=>obtain⟨_,_,_,_,o,_,_,e,_⟩:=x;exact⟨_,e⟩
 | dT kvs=>obtain⟨_,_,_,_,o,_,_,e,_⟩:=x;exact⟨_,e⟩
 | set S n=>obtain⟨o,_,_,_,e,_⟩:=x;exact⟨_,e⟩
 | ins C dx fs=>obtain⟨_,_,_,e,_⟩:=x;exact⟨_,e⟩
 | own y=>exact x
 | xd fs=>obtain⟨_,⟨_,_,_,e,_⟩,_⟩:=x;exact⟨_,e⟩
 | rng lo hi=>obtain⟨_,_,_,e⟩:=x;exact⟨_,e⟩
 | frz ob u=>obtain⟨e,_⟩:=x;exact⟨_,e⟩
 | iZ ps=>exact⟨_,(show h.get? a=some _ from x)⟩
 | met f y=>exact⟨_,(show h.get? a=some _ from x)⟩
 | ext φ=>obtain⟨_,e,_⟩:=x;exact e
noncomputable def iy (K:W.Frag) (N:Addr):Bool:=PySem.W.nsOkIn K N && quietNames.all fun n=>W.nsIn K N n == some none
noncomputable def iR (K:W.Frag) (bmB:List Value):List Value->Bool
 | []=>bmB == []
 | v :: r=>(v :: r == bmB) || match v with
  | .ref A=>(match List.lookup A K with
   | some ⟨_,_,.cls cd,_⟩=>iy K cd.ns && iR K bmB r
   | _=>false)
  | _=>false
theorem iy.ns {K:W.Frag}{N:Addr}(X:K.In h)(q:iy K N=true):∃ mN,h.Ns N mN/\∀ n∈quietNames,mN n=none:=by
 have q:=Bool.and_eq_true_iff.mp q;have nsI:=Heap.Ns.of_isNs (PySem.W.isNs_of_in X q.1);refine⟨_,nsI,fun n hn=>?_⟩;have z:=List.all_eq_true.mp q.2 n hn;exact PySem.W.nsMap_none_of_in X q.1 (eq_of_beq z)
theorem iR.ok {K:W.Frag}{bmB:List Value}{h:Heap}(X:K.In h):∀ {l:List Value},iR K bmB l=true->OwnTailQ h bmB l
 | [],q=>by
  have e:bmB=[]:=eq_of_beq (show(bmB == [])=true from q);subst e;exact .base
 | v :: r,q=>by
  unfold iR at q;rcases Bool.or_eq_true_iff.mp q with q | q
  . have e:v :: r=bmB:=eq_of_beq q;subst e;exact .base
  . split at q
    . split at q
      . next A _ c0 dd cd sl lk=>
        have q:=Bool.and_eq_true_iff.mp q;obtain⟨mA,h1,h2⟩:=iy.ns X q.1;exact .own (X _ _ lk) h1 h2 (iR.ok X q.2)
      . cases q
    . cases q
structure Ei (K:W.Frag)(C:Addr):Prop where
 ex:∃ (nm q:Str) (N:Addr) (bs bm bmB:List Value) (hdct:Bool) (sn:List Str) (sub:List Value) (ab:Bool) (col:Option Bool) (dd:Option Addr) (k0 k1 k2 k3 k5:Option Value) (newId B nid initId Bn inN:String) (bmN:List Value),
  K.lookup C=some (excClassObj nm q C N bs bm hdct sn sub ab col dd k0 k1 k2 k3 k5 newId)/\iy K N=true/\iR K bmB bm=true/\bm.contains (Value.type "BaseException")=true/\
  ExcBaseFacts Bn newId inN bmN/\bmB.contains (Value.type Bn)=true/\ExcBaseFacts B nid initId bmB/\ExcAttrBase B bmB
 ga:W.findIn K (.ref C) "__getattribute__" = some (some (.builtin "BaseException.__getattribute__"))
 gn:W.findIn K (.ref C) "__getattr__" = some none
 fo:W.findIn K (.ref C) "__class__" = some (some (.builtin "object.__class__"))
 sp:PySem.W.specialIn K (.builtin "object.__class__") "__get__" = some (some (.builtin "getset_descriptor.__get__"))
 tk:PySem.W.takesIn K (.builtin "object.__class__")=some true
 mo:PySem.W.mroIn K C (.type "object")=some true
theorem aJ {K:W.Frag}{C:Addr}{nm q:Str}{N:Addr}{bs bm:List Value}{hdct:Bool}{sn:List Str}{sub:List Value}{ab:Bool}{col:Option Bool}{dd:Option Addr}{k0 k1 k2 k3 k5:Option Value}
 (a:K.lookup C=some (excClassObj nm q C N bs bm hdct sn sub ab col dd k0 k1 k2 k3 k5 "ValueError.__new__"))(b:iy K N=true)(c:iR K [Value.type "ValueError",Value.type "Exception",Value.type "BaseException",Value.type "object"] bm=true)
 (d:bm.contains (Value.type "BaseException")=true)(ga:W.findIn K (.ref C) "__getattribute__" = some (some (.builtin "BaseException.__getattribute__")))(gn:W.findIn K (.ref C) "__getattr__" = some none)
 (fo:W.findIn K (.ref C) "__class__" = some (some (.builtin "object.__class__")))(sp:PySem.W.specialIn K (.builtin "object.__class__") "__get__" = some (some (.builtin "getset_descriptor.__get__")))
 (tk:PySem.W.takesIn K (.builtin "object.__class__")=some true)(mo:PySem.W.mroIn K C (.type "object")=some true):Ei K C:=
 ⟨⟨nm,q,N,bs,bm,_,hdct,sn,sub,ab,col,dd,k0,k1,k2,k3,k5,_,_,_,_,_,_,_,a,b,c,d,F.excBase_ValueError,by decide,F.excBase_ValueError,F.attrBase_ValueError⟩,ga,gn,fo,sp,tk,mo⟩
structure dX (K:W.Frag)(C:Addr)(oe:Obj):Prop where
 x:Ei K C
 cls:oe.cls = .ref C
structure MC (P:Program)(w:World)(outer:List Env)(H H':Hp)(s:Shared)(C ea t:Addr)(B:Heap)(s':Shared):Prop where
 os:s'.os=s.os
 bare:AllBare s'.gens
 j1:B.FlyingW outer ea (.ref C) (.ref t) s'.heap
 un:Un (Bz outer) [] H H' s.heap s'.heap
 hW:iQ P w H' s'.heap
 old:∀ b o,s.heap.get? b=some o->H b=none->b∉Bz outer->B.get? b=some o
 trk:∀ b u,H' b=some u->b∉Bz outer/\∀ o,s'.heap.get? b=some o->B.get? b=some o
 all:∀ b o,s.heap.get? b=some o->b∈Bz outer\/∃ o',B.get? b=some o'
def LQ (P:Program)(w:World):Dw:=fun outer H s E e s'=>∃ ea t C B H',e = .ref ea/\MC P w outer H H' s C ea t B s'/\E (.ref C) none H'
theorem Uo {h b1 b2:Heap}:∀ {l:List Env},h.FunFrames b1 l->(∀ a∈Bz l,b2.get? a=none)->h.FunFrames b2 l
 | [],_,_=>trivial
 | env :: r,x,k=>by
  obtain⟨hk,⟨L,o,hf,hn,ho,hd⟩,hr⟩:=x;refine⟨hk,⟨L,o,hf,k L (by unfold Bz;rw[Lv,hf];exact CO),ho,hd⟩,Uo hr fun a ha=>k a ?_⟩;unfold Bz;rw[Lv,hf];exact CH _ ha
def Sr (X:Cx)(E:XK):Prop:=∀ (aa:List (Addr×Obj))(σ:St)(H:Hp)(s:Shared)(h':Heap)(e C:Addr)(vs:List Value),gv X aa σ H s->s.heap.MadeExcOf h' e (.ref C) vs->E (.ref C) none H->X.xe (.ref e) { s with heap:=h' }
theorem SA {E:XK} :
 Sr (BU (LQ P w) P w K mg base N qual scope f cd A outer s H E) E:=by
 intro aa σ H1 s1 h' e C vs I M q;have hfr:∀ b∈Bz (envOfC qual scope s.heap.objs.size f cd :: outer),H1 b=none:=I.jr;have hB:∀ {b o},s1.heap.get? b=some o->b∉Bz (envOfC qual scope s.heap.objs.size f cd :: outer)->(W.hideAll s1.heap (Bz (envOfC qual scope s.heap.objs.size f cd :: outer))).get? b=some o:=fun e n=>W.hideAll_get _ e n;have hsub:∀ b∈Bz outer,b∈Bz (envOfC qual scope s.heap.objs.size f cd :: outer):=fun b hb=>CH _ hb;have hnew:∀ b o,s.heap.get? b=some o->b∉Bz outer->b∉Bz (envOfC qual scope s.heap.objs.size f cd :: outer):=fun b o e n z=>by
  rcases List.mem_cons.mp (show b∈s.heap.objs.size :: Bz outer from z) with z | z
  . exact absurd (Bg e) (by rw[z];exact EZ _)
  . exact n z
 obtain⟨t0,me,mt⟩:=M.there;refine wpAny_leaves_madeW (base:=W.hideAll s1.heap (Bz (envOfC qual scope s.heap.objs.size f cd :: outer))) (h:=s1.heap) (outer:=outer) (L:=s.heap.objs.size) I.ok.frames rfl (fun b o z=>PySem.W.of_hideAll _ z)
  (Uo I.stack fun a ha=>W.hideAll_none _ ha) M fun h2 t j1 tup tn up=>?_
 have keepT:∀ b u,H1 b=some u->b∉Bz (envOfC qual scope s.heap.objs.size f cd :: outer):=fun b u e z=>by rw[hfr b z] at e;cases e
 have old:∀ b o,s.heap.get? b=some o->H b=none->b∉Bz outer->(W.hideAll s1.heap (Bz (envOfC qual scope s.heap.objs.size f cd :: outer))).get? b=some o:=fun b o e n nf=>
  hB (I.base.keep b o e n nf (fun z=>absurd (show b∈([]:List Addr) from z) (by simp))) (hnew b o e nf)
 have slot:∀ b o,s.heap.get? b=some o->b∈Bz outer->∃ sl,h2.get? b=some { o with slots:=sl }:=fun b o e hb=>by
  have hn:H b=none:=I.ok.j8 b hb;obtain⟨sl,e1⟩:=I.base.slot b o e hn hb (fun z=>absurd (show b∈([]:List Addr) from z) (by simp));obtain⟨_,o2,e2,d2⟩:=I.ok.iW.mem hb;have e2':s.heap.get? b=some o2:=e2;rw[e] at e2';cases e2';obtain⟨Cd,e3⟩:=up b _ (M.keeps _ _ e1) d2;exact⟨Cd,e3⟩
 have all:∀ b o,s.heap.get? b=some o->b∈Bz outer\/∃ o',(W.hideAll s1.heap (Bz (envOfC qual scope s.heap.objs.size f cd :: outer))).get? b=some o':=fun b o e=>by
  by_cases hb:b∈Bz outer
  . exact .inl hb
  . obtain⟨o',e1⟩:=I.base.there b o e (fun z=>absurd (show b∈([]:List Addr) from z) (by simp));exact .inr ⟨o',hB e1 (hnew b o e hb)⟩
 refine⟨e,t,C,_,H1,U,⟨I.os,I.bare,j1,⟨fun b o e n nf _=>j1.1 _ _ (old b o e n nf),fun b o e n hb _=>slot b o e hb,I.base.free,fun b o e _=>?_,I.base.jp,I.base.iX,I.base.ji⟩,fun a u z=>?_,old,fun b u z=>⟨fun y=>keepT b u z (hsub b y),fun o zo=>?_⟩,all⟩,q⟩
 . rcases all b o e with hb | ⟨o',z⟩
   . obtain⟨sl,z⟩:=slot b o e hb;exact⟨_,z⟩
   . exact⟨o',j1.1 _ _ z⟩
 . refine(I.hW a u z).jo (fun b v hb hv=>j1.1 _ _ (hB hv ?_)) (fun _ y=>y) fun _ _ y=>y;rcases hb with rfl | hb
   . exact keepT _ _ z
   . exact keepT _ _ hb
 . obtain⟨o',e1⟩:=(I.hW b u z).there;have e2:=hB e1 (keepT b u z);have e3:=j1.1 _ _ e2;rw[zo] at e3;cases e3;exact e2
def fw (C:Addr)(E:XK)(t:TA):TS:=fun D σ H=>t σ H fun vs H1=>vs.length<=sizeLine/\E (.ref C) none H1
section
variable {X:Cx}
theorem RQ {C:Addr}{E:XK}{t:TA}{af:Pos}(hx:Sr X E)(hr:X.A.handled=none)(xc:Ei X.K C)(hg:Gl X x)(hm:X.mg x=some (.ref C))(ha:PA X (e :: es) t)
 (hdb:DT x:=by decide)(he:Ef X e es:=by rfl)(hpl:DU X es af:=by rfl) :
 PS X (.Raise (some (.Call (.Name x np) (e :: es) [] af)) none pos) (fw C E t):=by
 intro aa s σ H D I h;obtain⟨nm,q,N,bs,bm,bmB,hdct,sn,sub,ab,col,dd,k0,k1,k2,k3,k5,newId,B,nid,initId,Bn,inN,bmN,lk,qn,tl,has,F1,F2,F3,F4⟩:=xc.ex;obtain⟨mN,hN,hq⟩:=iy.ns I.ok.mod.km qn;refine wpAny_Raise_call_subU (nm:=nm) (q:=q) (N:=N) (bs:=bs) (hdct:=hdct) (sn:=sn) (sub:=sub) (ab:=ab) (col:=col) (dd:=dd) (k0:=k0) (k1:=k1) (k2:=k2) (k3:=k3) (k5:=k5) F1 F2 F3 (mN:=mN) has hr ?_ (hq _ (by decide)) (Hc I hg hm ⟨U,?_⟩ hdb)
 . rw[he];simpa [backTo] using hpl
 obtain⟨x0,hb⟩:∃ x0,backTo af (starEach (e :: es) X.env)=(false,x0) :: backTo af (starEach es X.env):=by rw[he];exact⟨_,U⟩
 rw[hb];refine LK ?_;rw[<- hb];refine Av (ha af aa s σ H _ I h) fun us s1 hz=>?_;obtain⟨vs,H1,I1,r,hl,q1⟩:=hz;have X1:=I1.iY;exact⟨U,by show us.length<=_;rw[<- r.length];exact hl,X1 _ _ lk,hN.keeps I1.bk,(iR.ok X1 tl).tail,fun h' e' M=>hx aa σ H1 s1 h' e' C us I1 M q1⟩
end
section
variable {X:Cx}{C ea t:Addr}{B h2:Heap}
theorem gv.j1 (I:gv X aa σ H s)(F:MC X.prog X.w X.stack H H' s C ea t B s')(f2:B.StaysIn h2)(up:s'.heap.UpToSlots h2):gv X aa σ H' { s' with heap:=h2 }:=by
 have slot:∀ b o,s.heap.get? b=some o->H b=none->b∈Bz X.stack->∃ sl,h2.get? b=some { o with slots:=sl }:=fun b o e hn hb=>by
  obtain⟨sl,e1⟩:=F.un.slot b o e hn hb (by simp);obtain⟨_,o2,e2,d2⟩:=I.stack.mem hb;rw[e] at e2;cases e2;obtain⟨Cd,e3⟩:=up b _ e1 d2;exact⟨Cd,e3⟩
 refine I.jW (s':={ s' with heap:=h2 }) (ch:=[]) F.os ⟨fun b o e n nf _=>f2 _ _ (F.old b o e n nf),fun b o e n hb _=>slot b o e n hb,F.un.free,fun b o e _=>?_,F.un.jp,F.un.iX,F.un.ji⟩ (fun a u z=>?_) F.bare (fun b z=>absurd z (by simp))
 . rcases F.all b o e with hb | ⟨o',z⟩
   . obtain⟨sl,z⟩:=slot b o e (I.jr b hb) hb;exact⟨_,z⟩
   . exact⟨o',f2 _ _ z⟩
 . refine(F.hW a u z).jo (fun b v hb hv=>f2 _ _ ?_) (fun _ y=>y) fun _ _ y=>y;rcases hb with rfl | hb
   . exact(F.trk _ _ z).2 _ hv
   . exact(F.trk _ _ hb).2 _ hv
end
abbrev XR:=St->Addr->Hp->Prop
def XQ (X:Cx)(aa:List (Addr×Obj))(R:XR)(e:Value)(s':Shared):Prop:=
 ∃ ea t C B H H' σ s,e = .ref ea/\gv X aa σ H s/\MC X.prog X.w X.stack H H' s C ea t B s'/\R σ C H'
abbrev MX:=St->Hp->VK->(Addr->Hp->Prop)->Prop
abbrev Gg:=DE->XR->St->Hp->Prop
def R9 (X:Cx)(e:Expr)(t:MX):Prop:=
 ∀ (aa:List (Addr×Obj)) (s:Shared) (σ:St) (H:Hp) (Q:VK) (R:Addr->Hp->Prop),gv X aa σ H s->t σ H Q R->wpAny (model X.prog X.w) X.A (eval e X.env) (EP X aa σ Q) (XQ X aa fun σ' C H'=>σ'=σ/\R C H') s
def Sy (X:Cx)(st:Stmt)(t:Gg):Prop:=
 ∀ (aa:List (Addr×Obj)) (s:Shared) (σ:St) (H:Hp) (D:DE) (R:XR),gv X aa σ H s->t D R σ H->wpAny (model X.prog X.w) X.A (exec st X.env) (SP X aa D) (XQ X aa R) s
def Ln (X:Cx)(st:List Stmt)(t:Gg):Prop:=
 ∀ (aa:List (Addr×Obj)) (s:Shared) (σ:St) (H:Hp) (D:DE) (R:XR),gv X aa σ H s->t D R σ H->wpAny (model X.prog X.w) X.A (execs st X.env) (SP X aa D) (XQ X aa R) s
section
variable {X:Cx}{rest:List Stmt}
theorem Yl:Ln X [] (fun D _ σ H=>D.nx σ H):=fun _ _ σ H _ _ I h=>JB ⟨σ,H,I,h⟩
def aQ (t u:Gg):Gg:=fun D R σ H=>t { D with nx:=u D R } R σ H
theorem ba {t u:Gg}(h1:Sy X st t)(h2:Ln X rest u):Ln X (st :: rest) (aQ t u):=by
 intro aa s σ H D R I h;refine JA (Av (h1 aa s σ H { D with nx:=u D R } R I h) fun f s1 q=>?_);cases f with
 | next=>
  obtain⟨σ',H',I',q⟩:=q;exact h2 aa s1 σ' H' D R I' q
 | brk=>exact q
 | cont=>exact q
 | ret v=>exact q
def cM (sp:Sp)(t:TA):MX:=fun σ H Q R=>t σ H fun vs H1=>sp vs H1 Q (fun c _ H2=>∃ C,c = .ref C/\R C H2)
theorem ZI {Q:VK}{k:Nat}{ps:List Str}(F:iC X.prog X.w X.K X.mg X.base (LQ X.prog X.w) k f fd ps sp)(hr:ic k X.A)(hb:iq X.K fd ps [])
 (I:gv X aa σ H s)(r:hI vs us)(h:sp vs H Q (fun c _ H2=>∃ C,c = .ref C/\R C H2)):wpAny (model X.prog X.w) X.A (call (.ref f) us) (EP X aa σ Q) (XQ X aa fun σ' C H'=>σ'=σ/\R C H') s:=by
 have hl:us.length=ps.length:=by rw[<- r.length];exact F.len _ _ _ _ h
 have hb':BindsTo s fd ⟨us,[]⟩ (ps.zip us):=by
  have z:=hb s us I.iY (by simpa using hl)
  rwa [E8] at z
 refine FQ (codeAny_mono (F.run X.A X.stack s H ⟨us,[]⟩ us vs Q _ hr I.kj hb' r h) fun r s' hq=>?_);cases r with
 | error e=>
  obtain⟨ea,t,C,B,H',e1,F,C',e2,q⟩:=hq;cases e2
  exact⟨ea,t,C,B,H,H',σ,s,e1,I,F,U,q⟩
 | ok fl=>
  cases fl with
  | ret u=>exact I.after hq
  | next=>exact False.elim hq
  | brk=>exact False.elim hq
  | cont=>exact False.elim hq
def Nv (P:Program)(w:World)(K:W.Frag)(mg:gj)(base:Heap)(k:Nat)(x:Str)(ps:List Str)(sp:Sp):Prop:=
 ∃ f fd,mg x=some (.ref f)/\W.keepIn K (.ref f)=true/\iq K fd ps []/\iC P w K mg base (LQ P w) k f fd ps sp/\∃ oc od sl,K.lookup f=some ⟨oc,od,.func fd,sl⟩
theorem gp.okX {ps:List Str}{k:Nat}(F:gp K mg x st)(S:AA N ps (Ah st))
 (hb:∀ (kV doc pm:Value)(an:Option Addr)(ad ct:Value)(us:List Value),us.length=ps.length->bindArgs (W.fnOf x x (CU st) (By st) (Ah st) .none kV doc pm an ad ct) ⟨us,[]⟩=pure (ps.zip us))
 (len:∀ vs H Q E,sp vs H Q E->vs.length=ps.length)
 (ag:∀ (f:Addr)(ad:Value)(A:Around)(outer:List Env)(s:Shared)(H:Hp)(vs:List V)(Q:VK)(E:XK),ic k (A.deeper (envOfC x (Ah st) s.heap.objs.size f ad))->sp vs H Q E->
  ∃ t,i0 (BU (LQ P w) P w K mg base N x (Ah st) f ad A outer s H E) (By st) t/\t { nx:=fun _ H'=>Q .non H',rt:=Q } (DJ N vs) H):Nv P w K mg base (k+1) x ps sp:=by
 obtain⟨f,fd,h1,F⟩:=F;refine⟨f,fd,h1,F.kp,F.binds hb,?_,?_⟩
 . obtain⟨oc,od,kV,doc,pm,an,ad,ct,osl,rfl,lk,hcd⟩:=F.ex;exact NT lk hcd S len fun A outer s H vs Q E hr hsp=>ag f ad A outer s H vs Q E hr hsp
 . obtain⟨oc,od,kV,doc,pm,an,ad,ct,osl,rfl,lk,hcd⟩:=F.ex;exact⟨_,_,_,lk⟩
theorem bQ {k:Nat}{ps:List Str}{t:TA}{p:Pos}(F:Nv X.prog X.w X.K X.mg X.base k x ps sp)(hr:ic k X.A)(hg:Gl X x)(ha:PA X.jN (e :: es) t)(hdb:DT x:=by decide)
 (he:Ef X e es:=by rfl)(hpl:DU X es pos:=by rfl):R9 X (.Call (.Name x p) (e :: es) [] pos) (cM sp t):=by
 obtain⟨f,fd,h1,h2,h3,h4,_⟩:=F;intro aa s σ H Q R I h;refine HG (Hc I hg h1 ?_ hdb);refine Ov (h₀:=X.base) I.ok.mod.km h2 (C6 (ha pos aa s σ H _ (I.jn _) h) (fun us s1=>Bl fun vs H1 I1 r q=>⟨I1.iA.iY,?_⟩) fun _ _ z=>False.elim z) he hpl;exact ZI h4 hr h3 I1.iA r q
end
noncomputable abbrev Cx.hand (X:Cx) (e:Addr):Cx:={ X with A:=X.A.mark (some (.ref e)),calm:=false }
section
variable {X:Cx}{ea:Addr}
theorem Cx.Ok.hand (ok:X.Ok)(e:Addr):(X.hand e).Ok:=
 ⟨ok.mod,ok.kind,ok.glob,ok.blt,ok.above,ok.inj,ok.has,ok.kt,(fun z=>by cases z),ok.frames,ok.kI,ok.kS,ok.bs,ok.j5,ok.jP,ok.jU,ok.iW,ok.j8⟩
theorem gv.hand (I:gv X aa σ H s)(e:Addr):gv (X.hand e) aa σ H s:=⟨I.ok.hand e,I.os,I.bare,I.base,I.loc,I.cell,I.free,I.iF,I.pin,I.hW,I.len⟩
theorem gv.jH (ok:X.Ok)(I:gv (X.hand ea) aa σ H s):gv X aa σ H s:=⟨ok,I.os,I.bare,I.base,I.loc,I.cell,I.free,I.iF,I.pin,I.hW,I.len⟩
theorem gv.kF {o:Obj}(I:gv X aa σ H s)(ho:s.heap.get? a=some o)(h0:H a=none)(h1:a≠X.env.locals)(h4:∀ x c,X.env.cells.lookup x=some c->c≠a)(h5:∀ p∈X.pn++aa,p.1≠a)(hs:X.s₀.heap.get? a=none) :
 gv X aa σ (Ab H a (.frz o (.own 0))) s:=by
 refine⟨I.ok,I.os,I.bare,⟨I.base.keep,I.base.slot,fun b ob e n hx=>?_,I.base.there,fun b xs e=>?_,fun b ob u e=>?_,fun b ps e=>?_⟩,I.loc,I.cell,?_,fun x c e=>?_,fun p hp=>?_,?_,I.len⟩
 . have z:b≠a:=fun z=>by rw[z,hs] at e;cases e
   rw[Af z];exact I.base.free b ob e n hx
 . have q:=I.base.jp b xs e;rw[Af (Aq q h0)];exact q
 . have q:=I.base.iX b ob u e;rw[Af (Aq q h0)];exact q
 . obtain⟨more,q⟩:=I.base.ji b ps e;exact⟨more,by rw[Af (Aq q h0)];exact q⟩
 . rw[Af (Ne.symm h1)];exact I.free
 . rcases I.iF x c e with z | ⟨z1,ob,z⟩
   . left;rw[Af (h4 x c e)];exact z
   . right;exact⟨z1,ob,by rw[Af (h4 x c e)];exact z⟩
 . obtain⟨e,n,ne,nf,d⟩:=I.pin p hp;exact⟨e,by rw[Af (h5 p hp)];exact n,ne,nf,d⟩
 . exact I.hW.jj ho h0
end
theorem UpToSlots.trans {a b c:Heap}(x:a.UpToSlots b)(y:b.UpToSlots c):a.UpToSlots c:=fun p o e d=>by
 obtain⟨sl,e1⟩:=x p o e d;obtain⟨Cd,e2⟩:=y p _ e1 d;exact⟨Cd,e2⟩
section
variable {X:Cx}
theorem Zu {aa:List (Addr×Obj)}{σ0:St}{H0 H':Hp}{s0 s1:Shared}{C ea t:Addr}{B:Heap}{x:Str}{np hpos:Pos}{rest:List ExceptHandler}{name:Option Str}{suite:List Stmt}{Q:Flow->Shared->Prop}
 (hex:X.ex=[])(hst:X.stack=X.env :: X.outer/\X.env.frame=some X.env.locals)(xc:Ei X.K C)(hg:Gl X x)(hm:X.mg x=some (.ref C))(hdb:(x == ("__debug__" : Str))=false)
 (I0:gv X aa σ0 H0 s0)(F:MC X.prog X.w X.stack H0 H' s0 C ea t B s1)
 (h:∀ (s3:Shared),(∀ {Q':Unit->Shared->Prop}{E':gk},(∀ s4 oe,gv X aa σ0 H' s4->gv X aa σ0 (Ab H' ea (.frz oe (.own 0))) s4->H' ea=none->dX X.K C oe->Q' () s4)->wpAny (model X.prog X.w) (X.A.mark (some (.ref ea))) (setFlight (.ref ea) none) Q' E' s3)->
  codeAny (model X.prog X.w) (X.A.mark (some (.ref ea))) (.handlers (.ref ea) [.ExceptHandler none name suite hpos] X.env) (fun r s₂=>match r with
   | .ok f=>match name with
    | none=>Q f s₂
    | some n=>wpAny (model X.prog X.w) X.A (do bindName X.env n Value.none;unbindBehindTheSuite X.env n hpos) (fun _ s₃=>Q f s₃) X.xe s₂
   | .error x=>cameBackBy (model X.prog X.w) X.A X.env X.xe x s₂) s3) :
 wpAny (model X.prog X.w) X.A (noteFrame (.ref ea) X.env) (fun _ s₂=>wpAny (model X.prog X.w) X.A (setFlight (.ref ea) none) (fun _ s₃=>wpAny (model X.prog X.w) X.A (handleBy (.ref ea) X.env (.ExceptHandler (some (.Name x np)) name suite hpos :: rest)) Q X.xe s₃) X.xe s₂) X.xe s1:=by
 have hfl:B.FlyingW (X.env :: X.outer) ea (.ref C) (.ref t) s1.heap:=by rw[<- hst.1];exact F.j1
 refine wpAny_looks_onW (base:=B) (env:=X.env) (outer:=X.outer) (by rw[I0.ok.frames,hst.1]) hst.2 hfl fun h2 held up=>?_;refine wpAny_landsW (s:={ s1 with heap:=h2 }) held fun h3 fly3 up3=>?_;have up13:s1.heap.UpToSlots h3:=UpToSlots.trans up up3;have I3:gv X aa σ0 H' { s1 with heap:=h3 }:=I0.j1 F fly3.1 up13;obtain⟨st3,hne,ff3,tr3⟩:=id fly3;obtain⟨oe,vs,T,oT,ts,he,⟨hc,h0⟩,hd,_⟩:=id tr3;obtain⟨nm,q,N,bs,bm,bmB,hdct,sn,sub,ab,col,dd,k0,k1,k2,k3,k5,newId,B',nid,initId,Bn,inN,bmN,lk,qn,tl,has,F1,F2,F3,F4⟩:=xc.ex;refine wpAny_handleBy_cons (codeAny_handlers_test ?_) (by nofun);refine Hc (X:=X.hand ea) (I3.hand ea) hg hm ?_ hdb;refine wpAny_excMatches_sub_self (I3.iY _ _ lk) he hc has ?_;refine h { s1 with heap:=h3 } fun {Q' E'} k=>?_;refine wpAny_setFlight_noneW (s:={ s1 with heap:=h3 }) (base:=B) (l:=X.env :: X.outer) (fl:=.none) st3 ff3 tr3 fun h4 st4 ff4 tr4 k4=>?_;have up34:h3.UpToSlots h4:=fun b o e d=>⟨o.slots,k4 b o e d⟩
 have I4:gv X aa σ0 H' { s1 with heap:=h4 }:=I0.j1 F st4 (UpToSlots.trans up13 up34);obtain⟨oe4,vs4,T4,oT4,ts4,he4,⟨hc4,h04⟩,hd4,_⟩:=id tr4;have n0:H' ea=none:=by
  cases z:H' ea with
  | none=>rfl
  | some u=>
   obtain⟨_,y⟩:=F.trk ea u z;obtain⟨_,_,_,tr⟩:=F.j1;obtain⟨o1,_,_,_,_,e1,_⟩:=tr;have:=y _ e1;rw[F.j1.2.1] at this;cases this
 have nst:ea∉Bz X.stack:=fun z=>by
  obtain⟨_,o,e,d⟩:=I4.stack.mem z;have e':h4.get? ea=some o:=e;rw[he4] at e';cases e';exact d _ hd4
 have nall:s0.heap.get? ea=none:=by
  cases z:s0.heap.get? ea with
  | none=>rfl
  | some o=>
   rcases F.all ea o z with y | ⟨o',y⟩
   . exact absurd y nst
   . rw[F.j1.2.1] at y;cases y
 refine k _ oe4 I4 (I4.kF he4 n0 (fun z=>?_) (fun y c e z=>?_) (fun p hp z=>?_) ?_) n0 ⟨xc,hc4⟩
 . obtain⟨m,⟨o,es,ep,e,d,_⟩,_⟩:=I4.loc;have e':h4.get? X.env.locals=some o:=e;rw[<- z,he4] at e';cases e';rw[hd4] at d;cases d
 . obtain⟨v,o,e',d⟩:=I4.cell y c e;have e':h4.get? c=some o:=e';rw[z,he4] at e';cases e';rw[hd4] at d;cases d
 . obtain⟨e,_⟩:=I0.pin p hp;rw[z,nall] at e;cases e
 . cases z:X.s₀.heap.get? ea with
   | none=>rfl
   | some o=>
    obtain⟨o',e⟩:=I0.base.there ea o z (by rw[hex];simp);rw[nall] at e;cases e
def bZ (C:Addr)(tb:Gg)(th:TS):TS:=fun D σ H=>tb D (fun σ' C' H'=>C'=C/\th D σ' H') σ H
theorem SG {C:Addr}{suite:List Stmt}{b₀:Stmt}{tb:Gg}{th:TS}{hpos:Pos}(hex:X.ex=[])(hst:X.stack=X.env :: X.outer/\X.env.frame=some X.env.locals)
 (xc:Ei X.K C)(hg:Gl X x)(hm:X.mg x=some (.ref C))(hb:Ln X body tb)(hh:∀ e,i0 (X.hand e).jN (b₀ :: suite) th)(hdb:DT x:=by decide) :
 PS X (.Try body [.ExceptHandler (some (.Name x np)) none (b₀ :: suite) hpos] [] [] pos) (bZ C tb th):=by
 intro aa s σ H D I h;refine wpAny_Try_except (C6 (hb aa s σ H D _ I h) (fun f s1 q=>?_) fun e s1 q=>?_)
 . cases f with
   | next=>exact JB q
   | brk=>exact q
   | cont=>exact q
   | ret u=>exact q
 . obtain⟨ea,t,C',B,H0,H',σ',s0,rfl,I0,F,rfl,q⟩:=q;refine Zu hex hst xc hg hm hdb I0 F fun s3 k=>codeAny_handlers_suite (k fun s4 oe I4 I5 n0 ix=>?_);refine C6 (hh ea aa s4 _ _ D ((I4.hand ea).jn _) q) (fun f s7 q7=>?_) fun _ _ z=>z.elim;cases f with
   | next=>obtain⟨σ7,H7,I7,q⟩:=q7;exact⟨_,_,I7.iA.jH I0.ok,q⟩
   | brk=>obtain⟨σ7,H7,I7,q⟩:=q7;exact⟨_,_,I7.iA.jH I0.ok,q⟩
   | cont=>obtain⟨σ7,H7,I7,q⟩:=q7;exact⟨_,_,I7.iA.jH I0.ok,q⟩
   | ret u=>obtain⟨v,σ7,H7,I7,r,q⟩:=q7;exact⟨v,_,_,I7.iA.jH I0.ok,r,q⟩
end
theorem Yq {α:Type}{M:Model}{Q:α->Shared->Prop}(hh:A.handled=none)
 (h:∀ (h':Heap)(e:Addr),(∀ b o,s.heap.get? b=some o->h'.get? b=some o)->(∃ o,h'.get? e=some o/\o.cls = .type "StopIteration")->E (.ref e) { s with heap:=h' }) :
 wpAny M A (Builtin.SmallTypes.stopIteration:Sem α) Q E s:=by
 unfold Builtin.SmallTypes.stopIteration newExc;refine Am (Am (Ld ?_));rw[firstArgMember.eq_1];refine Am (Am (AY (AY ?_)));refine OQ ?_ (by show sizeOk (.fields _);unfold sizeOk;rw[show ownMembersOf (Value.type "StopIteration") [] = #[] by kernel_rfl];show(6:Nat)<=_;decide);refine wpAny_raiseNew_none hh (h _ _ (fun b o e=>Bb _ (Bb _ e)) ⟨_,Cn _ rfl,U⟩)
theorem Xb {prog:Program}{w:World}{l:Addr}{items:Array Value}{x:Value}
 (st:s.heap.IsRevIter it l i)(p:s.heap.IsList l items)(hx:items[i]? = some x)(h:∀ h':Heap,h'.IsRevIter it l ((i:Int) - 1)->Heap.SameBut it s.heap h'->Q x { s with heap:=h' }) :
 wpAny (model prog w) A (Builtin.SmallTypes.nextOf (.ref it)) Q E s:=by
 unfold Builtin.SmallTypes.nextOf;obtain⟨⟨oc,od,oda,osl⟩,e,c,d⟩:=id st;cases d
 refine Am (wpAny_callSpecial?_slot (T:="list_reverseiterator") ⟨_,e,c⟩ F.slot_lri_next ?_);refine FQ (codeAny_call_builtin F.slot_lri_next.plain F.entry_lri_next ?_);refine F.slot_lri_next.check _ _ _ _ _ _ _ _ ⟨_,e,c⟩ (F.args_lri_next_1 _) ?_;unfold Builtin.«list_reverseiterator.__next__»;refine Am (AY ?_);refine Am (EV e rfl rfl ?_);show wpAny _ _ (ite _ _ _) _ _ _;rw[if_neg om];refine Am (EV e rfl rfl ?_);obtain⟨ol,el,cl,nl,dl⟩:=id p;refine Am (IK el dl ?_);dsimp only;rw[show items[(i:Int).toNat]? = some x from hx];refine Am (wpAny_setField e rfl (by simp) ?_);refine AY ?_;refine AY ?_;have gs:=Ng (h:=s.heap) (Obj.mapFields fun y=>y.setIfInBounds 1 (rawInt ((i:Int) - 1))) e rfl;exact h _ ⟨_,gs,c,U⟩ (Heap.SameBut.update _ _ _)
theorem W8 {prog:Program}{w:World}{l:Addr}(hh:A.handled=none)
 (st:s.heap.IsRevIter it l (-1))(h:∀ (h':Heap)(e:Addr),(∀ b o,s.heap.get? b=some o->h'.get? b=some o)->(∃ o,h'.get? e=some o/\o.cls = .type "StopIteration")->E (.ref e) { s with heap:=h' }) :
 wpAny (model prog w) A (Builtin.SmallTypes.nextOf (.ref it)) Q E s:=by
 unfold Builtin.SmallTypes.nextOf;obtain⟨⟨oc,od,oda,osl⟩,e,c,d⟩:=id st;cases d
 refine Am (wpAny_callSpecial?_slot (T:="list_reverseiterator") ⟨_,e,c⟩ F.slot_lri_next ?_);refine FQ (codeAny_call_builtin F.slot_lri_next.plain F.entry_lri_next ?_);refine F.slot_lri_next.check _ _ _ _ _ _ _ _ ⟨_,e,c⟩ (F.args_lri_next_1 _) ?_;unfold Builtin.«list_reverseiterator.__next__»;refine Am (AY ?_);refine Am (EV e rfl rfl ?_);show wpAny _ _ (ite _ _ _) _ _ _;rw[if_pos (by decide)];refine Am (wpAny_rule ?_);refine Am (Yq hh fun h' e' k x=>?_);exact h h' e' k x
structure iS (h:Heap)(z TI TO i1 i2 l1 l2:Addr)(k1:Int)(k2:Nat)(f0:Value):Prop where
 z:IsZip h z TI TO f0
 ti:IsPair h TI (.ref i1) (.ref i2)
 to:∃ a b,IsPair h TO a b
 r:h.IsRevIter i1 l1 k1
 l:h.IsListIter i2 l2 k2
theorem X2 {prog:Program}{w:World}{TI TO:Addr}{k1 k2:Nat}{xs ys:Array Value}{x y:Value}{Q:Option Value->Shared->Prop}
 (ap:ZipApart z TI TO i1 i2 l1 l2)(st:iS s.heap z TI TO i1 i2 l1 l2 k1 k2 .none)(p1:s.heap.IsList l1 xs)(p2:s.heap.IsList l2 ys)(hx:xs[k1]? = some x)(hy:ys[k2]? = some y)
 (h:∀ h':Heap,iS h' z TI TO i1 i2 l1 l2 ((k1:Int) - 1) (k2+1) (rawInt s.heap.objs.size)->IsPair h' s.heap.objs.size x y->(∀ c o,c≠z->c≠TO->c≠i1->c≠i2->s.heap.get? c=some o->h'.get? c=some o)->Q (some (.ref s.heap.objs.size)) { s with heap:=h' }) :
 wpAny (model prog w) A (pyNext (.ref z)) Q E s:=by
 obtain⟨hz,hti,⟨a,b,hto⟩,hr,hl⟩:=st;unfold pyNext;refine Am (wpAny_attempt (wpAny_callSpecial?_slot (T:="zip") ⟨_,hz,U⟩ F.slot_zip_next ?_));refine FQ (codeAny_call_builtin F.slot_zip_next.plain F.entry_zip_next ?_);refine F.slot_zip_next.check _ _ _ _ _ _ _ _ ⟨_,hz,U⟩ (F.args_zip_next_1 _) ?_;unfold Builtin.«zip.__next__»;refine Am (AY ?_);refine Am (EV hz rfl rfl ?_);refine Am (EV hz rfl rfl ?_);refine Am (IK hti rfl ?_);dsimp only;rw[if_neg (by simp)];refine Am ?_;unfold Builtin.SmallTypes.ownedTupleIsFree;refine Am (EV hz rfl rfl ?_);refine AY ?_;rw[if_pos rfl];refine Am (wpAny_rule ?_);refine Am (EV hz rfl rfl ?_);refine Am (Kz hz (by simp) fun h1 hz1 sb1=>?_);refine Am ?_;show wpAny _ _ (forIn [(Value.ref i1,0),(Value.ref i2,1)] _ _) _ _ _;rw[Kl];refine Am ?_;refine Am (QC ?_);show wpAny _ _ (do let v <- Builtin.SmallTypes.nextOf (.ref i1);pure (some v)) _ _ _;have hr1:h1.IsRevIter i1 l1 k1:=hr.at fun o e=>(sb1.2 i1 ap.i1z).trans e;have p11:h1.IsList l1 xs:=by obtain⟨o,e,r⟩:=p1;exact⟨o,(sb1.2 l1 ap.l1z).trans e,r⟩
 refine Am (Xb (s:={ s with heap:=h1 }) hr1 p11 hx fun h2 hr2 sb2=>?_);refine AY ?_;have hto2:IsPair h2 TO a b:=(sb2.2 TO ap.TOi1).trans ((sb1.2 TO ap.TOz).trans hto);refine Am (IK hto2 rfl ?_);refine Am (wpAny_updateSeq_pair (s:={ s with heap:=h2 }) hto2 fun h3 hto3 sb3=>?_);refine Am (wpAny_letGo ?_);refine AY ?_;show wpAny _ _ (forIn [(Value.ref i2,1)] _ _) _ _ _;rw[Kl];refine Am ?_;refine Am (QC ?_);show wpAny _ _ (do let v <- Builtin.SmallTypes.nextOf (.ref i2);pure (some v)) _ _ _;have k13:∀ c o,c≠z->c≠TO->c≠i1->s.heap.get? c=some o->h3.get? c=some o:=fun c o n1 n2 n3 e=>(sb3.2 c n2).trans ((sb2.2 c n3).trans ((sb1.2 c n1).trans e));have hl3:h3.IsListIter i2 l2 k2:=by obtain⟨o,e,r⟩:=hl;exact⟨o,k13 i2 o ap.i2z (Ne.symm ap.TOi2) (Ne.symm ap.i12) e,r⟩
 have p23:h3.IsList l2 ys:=by obtain⟨o,e,r⟩:=p2;exact⟨o,k13 l2 o ap.l2z ap.l2TO ap.l2i1 e,r⟩
 refine Am (wpAny_nextOf_list_item (s:={ s with heap:=h3 }) hl3 p23 hy fun h4 hl4 sb4=>?_);refine AY ?_;have hto4:IsPair h4 TO x b:=(sb4.2 TO ap.TOi2).trans hto3;refine Am (IK hto4 rfl ?_);refine Am (wpAny_updateSeq_pair (s:={ s with heap:=h4 }) hto4 fun h5 hto5 sb5=>?_);refine Am (wpAny_letGo ?_);refine AY ?_;show wpAny _ _ (forIn ([]:List (Value×Nat)) _ _) _ _ _;rw[Rj];refine AY ?_;have hto5:IsPair h5 TO x y:=hto5;refine Am (IK hto5 rfl ?_);refine Am (Ld ?_);have hz5:h5.get? z=some { cls:=.type "zip",data:=.fields #[.ellipsis,.bool false,.bool false,.ref TI,.ref TO] }:=
  (sb5.2 z (Ne.symm ap.TOz)).trans ((sb4.2 z (Ne.symm ap.i2z)).trans ((sb3.2 z (Ne.symm ap.TOz)).trans ((sb2.2 z (Ne.symm ap.i1z)).trans hz1)))
 refine Am ?_;unfold Builtin.SmallTypes.ownedTupleHandOut;refine Am (Kz (Bb _ hz5) (by simp) fun h6 hz6 sb6=>?_);refine Kz (s:={ s with heap:=h6 }) hz6 (by simp) fun h7 hz7 sb7=>?_;refine AY ?_;refine AY ?_;have sz:h5.objs.size=s.heap.objs.size:=by rw[sb5.1,show _=_ from sb4.1,show _=_ from sb3.1,show _=_ from sb2.1,sb1.1]
 have k15:∀ c o,c≠z->c≠TO->c≠i1->c≠i2->s.heap.get? c=some o->h5.get? c=some o:=fun c o n1 n2 n3 n4 e=>(sb5.2 c n2).trans ((sb4.2 c n4).trans (k13 c o n1 n2 n3 e));have k57:∀ c o,c≠z->h5.get? c=some o->h7.get? c=some o:=fun c o n1 e=>(sb7.2 c n1).trans ((sb6.2 c n1).trans (Bb _ e));have nz:h5.objs.size≠z:=fun e=>absurd (Bg hz5) (by rw[<- e];exact EZ _);have fin:=h h7 ⟨by rw[<- sz];exact hz7,k57 _ _ ap.TIz (k15 _ _ ap.TIz ap.TITO ap.TIi1 ap.TIi2 hti),⟨x,y,k57 _ _ ap.TOz hto5⟩,?_,?_⟩ ?_ fun c o n1 n2 n3 n4 e=>k57 c o n1 (k15 c o n1 n2 n3 n4 e)
 . show Q (some (.ref h5.objs.size)) _;rw[sz];exact fin
 . obtain⟨o,e,r⟩:=hr2;exact⟨o,k57 _ _ ap.i1z ((sb5.2 i1 (Ne.symm ap.TOi1)).trans ((sb4.2 i1 ap.i12).trans ((sb3.2 i1 (Ne.symm ap.TOi1)).trans e))),r⟩
 . obtain⟨o,e,r⟩:=hl4;exact⟨o,k57 _ _ ap.i2z ((sb5.2 i2 (Ne.symm ap.TOi2)).trans e),r⟩
 . rw[<- sz];exact(sb7.2 _ nz).trans ((sb6.2 _ nz).trans (Cn _ rfl))
theorem Xr {prog:Program}{w:World}{TI TO:Addr}{k2:Nat}{Q:Option Value->Shared->Prop}(hh:A.handled=none)
 (ap:ZipApart z TI TO i1 i2 l1 l2)(st:iS s.heap z TI TO i1 i2 l1 l2 (-1) k2 .none)(h:∀ h':Heap,(∀ c o,c≠z->s.heap.get? c=some o->h'.get? c=some o)->Q none { s with heap:=h' }) :
 wpAny (model prog w) A (pyNext (.ref z)) Q E s:=by
 obtain⟨hz,hti,⟨a,b,hto⟩,hr,hl⟩:=st;unfold pyNext;refine Am (wpAny_attempt (wpAny_callSpecial?_slot (T:="zip") ⟨_,hz,U⟩ F.slot_zip_next ?_));refine FQ (codeAny_call_builtin F.slot_zip_next.plain F.entry_zip_next ?_);refine F.slot_zip_next.check _ _ _ _ _ _ _ _ ⟨_,hz,U⟩ (F.args_zip_next_1 _) ?_;unfold Builtin.«zip.__next__»;refine Am (AY ?_);refine Am (EV hz rfl rfl ?_);refine Am (EV hz rfl rfl ?_);refine Am (IK hti rfl ?_);dsimp only;rw[if_neg (by simp)];refine Am ?_;unfold Builtin.SmallTypes.ownedTupleIsFree;refine Am (EV hz rfl rfl ?_);refine AY ?_;rw[if_pos rfl];refine Am (wpAny_rule ?_);refine Am (EV hz rfl rfl ?_);refine Am (Kz hz (by simp) fun h1 hz1 sb1=>?_);refine Am ?_;show wpAny _ _ (forIn [(Value.ref i1,0),(Value.ref i2,1)] _ _) _ _ _;rw[Kl];refine Am ?_;refine Am (QC ?_);show wpAny _ _ (do let v <- Builtin.SmallTypes.nextOf (.ref i1);pure (some v)) _ _ _;have hr1:h1.IsRevIter i1 l1 (-1):=hr.at fun o e=>(sb1.2 i1 ap.i1z).trans e;refine Am (W8 (s:={ s with heap:=h1 }) hh hr1 fun h2 e k2 hz=>?_);obtain⟨oe,he,hc⟩:=hz;refine Kz (s:={ s with heap:=h2 }) (k2 _ _ hz1) (by simp) fun h3 hz3 sb3=>?_;have ne:e≠z:=fun q=>by
  have q1:=k2 _ _ hz1;rw[<- q,he] at q1;have q2:=congrArg Obj.cls (Option.some.inj q1);rw[hc] at q2;exact absurd q2 (by simp)
 have he3:h3.get? e=some oe:=(sb3.2 e ne).trans he;dsimp only;refine Am ?_;unfold isInstance;refine Am (wpAny_typeOf_ref (s:={ s with heap:=h3 }) he3 ?_);rw[hc,isSubtype_stop];refine AY ?_;refine AY ?_;exact h h3 fun c o n e=>(sb3.2 c n).trans (k2 _ _ ((sb1.2 c n).trans e))
theorem Yu {prog:Program}{w:World}{r:Addr}{k1:Int}{ys:Array Value}(hr:s.heap.IsRevIter r l1 k1)(hl:s.heap.IsList l2 ys)
 (h:∀ (h':Heap),iS h' (s.heap.objs.size+3) (s.heap.objs.size+1) (s.heap.objs.size+2) r s.heap.objs.size l1 l2 k1 0 .none->(∀ c o,s.heap.get? c=some o->h'.get? c=some o)->Q (.ref (s.heap.objs.size+3)) { s with heap:=h' }) :
 wpAny (model prog w) A (call (.type "zip") [.ref r,.ref l2]) Q E s:=by
 refine callType_new F.called_zip (by decide) (F.typeCall_zip_2 _ _) (F.newCall_zip_2 _ _) (fun obj=>F.args_object_init_3 obj _ _) F.entry_zip_new
  (S:=fun _ R s=>s.heap.IsRevIter r l1 k1/\s.heap.IsList l2 ys/\∀ (h':Heap),iS h' (s.heap.objs.size+3) (s.heap.objs.size+1) (s.heap.objs.size+2) r s.heap.objs.size l1 l2 k1 0 .none->(∀ c o,s.heap.get? c=some o->h'.get? c=some o)->R (.ok (.ret (.ref (s.heap.objs.size+3)))) { s with heap:=h' }) ?_ ⟨hr,hl,fun h' z k=>⟨⟨_,z.z,U⟩,h h' z k⟩⟩
 intro prog w A R s ⟨hr,hl,h⟩;unfold Builtin.«zip.__new__»;refine Am ?_;unfold Builtin.SmallTypes.newClass;dsimp only;refine Am (AY ?_);rw[if_neg (by simp)];rw[sub_zip];refine Am (AY ?_);rw[if_neg (by simp)];refine AY ?_;dsimp only;rw[if_neg (by simp)];refine Am ?_;unfold Builtin.SmallTypes.iterAll;refine Am ?_;rw[Kl];refine Am (Am (GM (Rn hr (AY ?_))));show wpAny _ _ (forIn [Value.ref l2] _ _) _ _ _;rw[Kl];refine Am (Am (GM (QF hl (AY ?_))));show wpAny _ _ (forIn ([]:List Value) _ _) _ _ _;rw[Rj];refine AY (AY ?_);refine Am (Ld ?_ (by show(2:Nat)<=_;decide));refine Am (Ld ?_ (by show(2:Nat)<=_;decide));refine Am ?_;unfold Builtin.SmallTypes.newRecord;refine OQ ?_ (by show(5:Nat)<=_;decide);refine AY ?_;have sz1:∀ (h:Heap) (o:Obj),(h.push o).objs.size=h.objs.size+1:=fun h o=>by simp[Heap.push]
 have e0:∀ (h:Heap) (o:Obj),o.isFreed=false->(h.push o).get? h.objs.size=some o:=fun h o q=>Cn _ q;dsimp only;simp only[sz1];refine h _ ⟨?_,?_,⟨.none,.none,?_⟩,?_,?_⟩ (fun c o e=>Bb _ (Bb _ (Bb _ (Bb _ e))))
 . have:=e0 (((s.heap.push { cls:=.type "list_iterator",data:=.fields #[.ref l2,.int 0 0] }).push { cls:=.type "tuple",data:=.seq #[.ref r,.ref s.heap.objs.size] }).push { cls:=.type "tuple",data:=.seq #[.none,.none] })
    { cls:=.type "zip",data:=.fields #[.none,.bool false,.bool false,.ref (s.heap.objs.size+1),.ref (s.heap.objs.size+1+1)] } rfl
   simp only[sz1] at this;exact this
 . have:=e0 ((s.heap.push { cls:=.type "list_iterator",data:=.fields #[.ref l2,.int 0 0] })) { cls:=.type "tuple",data:=.seq #[.ref r,.ref s.heap.objs.size] } rfl;simp only[sz1] at this;exact Bb _ (Bb _ this)
 . have:=e0 ((s.heap.push { cls:=.type "list_iterator",data:=.fields #[.ref l2,.int 0 0] }).push { cls:=.type "tuple",data:=.seq #[.ref r,.ref s.heap.objs.size] }) { cls:=.type "tuple",data:=.seq #[.none,.none] } rfl;simp only[sz1] at this;exact Bb _ this
 . exact hr.at fun o e=>Bb _ (Bb _ (Bb _ (Bb _ e)))
 . exact⟨_,Bb _ (Bb _ (Bb _ (Cn _ rfl))),U,U⟩
noncomputable def Hy (K:W.Frag) (a b:Addr) (n:Nat):It:=
 ⟨fun i H=>i<n/\(∃ xs,gy K H a xs/\xs.length=n)/\∃ ys,gy K H b ys/\ys.length=n,
  fun i H x H'=>∃ p u v,x = .ref p/\H p=none/\(∀ xs,gy K H a xs->xs[n - 1 - i]? = some u)/\(∀ ys,gy K H b ys->ys[i]? = some v)/\H'=Ab H p (.tup [u,v]),
  fun i _=>i=n⟩
theorem iS.at {TI TO:Addr}{k1:Int}{k2:Nat}{f0:Value}(st:iS h z TI TO i1 i2 l1 l2 k1 k2 f0)(k:∀ b∈[z,TI,TO,i1,i2],∀ o,h.get? b=some o->h'.get? b=some o):iS h' z TI TO i1 i2 l1 l2 k1 k2 f0:=by
 obtain⟨a1,a2,⟨x,y,a3⟩,a4,⟨o,e,r⟩⟩:=st;exact⟨k z (by simp) _ a1,k TI (by simp) _ a2,⟨x,y,k TO (by simp) _ a3⟩,a4.at fun o e=>k i1 (by simp) _ e,⟨o,k i2 (by simp) _ e,r⟩⟩
theorem WX {P:Program}{w:World}{K:W.Frag}(a b z TI TO i1 i2:Addr)(n:Nat)(ap:ZipApart z TI TO i1 i2 a b) :
 GZ P w K (.Tuple es kk tp) (Hy K a b n) [z,TI,TO,i1,i2] z (fun i h=>iS h z TI TO i1 i2 a b ((n:Int) - 1 - (i:Nat)) i .none) where
 mem:=by simp
 obj:=fun i h st c hc=>by
  obtain⟨a1,a2,⟨x,y,a3⟩,⟨o,e,_,d⟩,⟨o',e',_,d'⟩⟩:=st;simp only[Dc,CW,or_false] at hc;rcases hc with rfl | rfl | rfl | rfl | rfl
  . exact⟨_,a1,fun v q=>by cases q⟩
  . exact⟨_,a2,fun v q=>by cases q⟩
  . exact⟨_,a3,fun v q=>by cases q⟩
  . exact⟨o,e,fun v q=>by rw[d] at q;cases q⟩
  . exact⟨o',e',fun v q=>by rw[d'] at q;cases q⟩
 keep:=fun i h h' st k=>st.at k
 item:=by
  intro X hP hw hK hc i aa s σ H E I hf st hg;subst hP hw hK;obtain⟨hi,⟨xs,hq1,hn1⟩,⟨ys,hq2,hn2⟩⟩:=hg;obtain⟨its1,rv1,p1,hz1⟩:=I.list hq1;obtain⟨its2,rv2,p2,hz2⟩:=I.list hq2;have hl1:=rv1.length;have hl2:=rv2.length;have hx:xs[n - 1 - i]? = some (xs[n - 1 - i]'om):=Bc om;have hy:ys[i]? = some (ys[i]'om):=Bc om;obtain⟨u,hu,ru⟩:=rv1.get hx;obtain⟨v,hv,rv⟩:=rv2.get hy;have st:iS s.heap z TI TO i1 i2 a b ((n:Int) - 1 - (i:Nat)) i .none:=st;rw[show(n:Int) - 1 - (i:Nat)=((n - 1 - i:Nat):Int) by exact om] at st;refine X2 ap st p1.isList p2.isList (x:=u) (y:=v) (by simpa using hu) (by simpa using hv) fun h' st' pr k=>⟨_,U,?_⟩
  refine wpAny_letOwnedTupleGo_zip st'.z fun h2 hz2' sb=>?_;have hp:H s.heap.objs.size=none:=I.hW.fresh (Ay _);have nz:s.heap.objs.size≠z:=fun e=>absurd (Bg st.z) (by rw[<- e];exact EZ _);have k2:∀ c o,c∉[z,TI,TO,i1,i2]->s.heap.get? c=some o->h2.get? c=some o:=fun c o nc e=>by
   simp only[Dc,CW,or_false,not_or] at nc;exact(sb.2 c nc.1).trans (k c o nc.1 nc.2.2.1 nc.2.2.2.1 nc.2.2.2.2 e)
  have pr2:IsPair h2 s.heap.objs.size u v:=(sb.2 _ nz).trans pr;have nfp:∀ c o,H c=some o->c∉[z,TI,TO,i1,i2]:=fun c o e hc=>by rw[(hf c hc).1] at e;cases e
  have hne:∀ c o,H c=some o->c≠s.heap.objs.size:=fun c o e=>Aq e hp;have I2:gv X aa σ (Ab H s.heap.objs.size (.tup [xs[n - 1 - i]'om,ys[i]'om])) { s with heap:=h2 }:=by
   refine I.jW (s':={ s with heap:=h2 }) (ch:=[z,TI,TO,i1,i2]) rfl ⟨fun c o e n nf nc=>k2 c o nc e,fun c o e n hc nc=>⟨o.slots,k2 c o nc e⟩,fun c o e n nc=>?_,fun c o e nc=>⟨o,k2 c o nc e⟩,fun c xs e=>?_,fun c o u e=>?_,fun c ps e=>⟨#[],?_⟩⟩ (fun c o e=>?_) I.bare fun c hc=>?_
   . rw[Af (BC (Bg e))];exact n
   . rw[Af (hne _ _ e)];exact e
   . rw[Af (hne _ _ e)];exact e
   . rw[Af (hne _ _ e),QB];exact e
   . by_cases hc:c=s.heap.objs.size
     . subst hc;rw[Ad] at e;cases e;exact⟨by show(2:Nat)<=_;decide,[u,v],.cons ru (.cons rv .nil),_,pr2,U,_,U⟩
     . rw[Af hc] at e;refine(I.hW c o e).jo (fun d w' hd q=>k2 d w' ?_ q) (fun d q=>by rw[Af (hne _ _ q)];exact q) fun d xs q=>by rw[Af (hne _ _ q)];exact q
       rcases hd with rfl | hd
       . exact nfp _ _ e
       . exact nfp _ _ hd
   . obtain⟨f0,f1,f2,f3,f4,f5⟩:=hf c hc;exact⟨f3,f1,f4,f5⟩
  refine⟨.ref s.heap.objs.size,_,I2,U,⟨_,_,_,U,hp,fun xs' h'=>by rw[I.iV h' hq1];exact hx,fun ys' h'=>by rw[I.iV h' hq2];exact hy,U⟩,?_,fun c hc=>?_⟩
  . have st2:iS h2 z TI TO i1 i2 a b (((n - 1 - i:Nat):Int) - 1) (i+1) .none:=by
     obtain⟨_,a2,⟨x,y,a3⟩,⟨o,e,r⟩,⟨o',e',r'⟩⟩:=st';exact⟨hz2',(sb.2 _ ap.TIz).trans a2,⟨x,y,(sb.2 _ ap.TOz).trans a3⟩,⟨o,(sb.2 _ ap.i1z).trans e,r⟩,⟨o',(sb.2 _ ap.i2z).trans e',r'⟩⟩
    rw[show((n - 1 - i:Nat):Int) - 1=(n:Int) - 1 - ((i+1:Nat):Int) by exact om] at st2;exact st2
  . have lt:c<s.heap.objs.size:=by
     simp only[Dc,CW,or_false] at hc;obtain⟨a1,a2,⟨x,y,a3⟩,⟨o,e,_⟩,⟨o',e',_⟩⟩:=st;rcases hc with rfl | rfl | rfl | rfl | rfl
     . exact Bg a1
     . exact Bg a2
     . exact Bg a3
     . exact Bg e
     . exact Bg e'
    rw[Af (BC lt)];exact(hf c hc).1
 done:=by
  intro X hP hw hK hc i aa s σ H E I hf st hg;subst hP hw hK;have hg:i=n:=hg;have st:iS s.heap z TI TO i1 i2 a b ((n:Int) - 1 - (i:Nat)) i .none:=st;rw[show(n:Int) - 1 - (i:Nat) = -1 by exact om] at st;obtain⟨f0,f1,f2,f3,f4,f5⟩:=hf z (by simp);exact Xr (I.ok.hd hc) ap st fun h' k=>⟨U,I.turned (t':=s.toks) (fun b o hb e=>k b o hb e) f0 f1 f3 f4 f5⟩
 self:=fun _ _ _ _ _ st h=>wpAny_pyIter_zip st.z h
theorem YL {r a b:Nat}(h1:r<n)(h2:a<n)(h3:b<n)(h4:a≠r)(h5:b≠r):ZipApart (n+3) (n+1) (n+2) r n a b:=by
 constructor <;> first | assumption | (show(_:Nat)≠(_:Nat);exact om)
def W3 (K:W.Frag)(ta tb:TE):TI:=fun σ H R=>ta σ H fun x H1=>∃ la xs,x = .ref la/\gy K H1 la xs/\tb σ H1 fun y H2=>∃ lb ys,y = .ref lb/\gy K H2 la xs/\gy K H2 lb ys/\xs.length=ys.length/\R (Hy K la lb xs.length) H2
theorem WE {X:Cx}{a b:Expr}{tb:TE}{p pos2:Pos}(hg:Gl X "zip")(hm:X.mg "zip" = none)(hg2:Gl X "reversed")(hm2:X.mg "reversed" = none)(ha:PE X a ta)(hb:PE X b tb)
 (hs:starEach [.Call (.Name "reversed" p2) [a] [] pos2,b] X.env=[(false,eval (.Call (.Name "reversed" p2) [a] [] pos2) X.env),(false,eval b X.env)]:=by rfl)(hs1:starEach [b] X.env=[(false,eval b X.env)]:=by rfl)(hs2:starEach [a] X.env=[(false,eval a X.env)]:=by rfl) :
 PI X (.Tuple es kk tp) (.Call (.Name "zip" p) [.Call (.Name "reversed" p2) [a] [] pos2,b] [] pos) (W3 X.K ta tb):=by
 intro aa s σ H R I h;refine Call_ (GC I hg hm boot_zip (IT ?_ (by rw[hs,hs1]) (by rw[hs1];rfl)));rw[hs];show wpAny _ _ (spliced ((false,eval _ X.env) :: backTo pos [(false,eval b X.env)])) _ _ s;refine Nm (Call_ (GC I hg2 hm2 boot_reversed (IT ?_ hs2 rfl)));refine Av (Ar ha hs2 pos2 aa s σ H (fun vs H1=>match vs with
  | [x]=>∃ la xs,x = .ref la/\gy X.K H1 la xs/\tb σ H1 fun y H2=>∃ lb ys,y = .ref lb/\gy X.K H2 la xs/\gy X.K H2 lb ys/\xs.length=ys.length/\R (Hy X.K la lb xs.length) H2
  | _=>False) I h) fun us s1=>Bl fun vs H1 I1 r1 q1=>?_
 match vs,r1,q1 with
 | [x],.cons r .nil,⟨la,xs,ex,hq,q⟩=>
 subst ex;cases r
 obtain⟨its,rv,pl,hz⟩:=I1.list hq;have hl:=rv.length;refine call_reversed_list pl.isList ?_;have e1:((its.toArray.size:Nat):Int) - 1=(xs.length:Int) - 1 - ((0:Nat):Int):=by simp;exact om
 have gr:(s1.heap.push (revObj la ((its.toArray.size:Int) - 1))).get? s1.heap.objs.size=some (revObj la ((its.toArray.size:Int) - 1)):=Cn _ rfl;have I2:gv X (aa++[(s1.heap.objs.size,revObj la ((its.toArray.size:Int) - 1))]) σ H1 { s1 with heap:=s1.heap.push (revObj la ((its.toArray.size:Int) - 1)) }:=by
  have I2:gv X aa σ H1 { s1 with heap:=s1.heap.push (revObj la ((its.toArray.size:Int) - 1)) }:=I1.kept (t':=s1.toks) fun b o e=>Bb _ e;refine I2.jK fun p hp=>?_;rcases List.mem_append.mp hp with hp | hp
  . exact I2.pin p (DN _ hp)
  . have:p=(s1.heap.objs.size,revObj la ((its.toArray.size:Int) - 1)):=by simpa using hp
    subst this;exact⟨gr,I1.hW.fresh (Ay _),NR I1.lt,I1.kU (Ay _),fun v z=>by cases z⟩
 rw[<- hs1];refine Av (Ar hb hs1 pos _ _ σ H1 (fun vs H2=>match vs with
  | [y]=>∃ lb ys,y = .ref lb/\gy X.K H2 la xs/\gy X.K H2 lb ys/\xs.length=ys.length/\R (Hy X.K la lb xs.length) H2
  | _=>False) I2 q) fun us s2=>Bl fun vs H2 I3 r2 q2=>?_
 match vs,r2,q2 with
 | [y],.cons r .nil,⟨lb,ys,ey,hq1,hq2,hn,q⟩=>
 subst ey;cases r
 obtain⟨its1,rv1,pl1,hz1⟩:=I3.list hq1;obtain⟨its2,rv2,pl2,hz2⟩:=I3.list hq2;obtain⟨g3,n3,_⟩:=I3.pin (s1.heap.objs.size,revObj la ((its.toArray.size:Int) - 1)) (by simp);have g3:s2.heap.get? s1.heap.objs.size=some (revObj la ((its.toArray.size:Int) - 1)):=g3;have hr3:s2.heap.IsRevIter s1.heap.objs.size la ((xs.length:Int) - 1 - ((0:Nat):Int)):=by rw[<- e1];exact⟨_,g3,U,U⟩
 have lr:=Bg g3;have nl:∀ c its,s2.heap.IsList c its->c≠s1.heap.objs.size/\c<s2.heap.objs.size:=fun c its ⟨o,e,cc,_⟩=>⟨fun z=>by
  rw[z,g3] at e;cases e;exact absurd cc (by show ¬ (Value.type _=Value.type _);simp),Bg e⟩
 obtain⟨na1,na2⟩:=nl _ _ pl1.isList;obtain⟨nb1,nb2⟩:=nl _ _ pl2.isList;refine Yu hr3 pl2.isList fun h' st k=>?_;refine wpAny_pyIter_zip st.z ?_;have I4:gv X aa σ H2 { s2 with heap:=h' }:=gv.iD (pl:=[(s1.heap.objs.size,revObj la ((its.toArray.size:Int) - 1))]) (I3.kept (t':=s2.toks) k);refine⟨_,[s2.heap.objs.size+3,s2.heap.objs.size+1,s2.heap.objs.size+2,s1.heap.objs.size,s2.heap.objs.size],_,_,H2,U,I4,WX la lb _ _ _ _ _ xs.length (YL lr na2 nb2 na1 nb1),st,fun c hc=>?_,q⟩;have fr:∀ c,s2.heap.objs.size<=c->E3 X aa H2 c:=fun c hc=>(gv.iD I3).jv hc (I3.hW.fresh hc);simp only[Dc,CW,or_false] at hc;rcases hc with rfl | rfl | rfl | rfl | rfl
 . exact fr _ om
 . exact fr _ om
 . exact fr _ om
 . obtain⟨_,f1,f2,f3,f4,f5⟩:=I1.jv (Ay _) (I1.hW.fresh (Ay _));exact⟨n3,f1,f2,f3,f4,f5⟩
 . exact fr _ om
theorem Zt {K:W.Frag}{xs ys:List V}(hn:xs.length=ys.length)(Pv:Nat->St->Hp->Prop)(h0:Pv 0 σ H)(hl:∀ i σ H,i<=xs.length->Pv i σ H->gy K H a xs/\gy K H b ys)
 (hs:∀ i u v p σ H,i<xs.length->xs[xs.length - 1 - i]? = some u->ys[i]? = some v->H p=none->Pv i σ H->g (.ref p) σ (Ab H p (.tup [u,v])) fun σ2 H2=>tb { D with nx:=Pv (i+1),ct:=Pv (i+1),bk:=D.nx } σ2 H2)(hd:∀ σ H,Pv xs.length σ H->D.nx σ H) :
 ∃ W:Nat->Nat->St->Hp->Prop,(∃ m,W 0 m σ H)/\∀ i m σ H,W i m σ H->
  ((Hy K a b xs.length).stop i H/\D.nx σ H)\/((Hy K a b xs.length).go i H/\∃ N:St->Hp->Prop,(∀ σ' H',N σ' H'->∃ m',m'<m/\W (i+1) m' σ' H')/\∀ x H',(Hy K a b xs.length).jT i H x H'->g x σ H' fun σ2 H2=>tb { D with nx:=N,ct:=N,bk:=D.nx } σ2 H2):=by
 refine⟨fun i m σ H=>m=xs.length - i/\i<=xs.length/\Pv i σ H,⟨xs.length,by simp,Es _,h0⟩,?_⟩;rintro i m σ H ⟨rfl,hi,p⟩;obtain⟨q1,q2⟩:=hl i σ H hi p;by_cases hlt:i<xs.length
 . refine .inr ⟨⟨hlt,⟨xs,q1,U⟩,⟨ys,q2,hn.symm⟩⟩,Pv (i+1),fun σ' H' p'=>⟨xs.length - (i+1),om,U,hlt,p'⟩,fun x H' y=>?_⟩;obtain⟨pp,u,v,rfl,hp,y1,y2,rfl⟩:=y;exact hs i u v pp σ _ hlt (y1 xs q1) (y2 ys q2) hp p
 . have e:i=xs.length:=by exact om
   subst e;exact .inl ⟨U,hd σ H p⟩
noncomputable def Gq (x:Str) (n:Int):Str:=if n<1 then Str.empty else if (n == 1 || x.length == 0)=true then x else { cps:=List.foldl (fun x1 x2=>x1++x2) #[] (List.replicate n.toNat x.cps) }
theorem RG (c:Array Nat):∀ (k:Nat)(a:Array Nat),(List.foldl (fun x1 x2=>x1++x2) a (List.replicate k c)).size=a.size+k * c.size
 | 0,a=>by simp
 | k+1,a=>by
  rw[List.replicate_succ,List.foldl_cons,RG c k (a++c),Array.size_append,Nat.succ_mul];exact om
section
variable {X:Cx}
theorem bE:B6 X (binaryOp .Mult) (fun x y H Q=>∃ z n,x = .str z/\y = .int n/\0<=n/\n<=1000/\z.length<=1000/\Q (.str (Gq z n)) H):=by
 intro aa s σ H x y v u Q I rx ry h;obtain⟨z,n,rfl,rfl,n0,n1,zl,q⟩:=h;obtain⟨t,rfl⟩:=rx;obtain⟨t2,rfl⟩:=ry;refine PySem.P.mul_str (by simp;exact om) (fun a b=>?_) (fun a b=>?_) ?_
 . have:(1000:Int)<=(2 ^ 63 - 1) / n:=(Int.le_ediv_iff_mul_le om).mpr om;exact om
 . unfold Builtin.Str.tooLong;have:z.length * n.toNat<=1000 * 1000:=JF om om;have e:sizeLine=16777216:=by decide
   simp;exact om
 . unfold Gq at q;by_cases h1:n<1
   . rw[if_pos h1] at q ⊢;exact⟨by decide,.str _,H,I.tok _,⟨_,U⟩,q⟩
   . rw[if_neg h1] at q ⊢;by_cases h2:(n == 1 || z.length == 0)=true
     . rw[if_pos h2] at q ⊢;exact⟨.str _,H,I,⟨_,U⟩,q⟩
     . rw[if_neg h2] at q ⊢;refine⟨?_,.str _,H,I.tok _,⟨_,U⟩,q⟩;show(List.foldl (fun x1 x2=>x1++x2) #[] (List.replicate n.toNat z.cps)).size<=sizeLine;rw[RG];have:n.toNat * z.cps.size<=1000 * 1000:=JF om zl;have e:sizeLine=16777216:=by decide
       simp;exact om
def ZV (K:W.Frag)(un:Nat)(b:Bool):R2:=fun x y H Q=>∃ p q xs ys,x = .ref p/\y = .ref q/\gy K H p xs/\gy K H q ys/\un+1<cLine/\
 ((xs.length≠ys.length/\Q (.bl !b) H)\/∃ n,xs.length=ys.length/\(∀ (i:Nat) u v,xs[i]? = some u->ys[i]? = some v->LR H n u v)/\un+n+1<cLine/\Q (.bl b) H)
theorem Xp:B6 X (compareOp .Eq) (ZV X.K X.A.units true):=by
 intro aa s σ H x y v u Q I rx ry h;obtain⟨a,b,xs,ys,rfl,rfl,ha,hb,hu0,h⟩:=h;rcases h with⟨hne,q⟩ | ⟨n,hl,hi,hu,q⟩
 . obtain rfl:v=Value.ref a:=rx;obtain rfl:u=Value.ref b:=ry;obtain⟨its,r,pa,za⟩:=I.list ha;obtain⟨its2,r2,pb,zb⟩:=I.list hb;have h1:=r.length;have h2:=r2.length
   have q2:=OO (A:=X.A) (s:=s) pa.isList pb.isList (by simp;exact om) om;exact q2 X.prog X.w X.xe _ ⟨.bl false,H,I,U,q⟩
 . exact f9 aa s σ H _ _ v u Q I rx ry ⟨a,b,xs,ys,n,U,U,ha,hb,hl,hi,hu,q⟩
end
noncomputable abbrev HS:List Value:=[Value.type "ValueError",Value.type "Exception",Value.type "BaseException",Value.type "object"]
structure jq (K:W.Frag)(N:Addr):Prop where
 ok:PySem.W.nsOkIn K N=true
 a:W.nsIn K N "__init__" = some none
 b:W.nsIn K N "__getattribute__" = some none
 c:W.nsIn K N "__getattr__" = some none
 d:W.nsIn K N "args" = some none
theorem jq.q {K:W.Frag}{N:Addr}(x:jq K N):iy K N=true:=by
 unfold iy quietNames;rw[x.ok];simp only[List.all_cons,List.all_nil,Bool.and_true,EH];rw[x.a,x.b,x.c,x.d];simp
theorem Tu {K:W.Frag}{N:Addr}{c:Value}{d:Option Addr}{es:Array DictEntry}(l:K.lookup N=some ⟨c,d,.dict es ep,sl⟩)(h:(es.toList.all fun e=>match e.key with | .str _ _=>true | _=>false)=true):PySem.W.nsOkIn K N=true:=by
 unfold PySem.W.nsOkIn;rw[l];show(es.all fun e=>match e.key with | .str _ _=>true | _=>false)=true;rw[<- Array.all_toList];exact h
theorem Zy {K:W.Frag}{B:Addr}{c:Value}{d:Option Addr}{cd:ClassData}(l:K.lookup B=some ⟨c,d,.cls cd,sl⟩)(q:jq K cd.ns):iR K HS (.ref B :: HS)=true:=by
 unfold iR;rw[Bool.or_eq_true_iff]
 right
 show(match List.lookup B K with | some ⟨_,_,.cls cd,_⟩=>iy K cd.ns && iR K HS HS | _=>false)=true;rw[show List.lookup B K=_ from l];show(iy K cd.ns && iR K HS HS)=true;rw[q.q];rfl
theorem Wn {K:W.Frag}{c C:Addr}{b:Bool}{d:Option Addr}{cd:ClassData}(ne:c≠C)(l:K.lookup C=some ⟨.type "type",d,.cls cd,sl⟩)(m:PySem.W.mroIn K c (.ref C)=some b):W.kitOne K (.ref c) (.ref C)=some b:=by
 unfold W.kitOne;rw[if_neg (by simpa using ne)];have e1:PySem.W.clsIn K C=some cd:=by unfold PySem.W.clsIn;rw[show List.lookup C K=_ from l]
 have e2:PySem.W.typeIn K (.ref C)=some (.type "type"):=by show Option.map (fun x=>x.cls) (List.lookup C K)=_;rw[show List.lookup C K=_ from l];rfl
 show(if ((PySem.W.clsIn K C).isSome && PySem.W.typeIn K (.ref C) == some (.type "type"))=true then PySem.W.mroIn K c (.ref C) else none)=_;rw[e1,e2];rw[if_pos (by simp)];exact m
theorem VY {K:W.Frag}:W.kitOne K (.type "list") (.type "list")=some true:=by unfold W.kitOne;rw[if_pos (by simp)]
theorem Y9 {K:W.Frag}:W.kitOne K (.type "tuple") (.type "list")=some false:=by
 unfold W.kitOne;rw[if_neg (by simp)]
 kernel_rfl
section
variable {α β:Type}{f:Nat->Nat->Bool}
def Et (f:Nat->Nat->Bool)(n:Nat):W.KasT α->(α->Prop)->Prop
 | .ret a,C=>C a
 | .ask i j k,C=>i<n/\j<n/\i≠j/\Et f n (k (f i j)) C
theorem FY {C D:α->Prop}(h:∀ a,C a->D a):∀ {T:W.KasT α},Et f n T C->Et f n T D
 | .ret a,q=>h a q
 | .ask i j k,q=>⟨q.1,q.2.1,q.2.2.1,FY h q.2.2.2⟩
theorem Iw {g:α->W.KasT β}{C:β->Prop}:∀ {T:W.KasT α},Et f n T (fun a=>Et f n (g a) C)->Et f n (T.bind g) C
 | .ret a,q=>q
 | .ask i j k,q=>⟨q.1,q.2.1,q.2.2.1,Iw q.2.2.2⟩
theorem Uc {cmp:Nat->Nat->(Bool->Shared->Prop)->Shared->Prop}{s:Shared}{D:α->Shared->Prop}(h:∀ i j (C:Bool->Shared->Prop),i<n->j<n->i≠j->C (f i j) s->cmp i j C s) :
 ∀ {T:W.KasT α},Et f n T (fun a=>D a s)->W.KasT.kasWp cmp T D s
 | .ret a,q=>q
 | .ask i j k,q=>h i j _ q.1 q.2.1 q.2.2.1 (Uc h q.2.2.2)
end
noncomputable abbrev gd (p:Array Nat) (x:Nat):Nat:=p.getD x 0
theorem N6 {x v:Nat}(h:p[x]? = some v):gd p x=v:=by unfold gd;rw[Qr,h];rfl
theorem Lj {q:Array Nat}{x y:Nat}(h:p[x]? = q[y]?):gd p x=gd q y:=by unfold gd;rw[Qr,Qr,h]
structure Gd (n:Nat)(p:Array Nat):Prop where
 sz:p.size=n
 pm:p.Perm (List.range n).toArray
theorem Gd.lt {x:Nat}(g:Gd n p)(h:x<n):gd p x<n:=by
 have hx:x<p.size:=by rw[g.sz];exact h
 have e:p[x]? = some p[x]:=JR hx;rw[N6 e];have m:p[x]∈(List.range n).toArray:=(g.pm.mem_iff).mp (Array.getElem_mem hx);simpa using m
theorem Gd.ne {x y:Nat}(g:Gd n p)(hx:x<n)(hy:y<n)(h:x≠y):gd p x≠gd p y:=by
 have hx':x<p.toList.length:=by rw[Hn,g.sz];exact hx
 have hy':y<p.toList.length:=by rw[Hn,g.sz];exact hy
 have nd:p.toList.Nodup:=(g.pm.toList.nodup_iff).mpr (by simpa using List.nodup_range);have e1:gd p x=p.toList[x]:=N6 (by rw[JR (by rw[g.sz];exact hx)];simp);have e2:gd p y=p.toList[y]:=N6 (by rw[JR (by rw[g.sz];exact hy)];simp);rw[e1,e2];intro e;exact h ((Pm nd).mp e)
def D8 (key:Nat->Int)(p:Array Nat)(m:Nat):Prop:=∀ i j,i<j->j<m->key (gd p i)<key (gd p j)
def Rl (key:Nat->Int)(p:Array Nat)(m:Nat):Prop:=∀ i j,i<j->j<m->key (gd p j)<key (gd p i)
noncomputable abbrev fK (key:Nat->Int):Nat->Nat->Bool:=fun i j=>decide (key i<key j)
def Gh (key:Nat->Int)(n:Nat):Prop:=∀ i j,i<n->j<n->key i=key j->i=j
theorem Q5 (inj:Gh key n){p:Array Nat}(g:Gd n p):∀ (fuel m:Nat),1<=m->m+fuel<=n->D8 key p m->
 Et (fK key) n (W.kas_asc p fuel m) fun r=>m<=r/\r<=m+fuel/\D8 key p r/\(r<m+fuel->key (gd p r)<key (gd p (r - 1)))
 | 0,m,h1,h2,a=>by rw[W.kas_asc.eq_1];exact⟨Ay _,Ay _,a,fun z=>absurd z (EZ _)⟩
 | fuel+1,m,h1,h2,a=>by
  rw[W.kas_asc.eq_2];have ne:=g.ne (x:=m) (y:=m - 1) om om om;refine⟨g.lt om,g.lt om,ne,?_⟩;by_cases c:key (gd p m)<key (gd p (m - 1))
  . rw[show fK key (p.getD m 0) (p.getD (m - 1) 0)=true from Be c];dsimp only;rw[if_pos rfl];exact⟨Ay _,om,a,fun _=>c⟩
  . rw[show fK key (p.getD m 0) (p.getD (m - 1) 0)=false from Bj c];dsimp only;rw[if_neg BX];have hne:key (gd p m)≠key (gd p (m - 1)):=fun e=>ne (inj _ _ (g.lt om) (g.lt om) e);have a':D8 key p (m+1):=fun i j hij hj=>by
     by_cases hjm:j<m
     . exact a i j hij hjm
     . have e:j=m:=by exact om
       subst e;by_cases hi:i=j - 1
       . subst hi;exact om
       . have:=a i (j - 1) om om;exact om
    refine FY (fun r q=>⟨om,om,q.2.2.1,fun z=>q.2.2.2 om⟩) (Q5 inj g fuel (m+1) om om a')
theorem RV (inj:Gh key n){p:Array Nat}(g:Gd n p):∀ (fuel m:Nat),1<=m->m+fuel<=n->Rl key p m->
 Et (fK key) n (W.kas_desc fuel p m 0) fun r=>r.1=p/\r.2.2=0/\m<=r.2.1/\r.2.1<=m+fuel/\Rl key p r.2.1
 | 0,m,h1,h2,a=>by rw[W.kas_desc.eq_1];exact⟨U,U,Ay _,Ay _,a⟩
 | fuel+1,m,h1,h2,a=>by
  rw[W.kas_desc.eq_2];have ne:=g.ne (x:=m) (y:=m - 1) om om om;refine⟨g.lt om,g.lt om,ne,?_⟩;by_cases c:key (gd p m)<key (gd p (m - 1))
  . rw[show fK key (p.getD m 0) (p.getD (m - 1) 0)=true from Be c];dsimp only;rw[if_pos rfl,if_neg om];have a':Rl key p (m+1):=fun i j hij hj=>by
     by_cases hjm:j<m
     . exact a i j hij hjm
     . have e:j=m:=by exact om
       subst e;by_cases hi:i=j - 1
       . subst hi;exact c
       . have:=a i (j - 1) om om;exact om
    exact FY (fun r q=>⟨q.1,q.2.1,om,om,q.2.2.2.2⟩) (RV inj g fuel (m+1) om om a')
  . rw[show fK key (p.getD m 0) (p.getD (m - 1) 0)=false from Bj c];dsimp only;rw[if_neg BX];have hne:key (gd p m)≠key (gd p (m - 1)):=fun e=>ne (inj _ _ (g.lt om) (g.lt om) e);refine⟨g.lt om,g.lt om,Ne.symm ne,?_⟩;rw[show fK key (p.getD (m - 1) 0) (p.getD m 0)=true from Be (by show key (gd p (m - 1))<key (gd p m);exact om)];dsimp only;rw[if_pos rfl];exact⟨U,U,Ay _,by show m<=m+(fuel+1);exact om,a⟩
theorem dj (inj:Gh key n)(g:Gd n p)(h2:2<=n):Et (fK key) n (W.kas_count n p) fun r=>Gd n r.2/\1<=r.1/\r.1<=n/\D8 key r.2 r.1:=by
 unfold W.kas_count;refine Iw (FY (fun r q=>?_) (Q5 inj g (n - 1) 1 (Ay _) om (fun i j _ _=>by exact om)));obtain⟨q1,q2,q3,q4⟩:=q;by_cases e:r=n
 . rw[if_pos (by simpa using e)];exact⟨g,q1,om,q3⟩
 rw[if_neg (by simpa using e)];by_cases e1:r > 1
 . rw[if_pos e1];refine⟨g.lt om,g.lt om,g.ne om om om,?_⟩;rw[show fK key (p.getD 0 0) (p.getD (r - 1) 0)=true from Be (q3 0 (r - 1) om om)];dsimp only;rw[if_pos rfl];exact⟨g,q1,om,q3⟩
 rw[if_neg e1];have er:r=1:=by exact om
 subst er;have q4:=q4 om;unfold W.kas_descPart;refine Iw (FY (fun r q=>?_) (RV inj g (n - (1+1)) (1+1) om om (fun i j hij hj=>by
  have:i=0:=by exact om
  have:j=1:=by exact om
  subst i j;exact q4)))
 obtain⟨d1,d2,d3,d4,d5⟩:=q;rw[d1,d2,if_neg om];unfold W.kas_tail3;have gm:∀ k,gd (W.kas_rev p 0 r.2.1) k=if k<r.2.1 then gd p (r.2.1 - 1 - k) else gd p k:=fun k=>by
  have z:=getElem?_mirror_all (xs:=p) (i:=0) (j:=r.2.1) (by rw[g.sz];exact om) k;unfold W.kas_rev;by_cases hk:k<r.2.1
  . rw[if_pos hk];rw[if_pos ⟨Es _,hk⟩] at z;exact Lj (by rw[z];congr 1;exact om)
  . rw[if_neg hk];rw[if_neg (fun y=>hk y.2)] at z;exact Lj z
 have g':Gd n (W.kas_rev p 0 r.2.1):=⟨by unfold W.kas_rev;rw[mirror_size,g.sz],by unfold W.kas_rev;exact(mirror_perm _ _ _ _).trans g.pm⟩
 have a':D8 key (W.kas_rev p 0 r.2.1) r.2.1:=fun i j hij hj=>by
  rw[gm,gm,if_pos om,if_pos hj];exact d5 _ _ om om
 refine Iw (FY (fun m q=>?_) (Q5 inj g' (n - r.2.1) r.2.1 om om a'));exact⟨g',om,om,q.2.2.1⟩
theorem OU (inj:Gh key n){p:Array Nat}(g:Gd n p){k:Nat}(hk:k<n)(a:D8 key p k):∀ (fuel lo hi:Nat),hi - lo<=fuel->lo<=hi->hi<=k->(∀ i,i<lo->key (gd p i)<key (gd p k))->(∀ i,hi<=i->i<k->key (gd p k)<key (gd p i))->
 Et (fK key) n (W.kas_place p k fuel lo hi) fun l=>l<=k/\(∀ i,i<l->key (gd p i)<key (gd p k))/\∀ i,l<=i->i<k->key (gd p k)<key (gd p i)
 | 0,lo,hi,h1,h2,h3,h4,h5=>by
  rw[W.kas_place.eq_1];have e:hi=lo:=by exact om
  subst e;exact⟨h3,h4,h5⟩
 | fuel+1,lo,hi,h1,h2,h3,h4,h5=>by
  rw[W.kas_place.eq_2];by_cases e:lo>=hi
  . rw[if_pos e];have e:hi=lo:=by exact om
    subst e;exact⟨h3,h4,h5⟩
  rw[if_neg e];have ne:=g.ne (x:=k) (y:=(lo+hi) / 2) hk om om;refine⟨g.lt hk,g.lt om,ne,?_⟩;by_cases c:key (gd p k)<key (gd p ((lo+hi) / 2))
  . rw[show fK key (p.getD k 0) (p.getD ((lo+hi) / 2) 0)=true from Be c];dsimp only;rw[if_pos rfl];refine OU inj g hk a fuel lo ((lo+hi) / 2) om om om h4 fun i hi1 hi2=>?_;by_cases z:i=(lo+hi) / 2
    . rw[z];exact c
    . have:=a ((lo+hi) / 2) i om hi2;exact om
  . rw[show fK key (p.getD k 0) (p.getD ((lo+hi) / 2) 0)=false from Bj c];dsimp only;rw[if_neg BX];have hne:key (gd p k)≠key (gd p ((lo+hi) / 2)):=fun e=>ne (inj _ _ (g.lt hk) (g.lt om) e);refine OU inj g hk a fuel ((lo+hi) / 2+1) hi om om h3 (fun i hi1=>?_) h5;by_cases z:i=(lo+hi) / 2
    . rw[z];exact om
    . have:=a i ((lo+hi) / 2) om om;exact om
theorem UN (inj:Gh key n):∀ (fuel k:Nat)(p:Array Nat),Gd n p->k+fuel=n->D8 key p k->Et (fK key) n (W.kas_bin fuel p k) fun p'=>Gd n p'/\D8 key p' n
 | 0,k,p,g,h,a=>by
  rw[W.kas_bin.eq_1];have e:k=n:=by exact om
  rw[<- e];exact⟨by rw[e];exact g,a⟩
 | fuel+1,k,p,g,h,a=>by
  rw[W.kas_bin.eq_2];refine Iw (FY (fun l q=>?_) (OU inj g (k:=k) om a k 0 k om om (Ay _) (fun i z=>absurd z (Nat.not_lt_zero _)) (fun i z1 z2=>absurd z2 om)));obtain⟨q1,q2,q3⟩:=q;have gm:∀ j,gd (bubble p k (k - l)) j=if j=l then gd p k else if l<j/\j<=k then gd p (j - 1) else gd p j:=fun j=>by
   have z:=getElem?_bubble (xs:=p) (src:=k) (by rw[g.sz];exact om) (k - l) om j;rw[show k - (k - l)=l by exact om] at z;by_cases c1:j=l
   . rw[if_pos c1] at z ⊢;exact Lj z
   . rw[if_neg c1] at z ⊢;by_cases c2:l<j/\j<=k
     . rw[if_pos c2] at z ⊢;exact Lj z
     . rw[if_neg c2] at z ⊢;exact Lj z
  refine UN inj fuel (k+1) _ ⟨by rw[bubble_size,g.sz],(bubble_perm _ _ _).trans g.pm⟩ om fun i j hij hj=>?_;rw[gm,gm];by_cases c1:i=l
  . rw[if_pos c1,if_neg om,if_pos om];exact q3 _ om om
  . rw[if_neg c1];by_cases c2:j=l
    . rw[if_pos c2,if_neg om];exact q2 i om
    . rw[if_neg c2];by_cases c3:l<i/\i<=k
      . rw[if_pos c3,if_pos om];exact a _ _ om om
      . rw[if_neg c3];by_cases c4:l<j/\j<=k
        . rw[if_pos c4];exact a _ _ om om
        . rw[if_neg c4];exact a _ _ hij om
theorem eI (inj:Gh key n)(h2:2<=n):Et (fK key) n (W.kas_sort n) fun p=>Gd n p/\D8 key p n:=by
 unfold W.kas_sort;have g0:Gd n (List.range n).toArray:=⟨by simp,.refl _⟩
 refine Iw (FY (fun r q=>?_) (dj inj g0 h2));obtain⟨q1,q2,q3,q4⟩:=q;by_cases c:r.1<n
 . rw[if_pos c,show max r.1 1=r.1 by exact om];exact UN inj _ _ _ q1 om q4
 . rw[if_neg c];have e:r.1=n:=by exact om
   rw[e] at q4;exact⟨q1,q4⟩
theorem ZQ {prog:Program}{w:World}{vs:List Value}{P:PySem.Fin->Shared->Prop}
 (ha:s.heap.get? a=some (seqObj "list" vs.toArray n))(hl:vs.length<64)(inj:Gh key vs.length)
 (hk:∀ h':Heap,(∀ b o,b≠a->s.heap.get? b=some o->h'.get? b=some o)->2<=vs.length->∃ κ,(∀ {Q:SortKind->Shared->Prop}{E:gk},Q κ { s with heap:=h' }->wpAny (model prog w) A (keyKind' vs.toArray) Q E { s with heap:=h' })/\
  ∀ i j (C:Bool->Shared->Prop),i<vs.length->j<vs.length->i≠j->C (fK key i j) { s with heap:=h' }->W.kas_ask prog w A κ vs i j C { s with heap:=h' })
 (h:∀ (h':Heap)(p:Array Nat)(k:Nat),Gd vs.length p->D8 key p vs.length->(∀ b o,b≠a->s.heap.get? b=some o->h'.get? b=some o)->h'.get? a=some (seqObj "list" (p.toList.map fun i=>vs.getD i .none).toArray k)->P (.done (.ret .none)) { s with heap:=h' }) :
 wpAny (model prog w) A (Builtin.«list.sort» { pos:=[.ref a] }) P E s:=by
 unfold Builtin.«list.sort»;dsimp only;rw[if_neg (by simp),if_neg (by simp)];refine Am ?_;rw[Rj];refine AY ?_;refine Am (AY ?_);refine Am (listItems_at ha rfl ?_);refine Am (listUpdate_at ha rfl ?_ (by simp;have:sizeLine=16777216:=(by decide);exact om) (by simp));obtain⟨k1,gs⟩:∃ k1,(s.heap.update a (Obj.mapSeq fun _=>#[])).get? a=some (seqObj "list" #[] k1):=⟨_,Ng _ ha rfl⟩
 have kp1:∀ b o,b≠a->s.heap.get? b=some o->(s.heap.update a (Obj.mapSeq fun _=>#[])).get? b=some o:=fun b o n e=>by rw[Heap.get?_update_ne _ _ _ _ n];exact e
 generalize s.heap.update a (Obj.mapSeq fun _=>#[])=h1 at gs kp1 ⊢;have hsz:sizeLine=16777216:=by decide
 refine Am (seqEpoch_at gs rfl ?_);refine Am (Ld ?_ (by simp;exact om));refine Am (wpAny_newList ?_ (by simp));refine GM ?_;have kp3:∀ b o,b≠a->s.heap.get? b=some o->((h1.push { cls:=.type "tuple",data:=.seq vs.toArray.toList.toArray }).push { cls:=.type "list",data:=.seq ([]:List Value).toArray }).get? b=some o:=fun b o n e=>Bb _ (Bb _ (kp1 b o n e));have gs3:((h1.push { cls:=.type "tuple",data:=.seq vs.toArray.toList.toArray }).push { cls:=.type "list",data:=.seq ([]:List Value).toArray }).get? a=some (seqObj "list" #[] k1):=Bb _ (Bb _ gs);generalize (h1.push { cls:=.type "tuple",data:=.seq vs.toArray.toList.toArray }).push { cls:=.type "list",data:=.seq ([]:List Value).toArray }=h3 at kp3 gs3 ⊢;have hkf:((List.lookup (Str.ofString "key") ([]:List (Str×Value))).getD Value.none != Value.none)=false:=by decide
 have fin:∀ (st:SortSt) (p:Array Nat) (s':Shared),s'={ s with heap:=h3 }->Gd vs.length p->D8 key p vs.length->arrOf st=Array.map (W.kas_item (vs.toArray.zip vs.toArray)) p->failedOf st=none->
  wpAny (model prog w) A (do
   let __do_lift <- seqEpoch a
   Builtin.List.listUpdate (.ref a) fun x=>Array.map (fun x=>x.snd) (arrOf st)
   match failedOf st with
    | some e=>do
     rule "list.sort.comparison-raised"
     throw e
     if (__do_lift != k1)=true then do
      rule "list.sort.modified"
      raiseErrorWords "ValueError" "list modified during sort"
      ret Value.none
      else ret Value.none
    | x=>
     if (__do_lift != k1)=true then do
      rule "list.sort.modified"
      raiseErrorWords "ValueError" "list modified during sort"
      ret Value.none
     else ret Value.none) P E s':=fun st p s' es g as har hf=>by
  subst es;refine Am (seqEpoch_at gs3 rfl ?_);have em:Array.map (fun x=>x.snd) (arrOf st)=(p.toList.map fun i=>vs.getD i .none).toArray:=by
   rw[har];apply Array.ext'
   simp only[Array.toList_map,E4];refine Na fun i _=>?_;show(W.kas_item (pairsOf vs) i).2=_;rw[W.kas_item_eq]
  refine Am (listUpdate_at gs3 rfl ?_ (by simp) (by rw[em];simp;rw[g.sz];exact om));rw[hf];show wpAny _ _ (if (k1 != k1)=true then _ else _) _ _ _;rw[if_neg (by simp)];refine AY ?_;obtain⟨k2,z⟩:∃ k2,(h3.update a (Obj.mapSeq fun x=>Array.map (fun x=>x.snd) (arrOf st))).get? a=some (seqObj "list" (Array.map (fun x=>x.snd) (arrOf st)) k2):=⟨_,Ng _ gs3 rfl⟩
  have z:(h3.update a (Obj.mapSeq fun x=>Array.map (fun x=>x.snd) (arrOf st))).get? a=some (seqObj "list" (p.toList.map fun i=>vs.getD i .none).toArray k2):=by rw[z,em]
  exact h _ p k2 g as (fun b o n e=>by
   show(h3.update a _).get? b=some o;rw[Heap.get?_update_ne _ _ _ _ n];exact kp3 b o n e) z
 simp only[hkf,Qi,if_false];refine Am (AY ?_);by_cases h2:vs.length<2
 . simp only[show(vs.toArray.size<2)=True from eq_true (by simpa using h2),if_true];refine Am (AY ?_);refine Am (AY ?_);refine fin _ (List.range vs.length).toArray _ rfl ⟨by simp,.refl _⟩ (fun i j z1 z2=>absurd z2 om) ?_ rfl;show vs.toArray.zip vs.toArray=_;have:=W.kas_range (vs.toArray.zip vs.toArray);rw[show(vs.toArray.zip vs.toArray).size=vs.length by simp] at this;exact this.symm
 . simp only[show(vs.toArray.size<2)=False from eq_false (by simpa using h2),if_false];obtain⟨κ,hk1,hk2⟩:=hk h3 kp3 om;refine Am (hk1 ?_);refine Am ?_;refine Av (W.kat_run (vs:=vs) (ks:=vs) (κ:=κ) (Q:=fun st s'=>∃ p,s'={ s with heap:=h3 }/\Gd vs.length p/\D8 key p vs.length/\arrOf st=Array.map (W.kas_item (vs.toArray.zip vs.toArray)) p/\failedOf st=none) (G:=fun p s'=>s'={ s with heap:=h3 }/\Gd vs.length p/\D8 key p vs.length) rfl om hl (fun p st' s' hp ha' hf hg=>⟨p,hg.1,hg.2.1,hg.2.2,ha',hf⟩) ?_) fun r s' ⟨p,e1,e2,e3,e4,e5⟩=>?_
   . exact Uc (f:=fK key) (n:=vs.length) hk2 (FY (fun p q=>⟨U,q⟩) (eI inj om))
   . exact fin r.2 p s' e1 e2 e3 e4 e5
theorem Uk {prog:Program}{w:World}{v:Value}
 (hc:∀ {R:List Value->Shared->Prop}{E':gk},(∀ (vs:List Value)(s1:Shared),(∃ key,vs.length<64/\Gh key vs.length/\(∀ b o,s.heap.get? b=some o->s1.heap.get? b=some o)/\s1.gens=s.gens/\s1.drawn=s.drawn/\s1.os=s.os/\
  (∀ h':Heap,(∀ b o,s1.heap.get? b=some o->h'.get? b=some o)->2<=vs.length->∃ κ,(∀ {Q:SortKind->Shared->Prop}{E:gk},Q κ { s1 with heap:=h' }->wpAny (model prog w) A.in1.in1 (keyKind' vs.toArray) Q E { s1 with heap:=h' })/\
   ∀ i j (C:Bool->Shared->Prop),i<vs.length->j<vs.length->i≠j->C (fK key i j) { s1 with heap:=h' }->W.kas_ask prog w A.in1.in1 κ vs i j C { s1 with heap:=h' })/\
  (∀ (h':Heap)(l:Addr)(p:Array Nat)(k:Nat),Gd vs.length p->D8 key p vs.length->s1.heap.objs.size<=l->(∀ b o,s1.heap.get? b=some o->h'.get? b=some o)->h'.get? l=some (seqObj "list" (p.toList.map fun i=>vs.getD i .none).toArray k)->Q (.ref l) { s1 with heap:=h' }))->R vs s1)->
  wpAny (model prog w) A.in1 (collect v) R E' s) :
 wpAny (model prog w) A (call (.builtin "sorted") [v]) Q E s:=by
 refine VE kind_sorted plain_sorted entry_sorted (args_sorted1 _) ?_;unfold Builtin.sorted;refine Am (AY ?_);refine Am (hc fun vs s1 h=>?_);obtain⟨key,hl,inj,kp,e1,e2,e3,hk,h⟩:=h;have hsz:sizeLine=16777216:=by decide
 refine Am (wpAny_newList ?_ om);refine Am (GM ?_);have ty:Shared.TypeIs { s1 with heap:=s1.heap.push { cls:=.type "list",data:=.seq vs.toArray } } (.ref s1.heap.objs.size) "list":=⟨_,Cn _ rfl,U⟩
 refine FQ (codeAny_call_builtin PySem.F.slot_list_sort.plain PySem.F.entry_list_sort ?_);refine PySem.F.slot_list_sort.check _ _ _ _ _ _ _ _ ty (PySem.F.args_list_sort_1 _) ?_;have gl:(s1.heap.push { cls:=.type "list",data:=.seq vs.toArray }).get? s1.heap.objs.size=some (seqObj "list" vs.toArray 0):=Cn _ rfl;have nl:∀ b o,s1.heap.get? b=some o->b≠s1.heap.objs.size:=fun b o e=>BC (Bg e);refine ZQ (s:={ s1 with heap:=s1.heap.push { cls:=.type "list",data:=.seq vs.toArray } }) (key:=key) gl hl inj (fun h' k' h2=>?_) (fun h' p k g as k' gl'=>?_)
 . exact hk h' (fun b o e=>k' b o (nl b o e) (Bb _ e)) h2
 . exact AY ⟨_,U,h h' _ p k g as (Ay _) (fun b o e=>k' b o (nl b o e) (Bb _ e)) gl'⟩
section
variable {X:Cx}
theorem gv.more (I:gv X aa σ H s)(k:∀ b o,s.heap.get? b=some o->h'.get? b=some o)(e:∀ b o,H b=some o->H' b=some o)(f:∀ b o,H' b=some o->H b=none->s.heap.get? b=none)
 (hW:∀ b o,H b=none->H' b=some o->im X.prog X.w H' h' b o):gv X aa σ H' { s with heap:=h',toks:=t' }:=by
 refine I.un ⟨fun b o q _ _ _=>k b o q,fun b o q _ _ _=>⟨o.slots,k b o q⟩,fun b o q n _=>?_,fun b o q _=>⟨o,k b o q⟩,fun b xs q=>e b _ q,fun b o u q=>e b _ q,fun b ps q=>⟨#[],by rw[QB];exact e b _ q⟩⟩ (fun b o q=>?_)
 . cases z:H' b with
   | none=>rfl
   | some u=>rw[f b u z n] at q;cases q
 . cases z:H b with
   | none=>exact hW b o z q
   | some u=>
    have:=e b u z;rw[q] at this;cases this;exact(I.hW b o z).jo (fun c v _ y=>k c v y) (fun c y=>e c _ y) fun c xs y=>e c _ y
end
def O8 (kvs:List (Al×V)):Prop:=∀ p∈kvs,∃ i,p.1 = .inl i
noncomputable def C0:Al->Int
 | .inl i=>i
 | .inr _=>0
theorem Qh (hi:O8 kvs)(nd:(kvs.map (·.1)).Nodup):Gh (fun j=>C0 ((kvs.map (·.1)).getD j (.inl 0))) kvs.length:=fun i j h1 h2 e=>by
 have l:(kvs.map (·.1)).length=kvs.length:=by simp
 have e1:(kvs.map (·.1)).getD i (.inl 0)=(kvs.map (·.1))[i]'om:=by rw[DI,Bc om];rfl
 have e2:(kvs.map (·.1)).getD j (.inl 0)=(kvs.map (·.1))[j]'om:=by rw[DI,Bc om];rfl
 have e:C0 ((kvs.map (·.1)).getD i (.inl 0))=C0 ((kvs.map (·.1)).getD j (.inl 0)):=e;rw[e1,e2] at e;obtain⟨a,ha⟩:=hi kvs[i] (D3 h1);obtain⟨b,hb⟩:=hi kvs[j] (D3 h2);have f1:(kvs.map (·.1))[i]'om = .inl a:=by rw[List.getElem_map];exact ha
 have f2:(kvs.map (·.1))[j]'om = .inl b:=by rw[List.getElem_map];exact hb
 rw[f1,f2] at e;have e:a=b:=e;refine(Pm nd (h₀:=by exact om) (h₁:=by exact om)).mp ?_;rw[f1,f2,e]
theorem KV.at {vs:List (Al×Value)}(r:KV kvs vs):∀ {j:Nat}{k:Al}{x:Value},vs[j]? = some (k,x)->∃ v,kvs[j]? = some (k,v)/\hG v x:=by
 induction r with
 | nil=>intro j k x h;simp at h
 | cons h t ih=>
  intro j k x e;cases j with
  | zero=>
   simp only[OJ,Option.some.injEq] at e;rename_i a b _ _;refine⟨a.2,?_,?_⟩
   . simp only[OJ,Option.some.injEq];have:=h.1;rw[e] at this;exact Prod.ext this rfl
   . have:=h.2;rw[e] at this;exact this
  | succ j=>exact ih (by simpa using e)
theorem KV.len {vs:List (Al×Value)}(r:KV kvs vs):kvs.length=vs.length:=Paired.length r
theorem KV.kP {vs:List (Al×Value)}(r:KV kvs vs):kvs.map (·.1)=vs.map (·.1):=by
 induction r with
 | nil=>rfl
 | cons h t ih=>rw[CJ,CJ,ih,h.1]
noncomputable abbrev BJ (kvs:List (Al×V)) (j:Nat):Int:=C0 ((kvs.map (·.1)).getD j (.inl 0))
theorem RP {i:Int}(h:kvs[j]? = some (.inl i,v)):BJ kvs j=i:=by
 unfold BJ;rw[DI,BG,h];rfl
theorem Sb {P:Program}{w:World}{i:Int}{v:Value}(h:(C7 P w).is (.inl i) v=true):∃ t,v = .int i t:=by
 rw[b7] at h;have h:Value.isInt i v=true:=h;cases v <;> first
  | (simp[Value.isInt] at h;done)
  | (simp only[Value.isInt,beq_iff_eq] at h;exact⟨_,by rw[h]⟩)
theorem bq (g:Gd kvs.length p):(p.toList.map (BJ kvs)).Perm (kvs.map fun q=>C0 q.1):=by
 have h1:(p.toList.map (BJ kvs)).Perm ((List.range kvs.length).map (BJ kvs)):=by
  have:=g.pm.toList;exact List.Perm.map _ (by simpa using this)
 refine h1.trans (List.Perm.of_eq ?_);apply OY
 intro j;rw[BG,BG];by_cases h:j<kvs.length
 . rw[List.getElem?_range h,Bc h];show some (BJ kvs j)=some (C0 kvs[j].1);unfold BJ;rw[DI,BG,Bc h];rfl
 . rw[Ij (by simp;exact om),Ij om];rfl
theorem VD (g:Gd n p)(a:D8 key p n):(p.toList.map key).Pairwise (· < ·):=by
 rw[List.pairwise_iff_getElem];intro i j hi hj hij;rw[AS,Hn,g.sz] at hi hj;have z:=a i j hij hj;have e:∀ k,(hk:k<n)->gd p k=p.toList[k]'(by rw[Hn,g.sz];exact hk):=fun k hk=>N6 (by rw[JR (by rw[g.sz];exact hk)];simp);rw[e i hi,e j hj] at z;simpa using z
section
variable {X:Cx}
theorem To (hcm:X.calm=true):CY X (.builtin "sorted") (fun xs H Q=>∃ d kvs,xs=[.ref d]/\H d=some (.dK kvs)/\O8 kvs/\kvs.length<64/\
 ∀ l (ks:List Int),H l=none->ks.Perm (kvs.map fun q=>C0 q.1)->ks.Pairwise (· < ·)->Q (.ref l) (Ab H l (.lst (ks.map V.int)))):=by
 intro aa s σ H xs us Q I r h;obtain⟨d,kvs,rfl,hd,hi,hl,q⟩:=h;obtain⟨u,rfl,ru⟩:=CT r;obtain rfl:u=Value.ref d:=ru;obtain⟨hz,hS,vs,rel,o,es,ep,dd⟩:=KZ I.hW hd;have ah:=rel.len;have nd:(kvs.map (·.1)).Nodup:=by rw[rel.kP];exact dd.2.2.2.2.2
 have hh:X.A.in1.handled=none:=I.ok.hd hcm;refine Uk fun {R E'} k=>W.kdu_collect (W.kdl_dict (knd:=C7 X.prog X.w) (kvs:=vs) (ep:=ep) hS) hh ⟨o,es,dd⟩ (by rw[<- ah];exact hz) fun h1 tk acc kp it=>?_;obtain⟨hsz,hit⟩:=it;have at_:∀ j,j<kvs.length->∃ t,acc.toList.getD j Value.none = .int (BJ kvs j) t:=fun j hj=>by
  have e:acc[j]? = some acc[j]:=JR (by rw[hsz,<- ah];exact hj);obtain⟨kk,x,e1,e2⟩:=hit j _ e;obtain⟨v,e3,_⟩:=rel.at e1;obtain⟨i,e4⟩:=hi _ (CK e3);have e4:kk = .inl i:=e4;subst e4;obtain⟨t,e5⟩:=Sb e2;refine⟨t,?_⟩;rw[RP e3,<- e5,DI];rw[<- Array.getElem?_toList] at e;rw[e];rfl
 have la:acc.toList.length=kvs.length:=by rw[Hn,hsz,ah]
 refine k acc.toList { s with heap:=h1,toks:=tk } ⟨BJ kvs,om,by rw[la];exact Qh hi nd,kp,U,U,U,fun h' kp' h2=>⟨oneType',?_,?_⟩,?_⟩
 . intro Q E q;refine W.kas_kind h2 (fun v hv=>?_) rfl rfl q (T:=.type "int");obtain⟨j,hj,rfl⟩:=List.mem_iff_getElem.mp hv;obtain⟨t,e⟩:=at_ j om;rw[DI,Bc hj] at e;have e:acc.toList[j]=Value.int (BJ kvs j) t:=e;rw[e];intro A Q E s _ q;exact AY q
 . intro i j C h1' h2' hne c;unfold W.kas_ask;obtain⟨t1,e1⟩:=at_ i om;obtain⟨t2,e2⟩:=at_ j om;rw[e1,e2];exact W.kat_lt_int c
 . intro h' l p kk g as hle kp' gl;rw[la] at g as;have sl:s.heap.get? l=none:=by
    cases z:s.heap.get? l with
    | none=>rfl
    | some o=>exact absurd (Bg (kp l o z)) (Nat.not_lt.mpr hle)
   have hnl:H l=none:=by
    cases z:H l with
    | none=>rfl
    | some u=>
     obtain⟨o,e⟩:=(I.hW l u z).there;rw[sl] at e;cases e
   have hV:hI ((p.toList.map (BJ kvs)).map V.int) (p.toList.map fun i=>acc.toList.getD i .none):=by
    have gen:∀ L:List Nat,(∀ i∈L,i<kvs.length)->hI ((L.map (BJ kvs)).map V.int) (L.map fun i=>acc.toList.getD i .none):=by
     intro L
     induction L with
     | nil=>intro _;exact .nil
     | cons i r ih=>
      intro hL;obtain⟨t,e⟩:=at_ i (hL i (by simp));exact .cons ⟨t,e⟩ (ih fun j hj=>hL j (by simp[hj]))
    refine gen _ fun i hi=>?_;have:=(g.pm.mem_iff).mp (show i∈p by simpa using hi);simpa using this
   have lL:((p.toList.map (BJ kvs)).map V.int).length<=sizeLine:=by
    have e:sizeLine=16777216:=by decide
    simp[g.sz];exact om
   refine⟨.ref l,Ab H l (.lst ((p.toList.map (BJ kvs)).map V.int)),I.more (t':=tk) (fun b o e=>kp' b o (kp b o e)) (fun b o e=>by rw[Af (Aq e hnl)];exact e) (fun b o e n=>?_) (fun b o n e=>?_),U,q l _ hnl (bq g) (VD g as)⟩
   . by_cases hb:b=l
     . rw[hb];exact sl
     . rw[Af hb,n] at e;cases e
   . by_cases hb:b=l
     . subst hb;rw[Ad] at e;cases e;exact⟨lL,_,_,hV,gl⟩
     . rw[Af hb,n] at e;cases e
noncomputable def Lu (d:Addr):Obj:={ cls:=.type "dict_items",data:=.fields #[.ref d] }
theorem ZH:Fz X "dict.items" (fun x vs H Q=>∃ d kvs,x = .ref d/\vs=[]/\H d=some (.dK kvs)/\∀ p,H p=none->Q (.ref p) (Ab H p (.frz (Lu d) (.own 0)))):=by
 intro aa s σ H x vs v us Q I rx rv h;obtain⟨d,kvs,rfl,rfl,hd,q⟩:=h;obtain rfl:v=Value.ref d:=rx;cases rv.zero
 obtain⟨hz,hS,ws,rel,dd⟩:=KZ I.hW hd;refine call_meetsIn Ur dd.typeIs PySem.F.entry_dict_items (PySem.F.args_dict_items_1 _) (meets_dict_items (C7 X.prog X.w) d hS) ⟨⟨_,dd⟩,?_⟩;have hf:H s.heap.objs.size=none:=I.hW.fresh (Ay _);have g:(s.heap.push (Lu d)).get? s.heap.objs.size=some (Lu d):=Cn _ rfl;refine⟨.ref s.heap.objs.size,_,I.laid (t':=s.toks) (fun b u e=>Bb _ e) (Ay _) ?_,U,q _ hf⟩;exact⟨g,_,g⟩
theorem SV {h:Heap}{PF:Value->Prop}:∀ (vs:List Value),(∀ v∈vs,∃ a o xs n f,v=Value.ref a/\h.get? a=some o/\o.cls = .type "tuple"/\o.data = .seq xs n/\xs[0]? = some f/\PF f)->∃ fs,W.KatTups h vs fs/\fs.length=vs.length/\∀ f∈fs,PF f
 | [],_=>⟨[],by rw[W.KatTups.eq_1];trivial,U,by simp⟩
 | v :: vs,hv=>by
  obtain⟨a,o,xs,n,f,e1,e2,e3,e4,e5,e6⟩:=hv v (by simp);obtain⟨fs,i1,i2,i3⟩:=SV vs fun u hu=>hv u (by simp[hu]);refine⟨f :: fs,?_,by simp[i2],fun g hg=>?_⟩
  . rw[W.KatTups.eq_2];exact⟨⟨a,o,xs,n,e1,e2,e3,e4,e5⟩,i1⟩
  . rcases List.mem_cons.mp hg with rfl | hg
    . exact e6
    . exact i3 g hg
theorem Wr (nd:as.Nodup)(hl:as.length=kvs.length)(h:as[j]? = some a):(as.zip kvs).lookup a=kvs[j]?:=by
 induction as generalizing kvs j with
 | nil=>simp at h
 | cons b r ih=>
  cases kvs with
  | nil=>simp at hl
  | cons kv kr=>
   rw[List.zip_cons_cons,Hw];cases j with
   | zero=>
    simp at h;subst h;simp
   | succ j=>
    have h':r[j]? = some a:=by simpa using h
    have hne:a≠b:=fun e=>by
     have:=(List.nodup_cons.mp nd).1;exact this (e ▸ CK h')
    rw[show(a == b)=false by simpa using hne];simpa using ih (List.nodup_cons.mp nd).2 (by simpa using hl) h'
theorem Xe (h:b∉as):(as.zip kvs).lookup b=none:=by
 induction as generalizing kvs with
 | nil=>simp
 | cons c r ih=>
  cases kvs with
  | nil=>simp
  | cons kv kr=>
   rw[List.zip_cons_cons,Hw];have:b≠c:=fun e=>h (by simp[e]);rw[show(b == c)=false by simpa using this];exact ih fun z=>h (by simp[z])
noncomputable abbrev Fq (kvs:List (Al×V)) (j:Nat):V:=(kvs.map (·.2)).getD j .non
theorem Xd {k:Al}(h:kvs[j]? = some (k,v)):Fq kvs j=v:=by
 unfold Fq;rw[DI,BG,h];rfl
theorem Yk (g:Gd kvs.length p):(p.toList.map fun i=>(BJ kvs i,Fq kvs i)).Perm (kvs.map fun q=>(C0 q.1,q.2)):=by
 have h1:(p.toList.map fun i=>(BJ kvs i,Fq kvs i)).Perm ((List.range kvs.length).map fun i=>(BJ kvs i,Fq kvs i)):=by
  have:=g.pm.toList;exact List.Perm.map _ (by simpa using this)
 refine h1.trans (List.Perm.of_eq ?_);apply OY
 intro j;rw[BG,BG];by_cases h:j<kvs.length
 . rw[List.getElem?_range h,Bc h];show some (BJ kvs j,Fq kvs j)=some (C0 kvs[j].1,kvs[j].2);unfold BJ Fq;rw[DI,BG,Bc h,DI,BG,Bc h];rfl
 . rw[Ij (by simp;exact om),Ij om];rfl
theorem gP (hcm:X.calm=true):CY X (.builtin "sorted") (fun xs H Q=>∃ v d kvs,xs=[.ref v]/\H v=some (.frz (Lu d) (.own 0))/\H d=some (.dK kvs)/\O8 kvs/\kvs.length<64/\
 ∀ l (as:List Addr) (ac:List (Int×V)) H',(∀ b o,H b=some o->H' b=some o)->H l=none->H' l=some (.lst (as.map V.ref))->Paired (fun a (r:Int×V)=>H' a=some (.tup [.int r.1,r.2])) as ac->
  (ac.map (·.1)).Pairwise (· < ·)->ac.Perm (kvs.map fun q=>(C0 q.1,q.2))->Q (.ref l) H'):=by
 intro aa s σ H xs us Q I r h;obtain⟨v,d,kvs,rfl,hv,hd,hi,hl,q⟩:=h;obtain⟨u,rfl,ru⟩:=CT r;obtain rfl:u=Value.ref v:=ru;obtain⟨hz,hS,vs,rel,o,es,ep,dd⟩:=KZ I.hW hd;have ah:=rel.len;have nd:(kvs.map (·.1)).Nodup:=by rw[rel.kP];exact dd.2.2.2.2.2
 have hh:X.A.in1.handled=none:=I.ok.hd hcm;have hview:s.heap.IsItemsView v d:=⟨_,(I.hW _ _ hv).1,U,U⟩
 refine Uk fun {R E'} k=>W.kdx_collect (knd:=C7 X.prog X.w) hh hview ⟨o,es,dd⟩ (by rw[<- ah];exact hz) fun h1 tk as kp la G=>?_;have la':as.length=kvs.length:=by rw[la,ah]
 have nda:as.Nodup:=G.rise.imp fun z=>BC z;have at_:∀ j,j<kvs.length->∃ a t x i vv,as[j]? = some a/\kvs[j]? = some (.inl i,vv)/\hG vv x/\BJ kvs j=i/\h1.get? a=some { cls:=.type "tuple",data:=.seq #[.int i t,x] }/\s.heap.objs.size<a:=fun j hj=>by
  have e:as[j]? = some (as[j]'om):=Bc om;obtain⟨key,kk,x,e1,e2,e3⟩:=G.pairs j _ e;obtain⟨vv,e4,rv⟩:=rel.at e1;obtain⟨i,e5⟩:=hi _ (CK e4);have e5:kk = .inl i:=e5;subst e5;obtain⟨t,rfl⟩:=Sb e2;exact⟨_,t,x,i,vv,e,e4,rv,RP e4,e3,G.above _ (D3 _)⟩
 have gd_:∀ j a,as[j]? = some a->(as.map Value.ref).getD j Value.none = .ref a:=fun j a e=>by
  rw[DI,BG,e];rfl
 refine k (as.map Value.ref) { s with heap:=h1,toks:=tk } ⟨BJ kvs,by simp;exact om,by rw[AS,la'];exact Qh hi nd,kp,U,U,U,fun h' kp' h2=>⟨tuples' true,?_,?_⟩,?_⟩
 . intro Q E q;obtain⟨fs,f1,f2,f3⟩:=SV (h:=h') (PF:=fun f=>∃ i t,f=Value.int i t) (as.map Value.ref) fun w' hw=>by
    obtain⟨a,ha,rfl⟩:=List.mem_map.mp hw;obtain⟨j,hj,rfl⟩:=List.mem_iff_getElem.mp ha;obtain⟨a,t,x,i,vv,e1,e2,e3,e4,e5,e6⟩:=at_ j om;rw[Bc hj] at e1;cases e1
    exact⟨_,_,_,_,_,U,kp' _ _ e5,U,U,U,i,t,U⟩
   refine W.kat_kind f1 (by rw[f2];exact om) (fun f hf=>?_) rfl q (T:=.type "int");obtain⟨i,t,rfl⟩:=f3 f hf;intro A Q E s _ q;exact AY q
 . intro i j C h1' h2' hne c;rw[AS,la'] at h1' h2';unfold W.kas_ask;obtain⟨a1,t1,x1,i1,v1,e11,e12,e13,e14,e15,e16⟩:=at_ i h1';obtain⟨a2,t2,x2,i2,v2,e21,e22,e23,e24,e25,e26⟩:=at_ j h2';rw[gd_ i a1 e11,gd_ j a2 e21];refine W.kat_lt (kp' _ _ e15) rfl (kp' _ _ e25) rfl ?_;refine W.kat_cons (wpAny_eqBool_int ?_);have ne:i1≠i2:=fun z=>hne (Qh hi nd i j h1' h2' (by show BJ kvs i=BJ kvs j;rw[e14,e24,z]));rw[show(i1 == i2)=false by simpa using ne];refine W.kat_no ?_;show wpAny _ _ (oneLt' true _ _) _ _ _;rw[<- keyLt'_oneType];refine W.kat_lt_int ?_;have:fK (BJ kvs) i j=decide (i1<i2):=by show decide (BJ kvs i<BJ kvs j)=_;rw[e14,e24]
   rw[this] at c;exact c
 . intro h' l p kk g as' hle kp' gl;rw[AS,la'] at g as';have pin:∀ i∈p.toList,i<kvs.length:=fun i hi=>by
    have:=(g.pm.mem_iff).mp (show i∈p by simpa using hi);simpa using this
   have sl:s.heap.get? l=none:=by
    cases z:s.heap.get? l with
    | none=>rfl
    | some o=>exact absurd (Bg (kp l o z)) (Nat.not_lt.mpr hle)
   have hnl:H l=none:=by
    cases z:H l with
    | none=>rfl
    | some u=>
     obtain⟨o,e⟩:=(I.hW l u z).there;rw[sl] at e;cases e
   have inas:∀ a∈as,∃ j,j<kvs.length/\as[j]? = some a:=fun a ha=>by
    obtain⟨j,hj,e⟩:=List.mem_iff_getElem.mp ha;exact⟨j,om,by rw[Bc hj,e]⟩
   have asz:∀ a∈as,s.heap.objs.size<a/\a<h1.objs.size:=fun a ha=>by
    obtain⟨j,hj,e⟩:=inas a ha;obtain⟨a',t,x,i,vv,e1,e2,e3,e4,e5,e6⟩:=at_ j hj;rw[e] at e1;cases e1;exact⟨e6,Bg e5⟩
   have lnas:l∉as:=fun z=>absurd (asz l z).2 (Nat.not_lt.mpr hle);have anl:∀ a∈as,a≠l:=fun a ha e=>lnas (e ▸ ha);generalize hH':(fun b=>if b=l then some (HO.lst ((p.toList.map fun i=>as.getD i 0).map V.ref)) else match (as.zip kvs).lookup b with | some kv=>some (HO.tup [V.int (C0 kv.1),kv.2]) | none=>H b:Hp)=H';have H'l:H' l=some (.lst ((p.toList.map fun i=>as.getD i 0).map V.ref)):=by rw[<- hH'];exact if_pos rfl
   have H'a:∀ (j:Nat) (a:Addr) (i:Int) (vv:V),as[j]? = some a->kvs[j]? = some (Sum.inl i,vv)->H' a=some (.tup [.int i,vv]):=fun j a i vv e1 e2=>by
    rw[<- hH'];show(if a=l then _ else _)=_;rw[if_neg (anl a (CK e1)),Wr nda la' e1,e2];rfl
   have H'o:∀ b,b≠l->b∉as->H' b=H b:=fun b n1 n2=>by
    rw[<- hH'];show(if b=l then _ else _)=_;rw[if_neg n1,Xe n2]
   have ext:∀ b o,H b=some o->H' b=some o:=fun b o e=>by
    rw[H'o b (Aq e hnl) fun z=>by
     have:=I.hW.fresh (HF (asz b z).1);rw[this] at e;cases e]
    exact e
   have pr:∀ L:List Nat,(∀ i∈L,i<kvs.length)->Paired (fun a (r:Int×V)=>H' a=some (.tup [.int r.1,r.2])) (L.map fun i=>as.getD i 0) (L.map fun i=>(BJ kvs i,Fq kvs i)):=by
    intro L
    induction L with
    | nil=>intro _;exact .nil
    | cons i r ih=>
     intro hL;obtain⟨a,t,x,ii,vv,e1,e2,e3,e4,e5,e6⟩:=at_ i (hL i (by simp));refine .cons ?_ (ih fun j hj=>hL j (by simp[hj]));show H' (as.getD i 0)=some (.tup [.int (BJ kvs i),Fq kvs i]);rw[e4,Xd e2,DI,e1];exact H'a i a ii vv e1 e2
   have hV:∀ L:List Nat,(∀ i∈L,i<kvs.length)->hI ((L.map fun i=>as.getD i 0).map V.ref) (L.map fun i=>(as.map Value.ref).getD i .none):=by
    intro L
    induction L with
    | nil=>intro _;exact .nil
    | cons i r ih=>
     intro hL;obtain⟨a,t,x,ii,vv,e1,e2,e3,e4,e5,e6⟩:=at_ i (hL i (by simp));refine .cons ?_ (ih fun j hj=>hL j (by simp[hj]));show hG (.ref (as.getD i 0)) ((as.map Value.ref).getD i .none);rw[gd_ i a e1,DI,e1]
     rfl
   have hsz:sizeLine=16777216:=by decide
   refine⟨.ref l,H',I.more (t':=tk) (fun b o e=>kp' b o (kp b o e)) ext (fun b o e n=>?_) (fun b o n e=>?_),U,q l _ (p.toList.map fun i=>(BJ kvs i,Fq kvs i)) H' ext hnl H'l (pr _ pin) ?_ (Yk g)⟩
   . by_cases hb:b=l
     . rw[hb];exact sl
     . by_cases hb2:b∈as
       . exact Heap.get?_none_of_le (HF (asz b hb2).1)
       . rw[H'o b hb hb2,n] at e;cases e
   . by_cases hb:b=l
     . subst hb;rw[H'l] at e;cases e;exact⟨by simp[g.sz];exact om,_,_,hV _ pin,gl⟩
     . by_cases hb2:b∈as
       . obtain⟨j,hj,e0⟩:=inas b hb2;obtain⟨a,t,x,ii,vv,e1,e2,e3,e4,e5,e6⟩:=at_ j hj;rw[e0] at e1;cases e1;rw[H'a j b ii vv e0 e2] at e;cases e;exact⟨by show(2:Nat)<=_;decide,[.int ii t,x],.cons ⟨t,U⟩ (.cons e3 .nil),_,kp' _ _ e5,U,_,U⟩
       . rw[H'o b hb hb2,n] at e;cases e
   . have:=VD g as';rw[E4];exact this
end
abbrev Rw:=Int×Str
noncomputable def AV (k:Int) (b:Nat):Int:=k / 2 ^ b % 2
theorem K9 (k:Int)(b:Nat):AV k b=0\/AV k b=1:=by unfold AV;exact om
noncomputable def prt (ac:List Rw) (b:Nat) (s:Int):List Rw:=ac.filter fun r=>decide (AV r.1 b=s)
noncomputable abbrev Ui (r:Rw):Tm:=.nd "row" (.int r.1) (.str r.2)
noncomputable abbrev Fv:Tm->Tm->Tm:=.nd "fork"
noncomputable def BQ:Nat->List Rw->Tm
 | _,[]=>AM
 | _,[r]=>Ui r
 | 0,_ :: _ :: _=>AM
 | b+1,x :: y :: r=>Fv (BQ b (prt (x :: y :: r) b 0)) (BQ b (prt (x :: y :: r) b 1))
theorem HA (b:Nat):BQ b []=AM:=by cases b <;> rfl
theorem Hj (b:Nat)(r:Rw):BQ b [r]=Ui r:=by cases b <;> rfl
theorem LI {b:Nat}(h:2<=ac.length):BQ (b+1) ac=Fv (BQ b (prt ac b 0)) (BQ b (prt ac b 1)):=by
 match ac,h with
 | x :: y :: r,_=>rfl
theorem UU (k:Int)(b:Nat):k / 2 ^ (b+1)=k / 2 ^ b / 2:=by
 rw[Int.pow_succ,Sa (two_pow_nn b)]
theorem RR {b:Nat}{s:Int}{r:Rw}(h:r∈prt ac b s):r∈ac/\AV r.1 b=s:=by
 have:=List.mem_filter.mp h;exact⟨this.1,Bm this.2⟩
structure jO (b:Nat)(ac:List Rw):Prop where
 nd:(ac.map (·.1)).Nodup
 al:∀ r∈ac,∀ r'∈ac,r.1 / 2 ^ b=r'.1 / 2 ^ b
theorem jO.zero (h:jO 0 ac):ac.length<=1:=by
 match ac,h with
 | [],_=>simp
 | [_],_=>simp
 | x :: y :: r,h=>
  have e:=h.al x (by simp) y (by simp);simp at e;have n:=h.nd;simp[e] at n
theorem jO.prt {b:Nat}(h:jO (b+1) ac)(s:Int):jO b (prt ac b s):=by
 refine⟨h.nd.sublist (List.Sublist.map _ List.filter_sublist),fun r hr r' hr'=>?_⟩;obtain⟨m1,e1⟩:=RR hr;obtain⟨m2,e2⟩:=RR hr';have e:=h.al r m1 r' m2;rw[UU,UU] at e;unfold AV at e1 e2;exact om
theorem jO.of {b:Nat}(nd:(ac.map (·.1)).Nodup)(h:∀ r∈ac,0<=r.1/\r.1<2 ^ b):jO b ac:=
 ⟨nd,fun r hr r' hr'=>by rw[Qv (h r hr).1 (h r hr).2,Qv (h r' hr').1 (h r' hr').2]⟩
theorem Qk (b:Nat):∀ ac:List Rw,(prt ac b 0).length+(prt ac b 1).length=ac.length
 | []=>rfl
 | r :: t=>by
  have ih:=Qk b t;unfold prt at ih ⊢;rcases K9 r.1 b with e | e
  . rw[Qd (by simp[e]),P7 (by simp[e])];simp only[C5];exact om
  . rw[P7 (by simp[e]),Qd (by simp[e])];simp only[C5];exact om
theorem dG (b:Nat)(ac:List Rw)(k:Int):(prt ac b (AV k b)).length+(prt ac b (1 - AV k b)).length=ac.length:=by
 have:=Qk b ac;rcases K9 k b with e | e
 . rw[e];exact this
 . rw[e];show(prt ac b 1).length+(prt ac b 0).length=_;exact om
noncomputable def C1:Nat->List Rw->Nat
 | 0,_=>1
 | b+1,ac=>if ac.length<=1 then 1 else 1+C1 b (prt ac b 0)+C1 b (prt ac b 1)
theorem Vn (b:Nat)(ac:List Rw):1<=C1 b ac:=by
 cases b with
 | zero=>exact Ay _
 | succ b=>unfold C1;split <;> exact om
theorem Pr {b:Nat}(h:2<=ac.length):C1 (b+1) ac=1+C1 b (prt ac b 0)+C1 b (prt ac b 1):=by
 show(if _ then _ else _)=_;rw[if_neg om]
theorem NO:∀ (b:Nat)(ac:List Rw),C1 b ac<=1+2 * (b * ac.length)
 | 0,_=>by simp[C1]
 | b+1,ac=>by
  by_cases h:2<=ac.length
  . rw[Pr h];have i1:=NO b (prt ac b 0);have i2:=NO b (prt ac b 1);have l:=Qk b ac;have e:b * ac.length=b * (prt ac b 0).length+b * (prt ac b 1).length:=by rw[<- l,Nat.mul_add]
    rw[Nat.add_mul];exact om
  . show(if _ then _ else _)<=_;rw[if_pos om];exact om
theorem Kj:∀ (b:Nat)(ac:List Rw),(BQ b ac).dep<=b+1
 | b,[]=>by rw[HA];simp[Tm.dep]
 | b,[r]=>by rw[Hj];simp[Tm.dep]
 | 0,_ :: _ :: _=>by simp[BQ,Tm.dep]
 | b+1,x :: y :: r=>by
  have i1:=Kj b (prt (x :: y :: r) b 0);have i2:=Kj b (prt (x :: y :: r) b 1);show max _ _+1<=_;exact om
noncomputable def Bd:Nat->List Rw->Int->List Tm×List Rw
 | 0,ac,_=>([],ac)
 | b+1,ac,k=>if ac.length<=1 then([],ac) else(BQ b (prt ac b (1 - AV k b)) :: (Bd b (prt ac b (AV k b)) k).1,(Bd b (prt ac b (AV k b)) k).2)
theorem FC {b:Nat}{k:Int}(h:ac.length<=1):Bd b ac k=([],ac):=by
 cases b with
 | zero=>rfl
 | succ b=>show(if _ then _ else _)=_;rw[if_pos h]
theorem FL {b:Nat}{k:Int}(h:2<=ac.length):Bd (b+1) ac k=(BQ b (prt ac b (1 - AV k b)) :: (Bd b (prt ac b (AV k b)) k).1,(Bd b (prt ac b (AV k b)) k).2):=by
 show(if _ then _ else _)=_;rw[if_neg om]
theorem Hv:∀ (b:Nat)(ac:List Rw)(k:Int),(Bd b ac k).1.length<=b
 | 0,_,_=>Ay _
 | b+1,ac,k=>by
  by_cases h:2<=ac.length
  . rw[FL h];have:=Hv b (prt ac b (AV k b)) k;simp only[C5];exact om
  . rw[FC om];simp
theorem Wg:∀ (b:Nat)(ac:List Rw)(k:Int),∀ t∈(Bd b ac k).1,t.dep<=b
 | 0,_,_,t,h=>by simp[Bd] at h
 | b+1,ac,k,t,ht=>by
  by_cases h:2<=ac.length
  . rw[FL h] at ht;rcases List.mem_cons.mp ht with z | z
    . rw[z];exact Kj _ _
    . have:=Wg b _ k t z;exact om
  . rw[FC om] at ht;cases ht
theorem RM:∀ (b:Nat)(ac:List Rw)(k:Int),jO b ac->(Bd b ac k).2.length<=1
 | 0,ac,k,h=>h.zero
 | b+1,ac,k,h=>by
  by_cases h2:2<=ac.length
  . rw[FL h2];exact RM b _ k (h.prt _)
  . rw[FC om];show ac.length<=1;exact om
noncomputable def DB:Nat->List Rw->Int->Nat
 | 0,_,_=>0
 | b+1,ac,k=>if ac.length<=1 then 0 else C1 b (prt ac b (1 - AV k b))+DB b (prt ac b (AV k b)) k
theorem PP {b:Nat}{k:Int}(h:2<=ac.length):DB (b+1) ac k=C1 b (prt ac b (1 - AV k b))+DB b (prt ac b (AV k b)) k:=by
 show(if _ then _ else _)=_;rw[if_neg om]
theorem Qu:∀ (b:Nat)(ac:List Rw)(k:Int),DB b ac k<=b+2 * (b * ac.length)
 | 0,_,_=>by simp[DB]
 | b+1,ac,k=>by
  by_cases h:2<=ac.length
  . rw[PP h];have i1:=NO b (prt ac b (1 - AV k b));have i2:=Qu b (prt ac b (AV k b)) k;have l:=dG b ac k;have e:b * ac.length=b * (prt ac b (AV k b)).length+b * (prt ac b (1 - AV k b)).length:=by rw[<- l,Nat.mul_add]
    rw[Nat.add_mul];exact om
  . show(if _ then _ else _)<=_;rw[if_pos om];exact om
def iM (H:Hp)(r:Rw)(v:V):Prop:=∃ p,v = .ref p/\H p=some (.tup [.int r.1,.str r.2])
abbrev ia (H:Hp):List Rw->List V->Prop:=Paired (iM H)
theorem iM.up {r:Rw}(h:iM H r v)(g:Gn S n H H'):iM H' r v:=by
 obtain⟨p,e,q⟩:=h;exact⟨p,e,g.keep _ _ q rfl⟩
theorem ia.up (h:ia H ac vs)(g:Gn S n H H'):ia H' ac vs:=Paired.je (fun _ _ q=>iM.up q g) h
theorem Od {α β:Type}{F:α->β->Prop}:∀ {l₁:List α}{l₂:List β}{i:Nat}{a:α},Paired F l₁ l₂->l₁[i]? = some a->∃ b,l₂[i]? = some b/\F a b
 | _,_,0,_,.cons r _,h2=>by simp at h2;subst h2;exact⟨_,U,r⟩
 | _,_,i+1,_,.cons _ t,h2=>by
  obtain⟨a,h1,h3⟩:=Od (i:=i) t (by simpa using h2);exact⟨a,by simpa using h1,h3⟩
theorem OS {α β:Type}{F:α->β->Prop}{l:List α}{m:List β}{a:α}{b:β}(h:Paired F l m)(r:F a b):Paired F (l++[a]) (m++[b]):=Dy h (.cons r .nil)
theorem fH {α:Type}{f:α->Bool}{l:List α}{a:α}(h:l[i]? = some a):(l.take (i+1)).filter f=(l.take i).filter f++(if f a=true then [a] else []):=by
 rw[J9,h,Rg];congr 1
 show [a].filter f=_;cases e:f a <;> simp[e]
theorem Ko {K:W.Frag}(f:Rw->Bool)(ts:C3 S H)(hq:gy K H a ws)(hw:ia H ac ws)(hz:ac.length<=100000)
 (htt:∀ (p:Addr)(r:Rw)(H':Hp)(Qb:Bool->Hp->Prop),H' p=some (.tup [.int r.1,.str r.2])->Qb (f r) H'->tt (some (.ref p) :: CS js σ) H' Qb)
 (hQ:∀ D H' ws',Gr S 0 H H'->H D=none->H' D=some (.lst ws')->ia H' (ac.filter f) ws'->R D H') :
 ∀ D,H D=none->∃ W:Nat->Nat->List V->Hp->Prop,(∃ m,W 0 m [] (Ab H D (.lst [])))/\∀ i m ys H,W i m ys H->
  ((Ea K a).stop i H/\R D H)\/((Ea K a).go i H/\∀ x H',(Ea K a).jT i H x H'->tt (some x :: CS js σ) H' fun b H2=>if b=true then Eh 0 (some x :: CS js σ) H2 fun y H3=>H3 D=some (.lst ys)/\ys.length<sizeLine/\∃ m',m'<m/\W (i+1) m' (ys++[y]) (Ab H3 D (.lst (ys++[y])))
   else ∃ m',m'<m/\W (i+1) m' ys H2):=by
 intro D hD;refine⟨fun i m ys H'=>m=ac.length - i/\i<=ac.length/\H' D=some (.lst ys)/\Gr S 0 H H'/\ia H' ((ac.take i).filter f) ys,⟨ac.length,by simp,om,Ad,Gr.new ts hD,.nil⟩,?_⟩;rintro i m ys H' ⟨rfl,hi,hD',g,ry⟩;have hq':=g.sq hq;have hl:=Bq hw;by_cases hlt:i<ac.length
 . have hlt':i<ws.length:=by exact om
   refine .inr ⟨⟨_,ws[i],hq',Bc hlt'⟩,fun x H2 ⟨e2,hx⟩=>?_⟩;subst e2;have er:ac[i]? = some ac[i]:=Bc hlt;have ex:=hx _ hq';obtain⟨p,rfl,hp⟩:=NU hw er ex;have hp':=g.gn.keep _ _ hp rfl;refine htt p ac[i] H2 _ hp' ?_;have ef:=fH (f:=f) er;have ylen:ys.length<=i:=by rw[<- Bq ry];refine Bu (IS _ _) ?_;rw[Cc];exact om
   cases e:f ac[i] with
   | true=>
    rw[if_pos rfl];rw[e,if_pos rfl] at ef;have g4:Gn S 0 H2 (Ab H2 D (.lst (ys++[.ref p]))):=Gn.chg g.gn.gu hD' rfl (fun _ e=>nomatch e);refine⟨_,U,hD',by rw[Bf];exact om,ac.length - (i+1),om,U,om,Ad,g.own hD,?_⟩;rw[ef];exact ia.up (OS ry ⟨p,U,hp'⟩) g4
   | false=>
    rw[if_neg (by simp)];rw[e,if_neg (by simp),E8] at ef;exact⟨ac.length - (i+1),om,U,om,hD',g,by rw[ef];exact ry⟩
 . have e:i=ac.length:=by exact om
   subst e;refine .inl ⟨⟨_,hq',om⟩,?_⟩;rw[O9] at ry;exact hQ D H' ys g hD hD' ry
section
variable {X:Cx}
end
structure jZ (K:W.Frag)(x qual:Str)(st:Stmt)(f:Addr)(fd:FuncData)(ds:List Int):Prop where
 ex:∃ (oc:Value) (od:Option Addr) (T:Addr) (kV doc pm:Value) (an:Option Addr) (ad ct:Value) (osl:Array (Option Value)) (oT:Obj) (its:List Value) (n:Nat),
  fd=W.fnOf x qual (CU st) (By st) (Ah st) (.ref T) kV doc pm an ad ct/\K.lookup f=some ⟨oc,od,.func fd,osl⟩/\PySem.W.codeIn K ad qual=true/\K.lookup T=some oT/\oT.data = .seq its.toArray n/\IntsAre its ds
 kp:W.keepIn K (.ref f)=true
def KF (K:W.Frag)(C:Addr)(m qual:Str)(st:Stmt)(ds:List Int):Prop:=∃ f fd,Gy K C m f/\jZ K m qual st f fd ds
theorem gK {K:W.Frag}{C:Addr}{m:Str}{kV ct:Value}{d:Int}{t:Tok}(a:W.findIn K (.ref C) m=some (some (.ref f)))(i:PySem.W.isFn K (.ref f)=true)
 (l:K.lookup f=some ⟨oc,od,.func (W.fnOf m qual (CU st) (By st) (Ah st) (.ref T) kV doc pm an ad ct),osl⟩)(c:PySem.W.codeIn K ad qual=true)(k:W.keepIn K (.ref f)=true)
 (lT:K.lookup T=some ⟨oc2,od2,.seq #[.int d t] n,osl2⟩):KF K C m qual st [d]:=
 ⟨f,_,⟨a,i,k⟩,⟨⟨oc,od,T,kV,doc,pm,an,ad,ct,osl,_,[.int d t],n,U,l,c,lT,U,.cons d t .nil⟩,k⟩⟩
theorem jZ.ok {ds:List Int}{ps:List Str}{k:Nat}(F:jZ K x qual st f fd ds)(S:AA N ps (Ah st))(len:∀ vs H Q E,sp vs H Q E->vs.length=ps.length)
 (ag:∀ (ad:Value)(A:Around)(outer:List Env)(s:Shared)(H:Hp)(vs:List V)(Q:VK)(E:XK),ic k (A.deeper (envOfC qual (Ah st) s.heap.objs.size f ad))->sp vs H Q E->
  ∃ t,i0 (BU Bh P w K mg base N qual (Ah st) f ad A outer s H E).jN (By st) t/\t { nx:=fun _ H'=>Q .non H',rt:=Q } (DJ N vs) H):iC P w K mg base Bh (k+1) f fd ps sp:=by
 obtain⟨oc,od,T,kV,doc,pm,an,ad,ct,osl,oT,its,n,rfl,lk,hcd,_⟩:=F.ex;refine NT lk hcd S len fun A outer s H vs Q E hr hsp=>?_;obtain⟨t,h,q⟩:=ag ad A outer s H vs Q E hr hsp;exact⟨t,h.jN,q⟩
theorem jZ.binds {d:Int}{ps:List Str}(F:jZ K x qual st f fd [d])
 (h:∀ (T:Addr)(kV doc pm:Value)(an:Option Addr)(ad ct:Value)(t:Tok)(us:List Value),us.length=ps.length->∃ k,bindArgs (W.fnOf x qual (CU st) (By st) (Ah st) (.ref T) kV doc pm an ad ct) ⟨us,[]⟩=seqItems? (.ref T) >>= k/\k (some #[.int d t])=pure (ps.zip us)):iq K fd ps []:=by
 obtain⟨oc,od,T,kV,doc,pm,an,ad,ct,osl,oT,its,n,rfl,lk,hcd,lT,hs,hi⟩:=F.ex;intro s us KX hl;rw[E8] at hl ⊢;obtain⟨t,rfl⟩:∃ t,its=[.int d t]:=by
  cases hi with
  | cons _ t r=>cases r;exact⟨t,U⟩
 obtain⟨k,h1,h2⟩:=h T kV doc pm an ad ct t us hl;exact BindsTo.of_defaults rfl (KX _ _ lT) hs h1 h2
inductive Kc:List Expr->List Int->Prop
 | nil:Kc [] []
 | cons {n:Int}{j p} {es:List Expr}{ns:List Int}(h:Kc es ns):Kc (.Constant (.int n) j p :: es) (n :: ns)
def bx (ns:List Int):TA:=fun _ H Q=>Q (ns.map V.int) H
theorem VH {X:Cx}{ns:List Int}(h:Kc es ns):PA X es (bx ns):=by
 induction h with
 | nil=>exact CP
 | cons h ih=>exact BR Ac ih
theorem hU.any {k:Nat}{ps:List Str}{sp:Nat->Sp}(h:∀ b,b<=n->hU P w K mg base k x ps (sp b)):hU P w K mg base k x ps (fun vs H Q E=>∃ b,b<=n/\sp b vs H Q E):=by
 obtain⟨f,fd,h1,h2,h3,h4,oc,od,sl,h5⟩:=h 0 (Es _);refine⟨f,fd,h1,h2,h3,⟨fun vs H Q E ⟨b,hb,q⟩=>?_,fun A outer s H args us vs Q E hr e0 hbd r ⟨b,hb,q⟩=>?_⟩,oc,od,sl,h5⟩
 . obtain⟨f',fd',a1,a2,a3,a4,_⟩:=h b hb;exact a4.len _ _ _ _ q
 . obtain⟨f',fd',a1,a2,a3,a4,oc',od',sl',a5⟩:=h b hb;have e:=h1.symm.trans a1;cases e
   rw[h5] at a5;cases a5
   exact a4.run A outer s H args us vs Q E hr e0 hbd r q
theorem Up {α:Type}:∀ {l₁ l₂:List (Int×α)},l₁.Perm l₂->(l₁.map (·.1)).Pairwise (· < ·)->(l₂.map (·.1)).Pairwise (· < ·)->l₁=l₂
 | [],l₂,p,_,_=>p.nil_eq
 | a :: r,[],p,_,_=>by cases p.symm.nil_eq
 | a :: r,b :: t,p,h1,h2=>by
  have h1':=List.pairwise_cons.mp (show((a.1 :: r.map (·.1)).Pairwise (· < ·)) from h1);have h2':=List.pairwise_cons.mp (show((b.1 :: t.map (·.1)).Pairwise (· < ·)) from h2);have e:a=b:=by
   have m1:a∈b :: t:=p.mem_iff.mp (by simp);have m2:b∈a :: r:=p.mem_iff.mpr (by simp);rcases List.mem_cons.mp m1 with z | z
   . exact z
   rcases List.mem_cons.mp m2 with y | y
   . exact y.symm
   have z1:=h2'.1 a.1 (List.mem_map.mpr ⟨a,z,U⟩);have z2:=h1'.1 b.1 (List.mem_map.mpr ⟨b,y,U⟩);exact om
  subst e;rw[Up ((List.perm_cons a).mp p) h1'.2 h2'.2]
structure jf (D:Nat)(kvs:List (Al×V)):Prop where
 all:∀ p∈kvs,∃ i x,p=(.inl i,.str x)/\0<=i/\i<2 ^ D
 nd:(kvs.map (·.1)).Nodup
theorem jf.nil {D:Nat}:jf D []:=⟨fun _ h=>(nomatch h),Q7⟩
theorem jf.ints {D:Nat}(h:jf D kvs):O8 kvs:=fun p hp=>by
 obtain⟨i,x,rfl,_⟩:=h.all p hp;exact⟨i,U⟩
theorem UV {k:Al}(h:AX kvs k=some v):(k,v)∈kvs:=by
 induction kvs with
 | nil=>cases h
 | cons p r ih=>
  by_cases e:p.1=k
  . rw[ER e] at h;cases h;subst e;simp
  . rw[EW e] at h;exact CH _ (ih h)
theorem Rh (nd:(kvs.map (·.1)).Nodup){k:Al}(h:(k,v)∈kvs):AX kvs k=some v:=by
 induction kvs with
 | nil=>cases h
 | cons p r ih=>
  have nd':=List.nodup_cons.mp nd;rcases List.mem_cons.mp h with e | e
  . subst e;exact ER rfl
  . rw[EW (fun z=>nd'.1 (List.mem_map.mpr ⟨_,e,z.symm⟩))];exact ih nd'.2 e
theorem Ux {k:Al}(h:(AX kvs k).isSome=true):BS kvs k v=kvs.map (fun kv=>if kv.1=k then(kv.1,v) else kv):=by
 unfold BS;rw[Kk,if_pos h]
theorem jf.put {D:Nat}(h:jf D kvs){i:Int}(h0:0<=i)(h1:i<2 ^ D)(x:Str):jf D (BS kvs (.inl i) (.str x)):=by
 cases e:AX kvs (.inl i) with
 | none=>
  refine⟨fun p hp=>?_,dP _ h.nd e⟩;rw[Oz _ e] at hp;rcases List.mem_append.mp hp with z | z
  . exact h.all p z
  . rw[List.mem_singleton.mp z];exact⟨i,x,U,h0,h1⟩
 | some v=>
  have eo:=Ux (v:=.str x) (show(AX kvs (.inl i)).isSome=true by rw[e];rfl);rw[eo];refine⟨fun p hp=>?_,?_⟩
  . obtain⟨q,hq,rfl⟩:=List.mem_map.mp hp;by_cases z:q.1 = .inl i
    . rw[if_pos z,z];exact⟨i,x,U,h0,h1⟩
    . rw[if_neg z];exact h.all q hq
  . have e2:(kvs.map (fun kv=>if kv.1 = .inl i then(kv.1,V.str x) else kv)).map (·.1)=kvs.map (·.1):=by
     rw[E4];apply Na
     intro q _;show(if q.1=_ then _ else _:Al×V).1=q.1;split <;> rfl
    rw[e2];exact h.nd
theorem jf.drop {D:Nat}(h:jf D kvs)(k:Al):jf D (C4 kvs k):=⟨fun p hp=>h.all p (Rm hp),Q3 h.nd⟩
def iw (kvs:List (Al×V))(ac:List Rw):Prop:=(ac.map (·.1)).Pairwise (· < ·)/\(ac.map fun r=>(r.1,V.str r.2)).Perm (kvs.map fun q=>(C0 q.1,q.2))
theorem iw.len (h:iw kvs ac):ac.length=kvs.length:=by
 have:=h.2.length_eq;simpa using this
theorem iw.uniq (h:iw kvs ac){rs:List (Int×V)}(h1:(rs.map (·.1)).Pairwise (· < ·))(h2:rs.Perm (kvs.map fun q=>(C0 q.1,q.2))):rs=ac.map fun r=>(r.1,V.str r.2):=
 Up (h2.trans h.2.symm) h1 (by rw[E4];exact h.1)
theorem iw.kM {D:Nat}(h:iw kvs ac)(hw:jf D kvs):jO D ac:=by
 refine jO.of (h.1.imp fun z=>by exact om) fun r hr=>?_;have m:(r.1,V.str r.2)∈kvs.map fun q=>(C0 q.1,q.2):=h.2.mem_iff.mp (List.mem_map.mpr ⟨r,hr,U⟩);obtain⟨q,hq,e⟩:=List.mem_map.mp m;obtain⟨i,x,rfl,h0,h1⟩:=hw.all q hq;have e1:i=r.1:=congrArg Prod.fst e;rw[<- e1];exact⟨h0,h1⟩
noncomputable def DV (kvs:List (Al×V)) (k:Int):Str:=match AX kvs (.inl k) with | some (.str x)=>x | _=>""
theorem Ul {D:Nat}(hw:jf D kvs){k:Int}(h : .inl k∈kvs.map (·.1)):AX kvs (.inl k)=some (.str (DV kvs k)):=by
 obtain⟨p,hp,e⟩:=List.mem_map.mp h;obtain⟨i,x,rfl,_,_⟩:=hw.all p hp;have e1:(Sum.inl i:Al) = .inl k:=e;cases e1
 have z:=Rh hw.nd hp;unfold DV;rw[z]
theorem ON {D:Nat}(hw:jf D kvs)(hp:ks.Perm (kvs.map fun q=>C0 q.1))(hs:ks.Pairwise (· < ·)):iw kvs (ks.map fun k=>(k,DV kvs k)):=by
 refine⟨?_,?_⟩
 . have e:(ks.map fun k=>(k,DV kvs k)).map (·.1)=ks:=by rw[E4];exact(Na (fun _ _=>rfl)).trans (List.map_id _)
   rw[e];exact hs
 . rw[E4];refine(hp.map _).trans (List.Perm.of_eq ?_);rw[E4];apply Na
   intro q hq;obtain⟨i,x,rfl,_,_⟩:=hw.all q hq;show(i,V.str (DV kvs i))=(i,V.str x);have z:=Rh hw.nd hq;unfold DV;rw[z]
theorem RO {D:Nat}(hw:jf D kvs)(hp:ks.Perm (kvs.map fun q=>C0 q.1)){k:Int}(h:k∈ks) : .inl k∈kvs.map (·.1):=by
 obtain⟨q,hq,e⟩:=List.mem_map.mp (hp.mem_iff.mp h);obtain⟨i,x,rfl,_,_⟩:=hw.all q hq;have e:i=k:=e;subst e;exact List.mem_map.mpr ⟨_,hq,U⟩
theorem gJ {k:Int}(h:0<=k)(D:Nat):(((Builtin.Int.intBits k:Nat):Int)<=(D:Int))↔k<2 ^ D:=by
 have hp:=Nu (n:=D);unfold Builtin.Int.intBits;rw[two_pow_cast];by_cases e:k=0
 . subst e;rw[show((0:Int) == 0)=true from rfl,if_pos rfl];exact om
 . rw[show(k == 0)=false from beq_eq_false_iff_ne.mpr e,if_neg BX];have z:=Nat.log2_lt (n:=k.natAbs) (k:=D) om;exact om
theorem V3 {k:Int}{D:Nat}(hD:1<=D)(h0:0<=k)(h1:k<2 ^ D):0<=Builtin.bitXor k 1/\Builtin.bitXor k 1<2 ^ D:=by
 rw[bitXor_and,bitAnd_m1];obtain⟨d,rfl⟩:∃ d,D=d+1:=⟨D - 1,om⟩
 rw[Int.pow_succ] at h1 ⊢;have:=two_pow_nn d;exact om
theorem SD {a b z:Str}{x y c:Addr}(hab:(a == b)=false)(h:List.lookup z [(a,x),(b,y)]=some c):List.lookup z [(b,y),(a,x)]=some c:=by
 rw[Hw] at h ⊢;cases e:z == a with
 | true=>
  rw[e] at h;have ez:z=a:=eq_of_beq e;subst ez;rw[hab];simpa using h
 | false=>
  rw[e] at h;rw[Hw] at h;cases e2:z == b with
  | true=>rw[e2] at h;exact h
  | false=>rw[e2] at h;cases h
theorem dq (ac:List Rw)(b:Nat)(k:Int):(ac.filter fun r=>!decide (AV r.1 b=AV k b))=prt ac b (1 - AV k b):=by
 unfold prt;apply List.filter_congr
 intro r _;have h1:=K9 r.1 b;have h2:=K9 k b;by_cases e:AV r.1 b=AV k b
 . rw[Be e,Bj om];rfl
 . rw[Bj e,Be om];rfl
section
variable {C:Addr}
end
section
variable {X:Cx}{C:Addr}{k:Nat}{ps:List Str}{m:Str}{o:Expr}{t:TA}{p ae:Pos}{E:XK}
end
def EA (H:Hp)(x:V):Prop:=∃ a xs,x = .ref a/\H a=some (.tup xs)
def Gm (H:Hp)(x:V):Prop:=∃ a xs,x = .ref a/\H a=some (.lst xs)
def jz (H:Hp)(x y:V)(b:Bool):Prop:=
 (CD x=true/\CD y=true/\b=Du x y)\/(b=false/\((CD x=true/\(EA H y\/Gm H y))\/((EA H x\/Gm H x)/\CD y=true)\/(EA H x/\Gm H y)\/(Gm H x/\EA H y)))
def ik (H:Hp):Nat->V->V->Bool->Prop
 | 0,x,y,b=>jz H x y b
 | n+1,x,y,b=>jz H x y b\/
  (∃ a c xs ys,∃ e:Nat->Bool,x = .ref a/\y = .ref c/\H a=some (.tup xs)/\H c=some (.tup ys)/\(∀ (i:Nat) u v,xs[i]? = some u->ys[i]? = some v->ik H n u v (e i))/\b=((List.range (min xs.length ys.length)).all e && xs.length == ys.length))\/
  (∃ a c xs ys,∃ e:Nat->Bool,x = .ref a/\y = .ref c/\H a=some (.lst xs)/\H c=some (.lst ys)/\(∀ (i:Nat) u v,xs[i]? = some u->ys[i]? = some v->ik H n u v (e i))/\b=(xs.length == ys.length && (List.range xs.length).all e))
theorem ik.jd {H:Hp}{x y:V}{b:Bool}(h:jz H x y b):∀ n,ik H n x y b
 | 0=>h
 | _+1=>.inl h
theorem ik.up {H:Hp}:∀ {n m:Nat}{x y:V}{b:Bool},n<=m->ik H n x y b->ik H m x y b
 | 0,m,x,y,b,_,h=>ik.jd h m
 | n+1,0,_,_,_,h,_=>by exact om
 | n+1,m+1,x,y,b,h,q=>by
  rcases q with q | ⟨a,c,xs,ys,e,e1,e2,e3,e4,e5,e6⟩ | ⟨a,c,xs,ys,e,e1,e2,e3,e4,e5,e6⟩
  . exact .inl q
  . exact .inr (.inl ⟨a,c,xs,ys,e,e1,e2,e3,e4,fun i u v h1 h2=>ik.up (Wa h) (e5 i u v h1 h2),e6⟩)
  . exact .inr (.inr ⟨a,c,xs,ys,e,e1,e2,e3,e4,fun i u v h1 h2=>ik.up (Wa h) (e5 i u v h1 h2),e6⟩)
theorem jz.self {x:V}{b:Bool}(h:jz H x x b):b=true:=by
 have no:∀ {x:V},CD x=true->(EA H x\/Gm H x)->False:=fun {x} f q=>by
  rcases q with⟨a,xs,rfl,_⟩ | ⟨a,xs,rfl,_⟩ <;> cases f
 have no2:EA H x->Gm H x->False:=fun⟨a,xs,e1,e2⟩ ⟨c,ys,e3,e4⟩=>by
  rw[e1] at e3;cases e3;rw[e2] at e4;cases e4
 rcases h with⟨f,_,rfl⟩ | ⟨_,⟨f,q⟩ | ⟨q,f⟩ | ⟨q,p⟩ | ⟨p,q⟩⟩
 . exact LD f
 . exact(no f q).elim
 . exact(no f q).elim
 . exact(no2 q p).elim
 . exact(no2 q p).elim
theorem ik.self {H:Hp}:∀ {n:Nat}{x:V}{b:Bool},ik H n x x b->b=true
 | 0,x,b,h=>jz.self h
 | n+1,x,b,h=>by
  rcases h with h | ⟨a,c,xs,ys,e,e1,e2,e3,e4,e5,rfl⟩ | ⟨a,c,xs,ys,e,e1,e2,e3,e4,e5,rfl⟩
  . exact jz.self h
  . rw[e1] at e2;cases e2;rw[e3] at e4;cases e4;have:(List.range (min xs.length xs.length)).all e=true:=by
     rw[Lo];intro i hi;have hi:i<xs.length:=by simpa using hi
     exact ik.self (e5 i xs[i] xs[i] (Bc hi) (Bc hi))
    rw[this];simp
  . rw[e1] at e2;cases e2;rw[e3] at e4;cases e4;have:(List.range xs.length).all e=true:=by
     rw[Lo];intro i hi;have hi:i<xs.length:=by simpa using hi
     exact ik.self (e5 i xs[i] xs[i] (Bc hi) (Bc hi))
    rw[this];simp
section
variable {X:Cx}
theorem gv.iU {xs:List V}(I:gv X aa σ H s)(h:H a=some (.tup xs)):∃ its,hI xs its/\s.heap.IsTuple a its.toArray:=by
 obtain⟨_,its,r,p⟩:=I.hW _ _ h;exact⟨its,r,p⟩
theorem gv.iT {xs:List V}(I:gv X aa σ H s)(h:H a=some (.lst xs)):∃ its,hI xs its/\s.heap.IsList a its.toArray:=by
 obtain⟨its,r,p,_⟩:=I.list (gy.of h);exact⟨its,r,p.isList⟩
theorem Uw {x:V}{u v:Value}{b:Bool}(I:gv X aa σ H s)(h:jz H x y b)(rx:hG x u)(ry:hG y v)(hu:A.units<cLine):SeqAt.EqAt A s u v b:=by
 rcases h with⟨f,g,rfl⟩ | ⟨rfl,⟨f,⟨a,xs,rfl,e⟩ | ⟨a,xs,rfl,e⟩⟩ | ⟨⟨a,xs,rfl,e⟩ | ⟨a,xs,rfl,e⟩,f⟩ | ⟨⟨a,xs,rfl,e⟩,⟨c,ys,rfl,e2⟩⟩ | ⟨⟨a,xs,rfl,e⟩,⟨c,ys,rfl,e2⟩⟩⟩
 . exact Px rx ry f g
 . obtain rfl:v=Value.ref a:=ry;obtain⟨its,_,p⟩:=I.iU e;cases x with
   | non=>cases rx;exact SeqAt.EqAt.none_tuple p hu
   | bl b=>cases rx;exact SeqAt.EqAt.bool_tuple b p hu
   | int i=>obtain⟨t,rfl⟩:=rx;exact SeqAt.EqAt.int_tuple i t p hu
   | str z=>obtain⟨t,rfl⟩:=rx;exact SeqAt.EqAt.str_tuple z t p hu
   | _=>cases f
 . obtain rfl:v=Value.ref a:=ry;obtain⟨its,_,p⟩:=I.iT e;cases x with
   | non=>cases rx;exact SeqAt.EqAt.none_list p hu
   | bl b=>cases rx;exact SeqAt.EqAt.bool_list b p hu
   | int i=>obtain⟨t,rfl⟩:=rx;exact SeqAt.EqAt.int_list i t p hu
   | str z=>obtain⟨t,rfl⟩:=rx;exact SeqAt.EqAt.str_list z t p hu
   | _=>cases f
 . obtain rfl:u=Value.ref a:=rx;obtain⟨its,_,p⟩:=I.iU e;cases y with
   | non=>cases ry;exact SeqAt.EqAt.tuple_none p hu
   | bl b=>cases ry;exact SeqAt.EqAt.tuple_bool b p hu
   | int i=>obtain⟨t,rfl⟩:=ry;exact SeqAt.EqAt.tuple_int i t p hu
   | str z=>obtain⟨t,rfl⟩:=ry;exact SeqAt.EqAt.tuple_str z t p hu
   | _=>cases f
 . obtain rfl:u=Value.ref a:=rx;obtain⟨its,_,p⟩:=I.iT e;cases y with
   | non=>cases ry;exact SeqAt.EqAt.list_none p hu
   | bl b=>cases ry;exact SeqAt.EqAt.list_bool b p hu
   | int i=>obtain⟨t,rfl⟩:=ry;exact SeqAt.EqAt.list_int i t p hu
   | str z=>obtain⟨t,rfl⟩:=ry;exact SeqAt.EqAt.list_str z t p hu
   | _=>cases f
 . obtain rfl:u=Value.ref a:=rx;obtain rfl:v=Value.ref c:=ry;obtain⟨its,_,p⟩:=I.iU e;obtain⟨its2,_,p2⟩:=I.iT e2;exact SeqAt.EqAt.tuple_list p p2 hu
 . obtain rfl:u=Value.ref a:=rx;obtain rfl:v=Value.ref c:=ry;obtain⟨its,_,p⟩:=I.iT e;obtain⟨its2,_,p2⟩:=I.iU e2;exact SeqAt.EqAt.list_tuple p p2 hu
theorem Ii {aa:List (Addr×Obj)}{σ:St}{H:Hp}{s:Shared}(I:gv X aa σ H s):∀ (n:Nat)(x y:V)(u v:Value)(b:Bool)(A:Around),ik H n x y b->hG x u->hG y v->A.units+n<cLine->SeqAt.EqAt A s u v b
 | 0,x,y,u,v,b,A,h,rx,ry,hu=>Uw I h rx ry om
 | n+1,x,y,u,v,b,A,h,rx,ry,hu=>by
  rcases id h with h | ⟨a,c,xs,ys,e,rfl,rfl,ha,hc,hi,eb⟩ | ⟨a,c,xs,ys,e,rfl,rfl,ha,hc,hi,eb⟩
  . exact Uw I h rx ry om
  . obtain rfl:u=Value.ref a:=rx;obtain rfl:v=Value.ref c:=ry;by_cases hac:a=c
    . subst hac;rw[ik.self h];exact OB _
    obtain⟨its,r,pa⟩:=I.iU ha;obtain⟨its2,r2,pb⟩:=I.iU hc;have q:=Qf (A:=A) (s:=s) (e:=e) pa pb om fun j h1 h2=>by
     obtain⟨x1,e1,q1⟩:=r.at h1;obtain⟨y1,e2,q2⟩:=r2.at h2;exact Ii I n x1 y1 _ _ _ A.in1 (hi j x1 y1 e1 e2) q1 q2 (by show A.units+1+n<cLine;exact om)
    have l1:=r.length;have l2:=r2.length
    rw[BE,BE,<- l1,<- l2,<- eb] at q;exact MI hac q
  . obtain rfl:u=Value.ref a:=rx;obtain rfl:v=Value.ref c:=ry;by_cases hac:a=c
    . subst hac;rw[ik.self h];exact OB _
    obtain⟨its,r,pa⟩:=I.iT ha;obtain⟨its2,r2,pb⟩:=I.iT hc;have l1:=r.length;have l2:=r2.length
    by_cases hl:xs.length=ys.length
    . have q:=Q6 (A:=A) (s:=s) (e:=e) pa pb (by simp;exact om) om fun j h1 h2=>by
       obtain⟨x1,e1,q1⟩:=r.at h1;obtain⟨y1,e2,q2⟩:=r2.at h2;exact Ii I n x1 y1 _ _ _ A.in1 (hi j x1 y1 e1 e2) q1 q2 (by show A.units+1+n<cLine;exact om)
      rw[BE,<- l1] at q;have eb':b=(List.range xs.length).all e:=by rw[eb,show(xs.length == ys.length)=true from by simpa using hl,EH]
      rw[<- eb'] at q;exact MI hac q
    . have eb':b=false:=by rw[eb,show(xs.length == ys.length)=false from by simpa using hl,LA]
      subst eb';exact MI hac (OO pa pb (by simp;exact om) om)
theorem Y0 {x:V}{u v:Value}(rx:hG x u)(ry:hG y v)(fx:CD x=true)(fy:CD y=true):SeqAt.RcAt A s u v (Du x y):=by
 cases x with
 | non=>
  cases rx
  cases y with
  | non=>cases ry;exact SeqAt.RcAt.none_none
  | bl b=>cases ry;exact SeqAt.RcAt.none_bool b
  | int i=>obtain⟨t,rfl⟩:=ry;exact SeqAt.RcAt.none_int i t
  | str z=>obtain⟨t,rfl⟩:=ry;exact SeqAt.RcAt.none_str z t
  | _=>cases fy
 | bl a=>
  cases rx
  cases y with
  | non=>cases ry;exact SeqAt.RcAt.bool_none a
  | bl b=>cases ry;exact SeqAt.RcAt.bool_bool a b
  | int i=>obtain⟨t,rfl⟩:=ry;exact SeqAt.RcAt.bool_int a i t
  | str z=>obtain⟨t,rfl⟩:=ry;exact SeqAt.RcAt.bool_str a z t
  | _=>cases fy
 | int a=>
  obtain⟨ta,rfl⟩:=rx;cases y with
  | non=>cases ry;exact SeqAt.RcAt.int_none a ta
  | bl b=>cases ry;exact SeqAt.RcAt.int_bool a ta b
  | int i=>obtain⟨t,rfl⟩:=ry;exact SeqAt.RcAt.int_int a ta i t
  | str z=>obtain⟨t,rfl⟩:=ry;exact SeqAt.RcAt.int_str a ta z t
  | _=>cases fy
 | str a=>
  obtain⟨ta,rfl⟩:=rx;cases y with
  | non=>cases ry;exact SeqAt.RcAt.str_none a ta
  | bl b=>cases ry;exact SeqAt.RcAt.str_bool a ta b
  | int i=>obtain⟨t,rfl⟩:=ry;exact SeqAt.RcAt.str_int a ta i t
  | str z=>obtain⟨t,rfl⟩:=ry;exact SeqAt.RcAt.str_str a ta z t
  | _=>cases fy
 | _=>cases fx
theorem SU {x:V}{u v:Value}{b:Bool}(I:gv X aa σ H s)(h:jz H x y b)(rx:hG x u)(ry:hG y v)(hu:A.units<cLine):SeqAt.RcAt A s u v b:=by
 rcases h with⟨f,g,rfl⟩ | ⟨rfl,⟨f,⟨a,xs,rfl,e⟩ | ⟨a,xs,rfl,e⟩⟩ | ⟨⟨a,xs,rfl,e⟩ | ⟨a,xs,rfl,e⟩,f⟩ | ⟨⟨a,xs,rfl,e⟩,⟨c,ys,rfl,e2⟩⟩ | ⟨⟨a,xs,rfl,e⟩,⟨c,ys,rfl,e2⟩⟩⟩
 . exact Y0 rx ry f g
 . obtain rfl:v=Value.ref a:=ry;obtain⟨its,_,p⟩:=I.iU e;cases x with
   | non=>cases rx;exact SeqAt.RcAt.none_tuple p hu
   | bl b=>cases rx;exact SeqAt.RcAt.bool_tuple b p hu
   | int i=>obtain⟨t,rfl⟩:=rx;exact SeqAt.RcAt.int_tuple i t p hu
   | str z=>obtain⟨t,rfl⟩:=rx;exact SeqAt.RcAt.str_tuple z t p hu
   | _=>cases f
 . obtain rfl:v=Value.ref a:=ry;obtain⟨its,_,p⟩:=I.iT e;cases x with
   | non=>cases rx;exact SeqAt.RcAt.none_list p hu
   | bl b=>cases rx;exact SeqAt.RcAt.bool_list b p hu
   | int i=>obtain⟨t,rfl⟩:=rx;exact SeqAt.RcAt.int_list i t p hu
   | str z=>obtain⟨t,rfl⟩:=rx;exact SeqAt.RcAt.str_list z t p hu
   | _=>cases f
 . obtain rfl:u=Value.ref a:=rx;obtain⟨its,_,p⟩:=I.iU e;cases y with
   | non=>cases ry;exact SeqAt.RcAt.tuple_none p hu
   | bl b=>cases ry;exact SeqAt.RcAt.tuple_bool b p hu
   | int i=>obtain⟨t,rfl⟩:=ry;exact SeqAt.RcAt.tuple_int i t p hu
   | str z=>obtain⟨t,rfl⟩:=ry;exact SeqAt.RcAt.tuple_str z t p hu
   | _=>cases f
 . obtain rfl:u=Value.ref a:=rx;obtain⟨its,_,p⟩:=I.iT e;cases y with
   | non=>cases ry;exact SeqAt.RcAt.list_none p hu
   | bl b=>cases ry;exact SeqAt.RcAt.list_bool b p hu
   | int i=>obtain⟨t,rfl⟩:=ry;exact SeqAt.RcAt.list_int i t p hu
   | str z=>obtain⟨t,rfl⟩:=ry;exact SeqAt.RcAt.list_str z t p hu
   | _=>cases f
 . obtain rfl:u=Value.ref a:=rx;obtain rfl:v=Value.ref c:=ry;obtain⟨its,_,p⟩:=I.iU e;obtain⟨its2,_,p2⟩:=I.iT e2;exact SeqAt.RcAt.tuple_list p p2 hu
 . obtain rfl:u=Value.ref a:=rx;obtain rfl:v=Value.ref c:=ry;obtain⟨its,_,p⟩:=I.iT e;obtain⟨its2,_,p2⟩:=I.iU e2;exact SeqAt.RcAt.list_tuple p p2 hu
theorem PQ:B6 X (compareOp .Eq) (fun x y H Q=>∃ n b,ik H n x y b/\X.A.units+n+1<cLine/\Q (.bl b) H):=by
 intro aa s σ H x y v u Q I rx ry h;obtain⟨n,b,h,hu,q⟩:=h;have done:SeqAt.RcAt X.A s v u b->wpAny (model X.prog X.w) X.A (compareOp .Eq v u) (EP X aa σ Q) X.xe s:=fun z=>z X.prog X.w X.xe _ ⟨.bl b,H,I,U,q⟩;cases n with
 | zero=>exact done (SU I h rx ry om)
 | succ n=>
  rcases id h with h | ⟨a,c,xs,ys,e,rfl,rfl,ha,hc,hi,eb⟩ | ⟨a,c,xs,ys,e,rfl,rfl,ha,hc,hi,eb⟩
  . exact done (SU I h rx ry om)
  . obtain rfl:v=Value.ref a:=rx;obtain rfl:u=Value.ref c:=ry;obtain⟨its,r,pa⟩:=I.iU ha;obtain⟨its2,r2,pb⟩:=I.iU hc;have z:=Qf (A:=X.A) (s:=s) (e:=e) pa pb om fun j h1 h2=>by
     obtain⟨x1,e1,q1⟩:=r.at h1;obtain⟨y1,e2,q2⟩:=r2.at h2;exact Ii I n x1 y1 _ _ _ X.A.in1 (hi j x1 y1 e1 e2) q1 q2 (by show X.A.units+1+n<cLine;exact om)
    have l1:=r.length;have l2:=r2.length
    rw[BE,BE,<- l1,<- l2,<- eb] at z;exact done z
  . obtain rfl:v=Value.ref a:=rx;obtain rfl:u=Value.ref c:=ry;obtain⟨its,r,pa⟩:=I.iT ha;obtain⟨its2,r2,pb⟩:=I.iT hc;have l1:=r.length;have l2:=r2.length
    by_cases hl:xs.length=ys.length
    . have z:=Q6 (A:=X.A) (s:=s) (e:=e) pa pb (by simp;exact om) om fun j h1 h2=>by
       obtain⟨x1,e1,q1⟩:=r.at h1;obtain⟨y1,e2,q2⟩:=r2.at h2;exact Ii I n x1 y1 _ _ _ X.A.in1 (hi j x1 y1 e1 e2) q1 q2 (by show X.A.units+1+n<cLine;exact om)
      rw[BE,<- l1] at z;have eb':b=(List.range xs.length).all e:=by rw[eb,show(xs.length == ys.length)=true from by simpa using hl,EH]
      rw[<- eb'] at z;exact done z
    . have eb':b=false:=by rw[eb,show(xs.length == ys.length)=false from by simpa using hl,LA]
      subst eb';exact done (OO pa pb (by simp;exact om) om)
theorem ZA {x:V}{u v:Value}(rx:hG x u)(ry:hG y v)(fx:CD x=true)(fy:CD y=true):SeqAt.RcNeAt A s u v (!Du x y):=by
 cases x with
 | non=>
  cases rx
  cases y with
  | non=>cases ry;exact SeqAt.RcNeAt.none_none
  | bl b=>cases ry;exact SeqAt.RcNeAt.none_bool b
  | int i=>obtain⟨t,rfl⟩:=ry;exact SeqAt.RcNeAt.none_int i t
  | str z=>obtain⟨t,rfl⟩:=ry;exact SeqAt.RcNeAt.none_str z t
  | _=>cases fy
 | bl a=>
  cases rx
  cases y with
  | non=>cases ry;exact SeqAt.RcNeAt.bool_none a
  | bl b=>cases ry;exact SeqAt.RcNeAt.bool_bool a b
  | int i=>obtain⟨t,rfl⟩:=ry;exact SeqAt.RcNeAt.bool_int a i t
  | str z=>obtain⟨t,rfl⟩:=ry;exact SeqAt.RcNeAt.bool_str a z t
  | _=>cases fy
 | int a=>
  obtain⟨ta,rfl⟩:=rx;cases y with
  | non=>cases ry;exact SeqAt.RcNeAt.int_none a ta
  | bl b=>cases ry;exact SeqAt.RcNeAt.int_bool a ta b
  | int i=>obtain⟨t,rfl⟩:=ry;exact SeqAt.RcNeAt.int_int a ta i t
  | str z=>obtain⟨t,rfl⟩:=ry;exact SeqAt.RcNeAt.int_str a ta z t
  | _=>cases fy
 | str a=>
  obtain⟨ta,rfl⟩:=rx;cases y with
  | non=>cases ry;exact SeqAt.RcNeAt.str_none a ta
  | bl b=>cases ry;exact SeqAt.RcNeAt.str_bool a ta b
  | int i=>obtain⟨t,rfl⟩:=ry;exact SeqAt.RcNeAt.str_int a ta i t
  | str z=>obtain⟨t,rfl⟩:=ry;exact SeqAt.RcNeAt.str_str a ta z t
  | _=>cases fy
 | _=>cases fx
theorem Ty {x:V}{u v:Value}{b:Bool}(I:gv X aa σ H s)(h:jz H x y b)(rx:hG x u)(ry:hG y v)(hu:A.units<cLine):SeqAt.RcNeAt A s u v (!b):=by
 rcases h with⟨f,g,rfl⟩ | ⟨rfl,⟨f,⟨a,xs,rfl,e⟩ | ⟨a,xs,rfl,e⟩⟩ | ⟨⟨a,xs,rfl,e⟩ | ⟨a,xs,rfl,e⟩,f⟩ | ⟨⟨a,xs,rfl,e⟩,⟨c,ys,rfl,e2⟩⟩ | ⟨⟨a,xs,rfl,e⟩,⟨c,ys,rfl,e2⟩⟩⟩
 . exact ZA rx ry f g
 . obtain rfl:v=Value.ref a:=ry;obtain⟨its,_,p⟩:=I.iU e;cases x with
   | non=>cases rx;exact SeqAt.RcNeAt.none_tuple p hu
   | bl b=>cases rx;exact SeqAt.RcNeAt.bool_tuple b p hu
   | int i=>obtain⟨t,rfl⟩:=rx;exact SeqAt.RcNeAt.int_tuple i t p hu
   | str z=>obtain⟨t,rfl⟩:=rx;exact SeqAt.RcNeAt.str_tuple z t p hu
   | _=>cases f
 . obtain rfl:v=Value.ref a:=ry;obtain⟨its,_,p⟩:=I.iT e;cases x with
   | non=>cases rx;exact SeqAt.RcNeAt.none_list p hu
   | bl b=>cases rx;exact SeqAt.RcNeAt.bool_list b p hu
   | int i=>obtain⟨t,rfl⟩:=rx;exact SeqAt.RcNeAt.int_list i t p hu
   | str z=>obtain⟨t,rfl⟩:=rx;exact SeqAt.RcNeAt.str_list z t p hu
   | _=>cases f
 . obtain rfl:u=Value.ref a:=rx;obtain⟨its,_,p⟩:=I.iU e;cases y with
   | non=>cases ry;exact SeqAt.RcNeAt.tuple_none p hu
   | bl b=>cases ry;exact SeqAt.RcNeAt.tuple_bool b p hu
   | int i=>obtain⟨t,rfl⟩:=ry;exact SeqAt.RcNeAt.tuple_int i t p hu
   | str z=>obtain⟨t,rfl⟩:=ry;exact SeqAt.RcNeAt.tuple_str z t p hu
   | _=>cases f
 . obtain rfl:u=Value.ref a:=rx;obtain⟨its,_,p⟩:=I.iT e;cases y with
   | non=>cases ry;exact SeqAt.RcNeAt.list_none p hu
   | bl b=>cases ry;exact SeqAt.RcNeAt.list_bool b p hu
   | int i=>obtain⟨t,rfl⟩:=ry;exact SeqAt.RcNeAt.list_int i t p hu
   | str z=>obtain⟨t,rfl⟩:=ry;exact SeqAt.RcNeAt.list_str z t p hu
   | _=>cases f
 . obtain rfl:u=Value.ref a:=rx;obtain rfl:v=Value.ref c:=ry;obtain⟨its,_,p⟩:=I.iU e;obtain⟨its2,_,p2⟩:=I.iT e2;exact SeqAt.RcNeAt.tuple_list p p2 hu
 . obtain rfl:u=Value.ref a:=rx;obtain rfl:v=Value.ref c:=ry;obtain⟨its,_,p⟩:=I.iT e;obtain⟨its2,_,p2⟩:=I.iU e2;exact SeqAt.RcNeAt.list_tuple p p2 hu
theorem Ry:B6 X (compareOp .NotEq) (fun x y H Q=>∃ n b,ik H n x y b/\X.A.units+n+1<cLine/\Q (.bl !b) H):=by
 intro aa s σ H x y v u Q I rx ry h;obtain⟨n,b,h,hu,q⟩:=h;have done:SeqAt.RcNeAt X.A s v u (!b)->wpAny (model X.prog X.w) X.A (compareOp .NotEq v u) (EP X aa σ Q) X.xe s:=fun z=>z X.prog X.w X.xe _ ⟨.bl !b,H,I,U,q⟩;cases n with
 | zero=>exact done (Ty I h rx ry om)
 | succ n=>
  rcases id h with h | ⟨a,c,xs,ys,e,rfl,rfl,ha,hc,hi,eb⟩ | ⟨a,c,xs,ys,e,rfl,rfl,ha,hc,hi,eb⟩
  . exact done (Ty I h rx ry om)
  . obtain rfl:v=Value.ref a:=rx;obtain rfl:u=Value.ref c:=ry;obtain⟨its,r,pa⟩:=I.iU ha;obtain⟨its2,r2,pb⟩:=I.iU hc;have z:=SeqAt.RcNeAt.tuples (A:=X.A) (s:=s) (e:=e) pa pb om fun j h1 h2=>by
     obtain⟨x1,e1,q1⟩:=r.at h1;obtain⟨y1,e2,q2⟩:=r2.at h2;exact Ii I n x1 y1 _ _ _ X.A.in1 (hi j x1 y1 e1 e2) q1 q2 (by show X.A.units+1+n<cLine;exact om)
    have l1:=r.length;have l2:=r2.length
    rw[BE,BE,<- l1,<- l2,<- eb] at z;exact done z
  . obtain rfl:v=Value.ref a:=rx;obtain rfl:u=Value.ref c:=ry;obtain⟨its,r,pa⟩:=I.iT ha;obtain⟨its2,r2,pb⟩:=I.iT hc;have l1:=r.length;have l2:=r2.length
    by_cases hl:xs.length=ys.length
    . have z:=SeqAt.RcNeAt.lists (A:=X.A) (s:=s) (e:=e) pa pb (by simp;exact om) om fun j h1 h2=>by
       obtain⟨x1,e1,q1⟩:=r.at h1;obtain⟨y1,e2,q2⟩:=r2.at h2;exact Ii I n x1 y1 _ _ _ X.A.in1 (hi j x1 y1 e1 e2) q1 q2 (by show X.A.units+1+n<cLine;exact om)
      rw[BE,<- l1] at z;have eb':b=(List.range xs.length).all e:=by rw[eb,show(xs.length == ys.length)=true from by simpa using hl,EH]
      rw[<- eb'] at z;exact done z
    . have eb':b=false:=by rw[eb,show(xs.length == ys.length)=false from by simpa using hl,LA]
      subst eb';exact done (SeqAt.RcNeAt.lists_lengths pa pb (by simp;exact om) om)
end
theorem Gj (e:Nat->Bool):(List.range (min 3 3)).all e=(e 0 && e 1 && e 2):=by simp[List.range,List.range.loop,Bool.and_assoc]
theorem dY (e:Nat->Bool):(List.range (min 4 4)).all e=(e 0 && e 1 && e 2 && e 3):=by simp[List.range,List.range.loop,Bool.and_assoc]
deriving instance DecidableEq for Tm
inductive iG where
 | int | str | nd
def Ws (g:Str->iG×iG):Tm->iG->Prop
 | .int _,s=>s = .int
 | .str _,s=>s = .str
 | .nd m a b,s=>s = .nd/\Ws g a (g m).1/\Ws g b (g m).2
theorem Rr {g:Str->iG×iG}{d:Addr}{H:Hp}{kvs:List (List Al×V)}(hd:H d=some (.dT kvs))(hi:iH kvs):∀ {t t':Tm}{s:iG}{v:V},Ws g t s->Ws g t' s->AE (.num d) H t v->AE (.num d) H t' v->t=t'
 | .int i,t',s,v,w,w',h,h'=>by
  have w:s = .int:=w;subst w;cases t' with
  | int j=>have:=(show v=_ from h).symm.trans (show v=_ from h');cases this;rfl
  | str z=>cases(show iG.int=iG.str from w')
  | nd m a b=>cases w'.1
 | .str x,t',s,v,w,w',h,h'=>by
  have w:s = .str:=w;subst w;cases t' with
  | int j=>cases(show iG.str=iG.int from w')
  | str z=>have:=(show v=_ from h).symm.trans (show v=_ from h');cases this;rfl
  | nd m a b=>cases w'.1
 | .nd m a b,t',s,v,w,w',h,h'=>by
  obtain⟨rfl,wa,wb⟩:=w;cases t' with
  | int j=>cases(show iG.nd=iG.int from w')
  | str z=>cases(show iG.nd=iG.str from w')
  | nd m' a' b'=>
   obtain⟨_,wa',wb'⟩:=w';obtain⟨kv1,ka,kb,n,e1,ha,hb,hv,ev⟩:=h;obtain⟨kv2,ka',kb',n',e1',ha',hb',hv',ev'⟩:=h';rw[hd] at e1 e1';cases e1;cases e1'
   rw[ev] at ev';cases ev';have z:=hi.inj hv hv';simp at z;obtain⟨z1,z2,z3⟩:=z;subst z1 z2 z3;rw[Rr hd hi wa wa' ha ha',Rr hd hi wb wb' hb hb']
theorem Ze {x:V}(kx:∃ k,x=kV k)(ky:∃ k,y=kV k):Du x y=decide (x=y):=by
 obtain⟨k,rfl⟩:=kx;obtain⟨k',rfl⟩:=ky;cases k with
 | inl i=>
  cases k' with
  | inl j=>show(i == j)=decide (V.int i=V.int j);rw[Cw];simp
  | inr z=>show false=decide (V.int i=V.str z);simp
 | inr w=>
  cases k' with
  | inl j=>show false=decide (V.str w=V.int j);simp
  | inr z=>show(w == z)=decide (V.str w=V.str z);rw[Cw];simp
theorem JY {g:Str->iG×iG}:∀ {t t':Tm}{s:iG}{x y:V},(∀ d,S = .num d->Ws g t s/\Ws g t' s/\∃ kvs,H d=some (.dT kvs)/\iH kvs)->AE S H t x->AE S H t' y->ik H t.dep x y (decide (t=t')):=by
 intro t t' s x y hw hx hy;cases S with
 | num d=>
  obtain⟨w,w',kvs,hd,hi⟩:=hw d rfl;obtain⟨k,ek⟩:=Nz hx;obtain⟨k',ek'⟩:=Nz hy;refine ik.jd (.inl ⟨by rw[ek];exact U4 k,by rw[ek'];exact U4 k',?_⟩) _;rw[Ze ⟨k,ek⟩ ⟨k',ek'⟩,decide_eq_decide]
  constructor
  . rintro rfl;exact Qp hx hy
  . rintro rfl;exact Rr hd hi w w' hx hy
 | plain=>
  clear hw
  induction t generalizing t' x y with
  | int i=>
   have hx:x = .int i:=hx;subst hx;cases t' with
   | int j=>have hy:y = .int j:=hy;subst hy;exact ik.jd (.inl ⟨U,U,by show _=(i == j);rw[Cw];simp⟩) _
   | str z=>have hy:y = .str z:=hy;subst hy;exact ik.jd (.inl ⟨U,U,by show _=false;simp⟩) _
   | nd m a b=>obtain⟨p,va,vb,rfl,hp,_⟩:=hy;exact ik.jd (.inr ⟨by simp,.inl ⟨U,.inl ⟨p,_,U,hp⟩⟩⟩) _
  | str w=>
   have hx:x = .str w:=hx;subst hx;cases t' with
   | int j=>have hy:y = .int j:=hy;subst hy;exact ik.jd (.inl ⟨U,U,by show _=false;simp⟩) _
   | str z=>have hy:y = .str z:=hy;subst hy;exact ik.jd (.inl ⟨U,U,by show _=(w == z);rw[Cw];simp⟩) _
   | nd m a b=>obtain⟨p,va,vb,rfl,hp,_⟩:=hy;exact ik.jd (.inr ⟨by simp,.inl ⟨U,.inl ⟨p,_,U,hp⟩⟩⟩) _
  | nd m a b iha ihb=>
   obtain⟨p,va,vb,rfl,hp,ha,hb⟩:=hx;cases t' with
   | int j=>have hy:y = .int j:=hy;subst hy;exact ik.jd (.inr ⟨by simp,.inr (.inl ⟨.inl ⟨p,_,U,hp⟩,U⟩)⟩) _
   | str z=>have hy:y = .str z:=hy;subst hy;exact ik.jd (.inr ⟨by simp,.inr (.inl ⟨.inl ⟨p,_,U,hp⟩,U⟩)⟩) _
   | nd m' a' b'=>
    obtain⟨p',va',vb',rfl,hp',ha',hb'⟩:=hy;refine .inr (.inl ⟨p,p',_,_,(fun i=>if i=0 then decide (m=m') else if i=1 then decide (a=a') else decide (b=b')),U,U,hp,hp',fun i u v h1 h2=>?_,?_⟩)
    . match i,h1,h2 with
      | 0,h1,h2=>simp at h1 h2;subst h1 h2;exact ik.jd (.inl ⟨U,U,by show _=(m == m');rw[Cw];simp⟩) _
      | 1,h1,h2=>simp at h1 h2;subst h1 h2;exact ik.up (Nat.le_max_left _ _) (iha ha ha')
      | 2,h1,h2=>simp at h1 h2;subst h1 h2;exact ik.up (Nat.le_max_right _ _) (ihb hb hb')
      | i+3,h1,h2=>simp at h1
    . show _=((List.range (min 3 3)).all _ && (3 == 3));rw[Gj,Cw];simp[and_assoc]
 | turned=>
  clear hw
  induction t generalizing t' x y with
  | int i=>
   have hx:x = .int i:=hx;subst hx;cases t' with
   | int j=>have hy:y = .int j:=hy;subst hy;exact ik.jd (.inl ⟨U,U,by show _=(i == j);rw[Cw];simp⟩) _
   | str z=>have hy:y = .str z:=hy;subst hy;exact ik.jd (.inl ⟨U,U,by show _=false;simp⟩) _
   | nd m a b=>obtain⟨p,va,vb,rfl,hp,_⟩:=hy;exact ik.jd (.inr ⟨by simp,.inl ⟨U,.inl ⟨p,_,U,hp⟩⟩⟩) _
  | str w=>
   have hx:x = .str w:=hx;subst hx;cases t' with
   | int j=>have hy:y = .int j:=hy;subst hy;exact ik.jd (.inl ⟨U,U,by show _=false;simp⟩) _
   | str z=>have hy:y = .str z:=hy;subst hy;exact ik.jd (.inl ⟨U,U,by show _=(w == z);rw[Cw];simp⟩) _
   | nd m a b=>obtain⟨p,va,vb,rfl,hp,_⟩:=hy;exact ik.jd (.inr ⟨by simp,.inl ⟨U,.inl ⟨p,_,U,hp⟩⟩⟩) _
  | nd m a b iha ihb=>
   obtain⟨p,va,vb,rfl,hp,ha,hb⟩:=hx;cases t' with
   | int j=>have hy:y = .int j:=hy;subst hy;exact ik.jd (.inr ⟨by simp,.inr (.inl ⟨.inl ⟨p,_,U,hp⟩,U⟩)⟩) _
   | str z=>have hy:y = .str z:=hy;subst hy;exact ik.jd (.inr ⟨by simp,.inr (.inl ⟨.inl ⟨p,_,U,hp⟩,U⟩)⟩) _
   | nd m' a' b'=>
    obtain⟨p',va',vb',rfl,hp',ha',hb'⟩:=hy;refine .inr (.inl ⟨p,p',_,_,(fun i=>if i=0 then true else if i=1 then decide (b=b') else if i=2 then decide (a=a') else decide (m=m')),U,U,hp,hp',fun i u v h1 h2=>?_,?_⟩)
    . match i,h1,h2 with
      | 0,h1,h2=>simp at h1 h2;subst h1 h2;exact ik.jd (.inl ⟨U,U,by rw[LD rfl];rfl⟩) _
      | 1,h1,h2=>simp at h1 h2;subst h1 h2;exact ik.up (Nat.le_max_right _ _) (ihb hb hb')
      | 2,h1,h2=>simp at h1 h2;subst h1 h2;exact ik.up (Nat.le_max_left _ _) (iha ha ha')
      | 3,h1,h2=>simp at h1 h2;subst h1 h2;exact ik.jd (.inl ⟨U,U,by show _=(m == m');rw[Cw];simp⟩) _
      | i+4,h1,h2=>simp at h1
    . show _=((List.range (min 4 4)).all _ && (4 == 4));rw[dY,Cw];simp
      constructor
      . rintro⟨h1,h2,h3⟩;exact⟨⟨h3,h2⟩,h1⟩
      . rintro⟨⟨h3,h2⟩,h1⟩;exact⟨h1,h2,h3⟩
section
variable {prog:Program}{w:World}{R:Result->Shared->Prop}
end
theorem Ub:∀ {ys:List Str}{its:List Value},hI (ys.map V.str) its->StrsAre its ys
 | [],_,r=>by cases r;exact .nil
 | y :: ys,_,r=>by
  cases r with
  | cons p r=>obtain⟨t,rfl⟩:=p;exact .cons y t (Ub r)
theorem Tr {X:Cx}:Fz X "str.join" (fun x vs H Q=>∃ (z:Str)(p:Addr)(ys:List Str),x = .str z/\vs=[.ref p]/\gy X.K H p (ys.map V.str)/\(ys.map (·.length)).sum+ys.length * z.length<=16777216/\Q (.str (Txt.join z ys)) H):=by
 intro aa s σ H x vs v us Q I rx rv h;obtain⟨z,p,ys,rfl,rfl,hq,hW,q⟩:=h;obtain⟨t,rfl⟩:=rx;obtain⟨u,rfl,ru⟩:=CT rv;cases ru
 obtain⟨its,r,pl,hz⟩:=I.list hq;exact PyProof.Rows.join_list pl.isList (Ub (by simpa using r)) hW fun t' k=>⟨.str _,H,I.tok _,⟨_,U⟩,q⟩
def cw (i:Nat)(te:MX):Gg:=fun D R σ H=>te σ H (fun v H1=>D.nx (σ.set i (some v)) H1) (R σ)
theorem dR {X:Cx}{te:MX}(hN:X.N.Nodup)(hi:X.N[i]? = some x)(hx:GQ X.env.scope x)(he:R9 X e te)(hs:swapsWith e (some (.Name x pos')) pos.line X.env=pure false:=by rfl)(hf:X.fn x=true\/X.env.scope.names.lookup x=some .local:=by first | exact .inl rfl | exact .inr rfl | assumption) :
 Sy X (.Assign [.Name x pos'] e pos) (cw i te):=by
 intro aa s σ H D R I h;refine wpAny_Assign_Name (C6 (he aa s σ H _ _ I h) (fun v s1=>Bl fun y H1 I1 r1 q1=>Ly I1 hN hi hx r1 (fun s2 I2=>⟨_,H1,I2,q1⟩) hf) fun e' s1 hz=>?_) hs;obtain⟨ea,t,C,B,H3,H',σ',s3,e1,I3,F,e2,q⟩:=hz;subst e2;exact⟨ea,t,C,B,H3,H',_,s3,e1,I3,F,q⟩
theorem YZ {X:Cx}:CY X (.builtin "isinstance") (fun xs H Q=>∃ x t C b,xs=[x,.ref C]/\D6 X.K H x t/\W.kitOne X.K t (.ref C)=some b/\Q (.bl b) H):=by
 intro aa s σ H xs us Q I r h;obtain⟨x,t,c,b,rfl,ty,e,q⟩:=h;obtain⟨u,w',rfl,rx,rc⟩:=Mm r;obtain rfl:w'=Value.ref c:=rc;exact VM I rx ty e fun tk=>⟨.bl b,H,I.tok tk,U,q⟩
theorem RT (Pv:Addr->Nat->List V->Hp->Prop)(h0:∀ D,H D=none->Pv D 0 [] (Ab H D (.lst [])))
 (hs:∀ D (i:Nat) ys H' Qb,H D=none->i<n->Pv D i ys H'->(∀ y H3,H3 D=some (.lst ys)->ys.length<sizeLine->Pv D (i+1) (ys++[y]) (Ab H3 D (.lst (ys++[y])))->Qb y H3)->te (some (.int (lo+(i:Nat))) :: CS js σ) H' Qb)
 (hd:∀ D ys H',H D=none->Pv D n ys H'->R D H') :
 ∀ D,H D=none->∃ W:Nat->Nat->List V->Hp->Prop,(∃ m,W 0 m [] (Ab H D (.lst [])))/\∀ i m ys H,W i m ys H->
  ((FW lo n).stop i H/\R D H)\/((FW lo n).go i H/\∀ x H',(FW lo n).jT i H x H'->if true=true then te (some x :: CS js σ) H' fun y H3=>H3 D=some (.lst ys)/\ys.length<sizeLine/\∃ m',m'<m/\W (i+1) m' (ys++[y]) (Ab H3 D (.lst (ys++[y])))
   else ∃ m',m'<m/\W (i+1) m' ys H'):=by
 intro D hD;refine⟨fun i m ys H'=>m=n - i/\i<=n/\Pv D i ys H',⟨n,by simp,om,h0 D hD⟩,?_⟩;rintro i m ys H' ⟨rfl,hi,hp⟩;by_cases hlt:i<n
 . refine .inr ⟨hlt,fun x H2 ⟨e2,ex⟩=>?_⟩;subst e2 ex;refine AC ?_;exact hs D i ys _ _ hD hlt hp fun y H3 a b c=>⟨a,b,n - (i+1),om,U,om,c⟩
 . have e:i=n:=by exact om
   subst e;exact .inl ⟨Ay _,hd D ys H' hD hp⟩
theorem OI {K:W.Frag}{xs:List V}(Pv:Addr->Nat->List V->Hp->Prop)(h0:∀ D,H D=none->Pv D 0 [] (Ab H D (.lst [])))(hl:∀ D i ys H',H D=none->Pv D i ys H'->gy K H' a xs)
 (hs:∀ D (i:Nat) x ys H' Qb,H D=none->xs[i]? = some x->Pv D i ys H'->(∀ y H3,H3 D=some (.lst ys)->ys.length<sizeLine->Pv D (i+1) (ys++[y]) (Ab H3 D (.lst (ys++[y])))->Qb y H3)->te (some x :: CS js σ) H' Qb)
 (hd:∀ D ys H',H D=none->Pv D xs.length ys H'->R D H') :
 ∀ D,H D=none->∃ W:Nat->Nat->List V->Hp->Prop,(∃ m,W 0 m [] (Ab H D (.lst [])))/\∀ i m ys H,W i m ys H->
  ((Ea K a).stop i H/\R D H)\/((Ea K a).go i H/\∀ x H',(Ea K a).jT i H x H'->if true=true then te (some x :: CS js σ) H' fun y H3=>H3 D=some (.lst ys)/\ys.length<sizeLine/\∃ m',m'<m/\W (i+1) m' (ys++[y]) (Ab H3 D (.lst (ys++[y])))
   else ∃ m',m'<m/\W (i+1) m' ys H'):=by
 intro D hD;refine⟨fun i m ys H'=>m=xs.length - i/\i<=xs.length/\Pv D i ys H',⟨xs.length,by simp,om,h0 D hD⟩,?_⟩;rintro i m ys H' ⟨rfl,hi,hp⟩;have hq:=hl D i ys H' hD hp;by_cases hlt:i<xs.length
 . refine .inr ⟨⟨_,xs[i],hq,Bc hlt⟩,fun x H2 ⟨e2,hx⟩=>?_⟩;subst e2;have ex:=hx _ hq;refine AC ?_;exact hs D i x ys _ _ hD ex hp fun y H3 a b c=>⟨a,b,xs.length - (i+1),om,U,om,c⟩
 . have e:i=xs.length:=by exact om
   subst e;exact .inl ⟨⟨_,hq,Ay _⟩,hd D ys H' hD hp⟩
theorem JE {env:List (Str×Addr)}(h:∀ p∈cl,env.lookup p.1=some p.2):∀ z c,cl.lookup z=some c->env.lookup z=some c:=fun z c e=>h (z,c) (Fy e)
theorem Gr.ext (t:C3 S H)(h:∀ b o,H b=some o->H' b=some o):Gr S 0 H H':=⟨⟨fun b o e _=>h b o e,fun d e=>by
 obtain⟨kvs,q⟩:=t d e;exact⟨kvs,[],q,by rw[E8];exact h _ _ q,Ay _,fun z=>by simpa using z⟩⟩,fun b o e _=>h b o e⟩
theorem gx.ints {K:W.Frag}{mg:gj}(h:gx K mg st S H f):∀ d,S = .num d->∃ kvs,H d=some (.dT kvs)/\iH kvs:=fun d e=>by
 subst e;obtain⟨c,c',doc,pm,ct,ob,co,cvs,tk,kvs,_,_,_,_,_,_,h7,h8⟩:=h;exact⟨kvs,h7,h8⟩
theorem Rz {g:Str->iG×iG}{s:iG}{ts':List Tm}{ws':List V}(hi:∀ d,S = .num d->∃ kvs,H d=some (.dT kvs)/\iH kvs)(hw:∀ t∈ts,Ws g t s)(hw':∀ t∈ts',Ws g t s)(hn:∀ t∈ts,t.dep<=n)
 (h:Bs S H ts ws)(h':Bs S H ts' ws')(ha:H a=some (.lst ws))(hb:H b=some (.lst ws')):ik H (n+1) (.ref a) (.ref b) (decide (ts=ts')):=by
 have l1:=Bq h;have l2:=Bq h';refine .inr (.inr ⟨a,b,ws,ws',fun i=>decide (ts[i]? = ts'[i]?),U,U,ha,hb,fun i u v h1 h2=>?_,?_⟩)
 . obtain⟨t,e1,q1⟩:=JP h h1;obtain⟨t',e2,q2⟩:=JP h' h2;have z:=JY (g:=g) (s:=s) (fun d e=>⟨hw t (CK e1),hw' t' (CK e2),hi d e⟩) q1 q2;have e:decide (ts[i]? = ts'[i]?)=decide (t=t'):=by rw[e1,e2,decide_eq_decide];simp
   dsimp only;rw[e];exact ik.up (hn t (CK e1)) z
 . rw[Cw];simp only[decide_eq_true_eq,Gc,beq_iff_eq,Lo,List.mem_range]
   constructor
   . rintro rfl;exact⟨om,fun i _=>rfl⟩
   . rintro⟨e,q⟩;apply OY
     intro i;by_cases hlt:i<ws.length
     . exact q i hlt
     . rw[Ij om,Ij om]
theorem W5 (ha:H a=some (.lst ws))(hb:H b=some (.lst [])):ik H 1 (.ref a) (.ref b) (decide (ws=[])):=by
 refine .inr (.inr ⟨a,b,ws,[],fun _=>true,U,U,ha,hb,fun i u v _ h2=>by simp at h2,?_⟩);rw[OV,Bool.and_true,Cw];simp
theorem Nn {x:V}(fx:CD x=true)(fy:CD y=true):ik H 0 x y (Du x y):=.inl ⟨fx,fy,U⟩
noncomputable def gS (lf:iG) (m:Str):iG×iG:=if m = "leaf" then(.str,lf) else if m = "pair" then(.nd,.nd) else if m = "book" then(.int,.nd) else if m = "row" then(.int,.str) else if m = "fork" then(.nd,.nd) else if m = "table" then(.int,.nd) else(.int,.int)
theorem Vh (lf:iG):gS lf "leaf" = (.str,lf):=by unfold gS;rw[if_pos rfl]
theorem SL (lf:iG):gS lf "pair" = (.nd,.nd):=by unfold gS;rw[if_neg (by decide),if_pos rfl]
theorem SR (lf:iG):gS lf "book" = (.int,.nd):=by unfold gS;rw[if_neg (by decide),if_neg (by decide),if_pos rfl]
theorem VO (lf:iG):gS lf "none" = (.int,.int):=by unfold gS;rw[if_neg (by decide),if_neg (by decide),if_neg (by decide),if_neg (by decide),if_neg (by decide),if_neg (by decide)]
abbrev BW (lf:iG)(t:Tm):Prop:=Ws (gS lf) t .nd
theorem Gx:BW lf AM:=⟨U,by rw[VO];rfl,by rw[VO];rfl⟩
theorem S2 {a b:Tm}(h:BW lf a)(h':BW lf b):BW lf (AJ a b):=⟨U,by rw[SL];exact h,by rw[SL];exact h'⟩
theorem LZ {n:Int}{a:Tm}(h:BW lf a):BW lf (.nd "book" (.int n) a):=⟨U,by rw[SR];rfl,by rw[SR];exact h⟩
theorem R4 {a:Tm}(h:Ws (gS lf) a lf):BW lf (.nd "leaf" (.str x) a):=⟨U,by rw[Vh];rfl,by rw[Vh];exact h⟩
theorem V7 (h:∀ t∈ts,BW lf t):BW lf (DC ts):=Gb.top_all AM AJ Gx (fun _ _ a b=>S2 a b) ts.length ts (Ay _) h
theorem Z7 {p:Nat}(h:∀ t∈ts,BW lf t):∀ t∈CG ts p,BW lf t:=fun t ht=>by
 obtain⟨sub,hs,rfl⟩:=Gb.path_sub AM AJ ts.length ts p (Ay _) t ht;exact V7 fun x hx=>h x (hs.2 x hx)
theorem fD {us:List Bool}{os:List Tm}{x:Tm}(h:∀ t∈os,BW lf t)(hx:BW lf x):BW lf (Gb.rise AJ us os x):=Gb.rise_all AJ (fun _ _ a b=>S2 a b) us os x h hx
theorem Ys {p B:Nat}(hn:ts.length<=n)(h:∀ t∈ts,t.dep<=B):∀ t∈CG ts p,t.dep<=B+n+1:=fun t ht=>by
 obtain⟨sub,hs,rfl⟩:=Gb.path_sub AM AJ ts.length ts p (Ay _) t ht;exact LV n sub B (Bu hs.1 hn) fun x hx=>h x (hs.2 x hx)
theorem SW {B:Nat}:∀ (us:List Bool)(os:List Tm)(x:Tm)(k:Nat),(∀ t∈os,t.dep<=B)->x.dep<=B+k->(Gb.rise AJ us os x).dep<=B+k+us.length
 | [],_,x,k,_,hx=>by unfold Gb.rise;simpa using hx
 | u :: us,[],x,k,_,hx=>by unfold Gb.rise;exact om
 | u :: us,o :: os,x,k,h,hx=>by
  show(Gb.rise AJ us os (if u then AJ x o else AJ o x)).dep<=_;have ho:=h o CO;have z:=SW us os (if u then AJ x o else AJ o x) (k+1) (fun t ht=>h t (CH _ ht)) (by
   cases u
   . show max o.dep x.dep+1<=_;exact om
   . show max x.dep o.dep+1<=_;exact om)
  rw[C5];exact om
theorem fq:∀ a b c d,AJ a b=AJ c d->a=c/\b=d:=fun a b c d h=>by injection h with _ h1 h2;exact⟨h1,h2⟩
theorem JI {X:Cx}{C:Addr}{k:Nat}{ps:List Str}{p:Pos}{t:TA}(M:∃ fI,Mk X.K C fI)(F:AF X.prog X.w X.K X.mg X.base C k "__init__" ps sp)(hr:ic (k+1) X.A)(hg:Gl X x)(hm:X.mg x=some (.ref C))(ha:PA X (e :: es) t)
 (hdb:DT x:=by decide)(he:Ef X e es:=by rfl)(hpl:DU X es pos:=by rfl):PE X (.Call (.Name x p) (e :: es) [] pos) (Vg C sp [] E0 t):=by
 obtain⟨fI,M⟩:=M;obtain⟨f',fd,hm',hb,G⟩:=F;have q:=M.init.symm.trans hm'.at_;cases q
 exact P9 M G hr hg hm hb .nil BD ha hdb he hpl
noncomputable def JH (K:W.Frag) (a:Addr):It:=
 ⟨fun i H=>∃ xs x,gy K H a xs/\xs[i]? = some x,
  fun i H y H'=>∃ p x,y = .ref p/\H p=none/\(∀ xs,gy K H a xs->xs[i]? = some x)/\H'=Ab H p (.tup [.int (i:Nat),x]),
  fun i H=>∃ xs,gy K H a xs/\xs.length<=i⟩
theorem am {P:Program}{w:World}{K:W.Frag}(a e it:Addr)(hne:e≠it) :
 GZ P w K (.Tuple es kk tp) (JH K a) [e,it] e (fun i h=>(∃ old,IsEnum h e it ((i:Nat):Int) old)/\h.IsListIter it a i) where
 mem:=by simp
 obj:=fun i h st c hc=>by
  obtain⟨⟨old,he⟩,⟨o,eo,_,d⟩⟩:=st;simp only[Dc,CW,or_false] at hc;rcases hc with rfl | rfl
  . exact⟨_,he,fun v q=>by cases q⟩
  . exact⟨o,eo,fun v q=>by rw[d] at q;cases q⟩
 keep:=fun i h h' st k=>by
  obtain⟨⟨old,he⟩,hit⟩:=st;exact⟨⟨old,k e (by simp) _ he⟩,hit.at fun o q=>k it (by simp) o q⟩
 item:=by
  intro X hP hw hK hc i aa s σ H E I hf st hg;subst hP hw hK;obtain⟨xs,x,hq,hx⟩:=hg;obtain⟨its,rv,pl,hz⟩:=I.list hq;obtain⟨u,hu,ru⟩:=rv.get hx;obtain⟨⟨old,he⟩,hit⟩:=st;refine wpAny_pyNext_enum_item he hit pl.isList (x:=u) (by simpa using hu) hne fun h1 heo hit1 ht1 hz1 k1=>⟨_,U,?_⟩
  refine wpAny_letOwnedTupleGo_enum heo fun h2 he2 sb=>?_;have hp:H s.heap.objs.size=none:=I.hW.fresh (Ay _);have lte:e<s.heap.objs.size:=Bg he;have lti:it<s.heap.objs.size:=by obtain⟨o,eo,_⟩:=hit;exact Bg eo
  have k2:∀ c o,c∉[e,it]->s.heap.get? c=some o->h2.get? c=some o:=fun c o nc q=>by
   simp only[Dc,CW,or_false,not_or] at nc;exact(sb.2 c nc.1).trans (k1 c o nc.1 nc.2 q)
  have pr2:h2.get? s.heap.objs.size=some { cls:=.type "tuple",data:=.seq #[.int (i:Nat) s.toks,u] }:=(sb.2 _ (NR lte)).trans ht1;have nfp:∀ c o,H c=some o->c∉[e,it]:=fun c o q hc=>by rw[(hf c hc).1] at q;cases q
  have hnn:∀ c o,H c=some o->c≠s.heap.objs.size:=fun c o q=>Aq q hp;have I2:gv X aa σ (Ab H s.heap.objs.size (.tup [.int (i:Nat),x])) { s with heap:=h2,toks:=s.toks+1 }:=by
   refine I.jW (s':={ s with heap:=h2,toks:=s.toks+1 }) (ch:=[e,it]) rfl ⟨fun c o q n nf nc=>k2 c o nc q,fun c o q n hc nc=>⟨o.slots,k2 c o nc q⟩,fun c o q n nc=>?_,fun c o q nc=>⟨o,k2 c o nc q⟩,fun c xs q=>?_,fun c o u q=>?_,fun c ps q=>⟨#[],?_⟩⟩ (fun c o q=>?_) I.bare fun c hc=>?_
   . rw[Af (BC (Bg q))];exact n
   . rw[Af (hnn _ _ q)];exact q
   . rw[Af (hnn _ _ q)];exact q
   . rw[Af (hnn _ _ q),QB];exact q
   . by_cases hc:c=s.heap.objs.size
     . subst hc;rw[Ad] at q;cases q;exact⟨by show(2:Nat)<=_;decide,[.int (i:Nat) s.toks,u],.cons ⟨_,U⟩ (.cons ru .nil),_,pr2,U,_,U⟩
     . rw[Af hc] at q;refine(I.hW c o q).jo (fun d w' hd z=>k2 d w' ?_ z) (fun d z=>by rw[Af (hnn _ _ z)];exact z) fun d xs z=>by rw[Af (hnn _ _ z)];exact z
       rcases hd with rfl | hd
       . exact nfp _ _ q
       . exact nfp _ _ hd
   . obtain⟨f0,f1,f2,f3,f4,f5⟩:=hf c hc;exact⟨f3,f1,f4,f5⟩
  refine⟨.ref s.heap.objs.size,_,I2,U,⟨_,x,U,hp,fun ys hy=>by rw[I.iV hy hq];exact hx,U⟩,⟨⟨u,?_⟩,?_⟩,fun c hc=>?_⟩
  . have z:IsEnum h2 e it ((i:Int)+1) u:=he2;rw[show(i:Int)+1=((i+1:Nat):Int) by exact om] at z;exact z
  . exact hit1.at fun o q=>(sb.2 _ (Ne.symm hne)).trans q
  . have lt:c<s.heap.objs.size:=by
     simp only[Dc,CW,or_false] at hc;rcases hc with rfl | rfl
     . exact lte
     . exact lti
    rw[Af (BC lt)];exact(hf c hc).1
 done:=by
  intro X hP hw hK hc i aa s σ H E I hf st hg;subst hP hw hK;obtain⟨xs,hq,hx⟩:=hg;obtain⟨its,rv,pl,hz⟩:=I.list hq;have hl:=rv.length;obtain⟨⟨old,he⟩,hit⟩:=st;obtain⟨f0,f1,f2,f3,f4,f5⟩:=hf it (by simp);exact wpAny_pyNext_enum_end (I.ok.hd hc) he hit pl.isList (by simp;exact om) fun h' k=>⟨U,I.turned (t':=s.toks) (fun b o hb q=>k b o hb q) f0 f1 f3 f4 f5⟩
 self:=fun _ _ _ _ _ st h=>by
  obtain⟨⟨old,he⟩,_⟩:=st;exact wpAny_pyIter_enum he h
def W2 (K:W.Frag)(ta:TA):TI:=fun σ H R=>ta σ H fun vs H1=>∃ a xs,vs=[.ref a]/\gy K H1 a xs/\R (JH K a) H1
theorem fU {X:Cx}{a:Expr}{ta:TA}{p:Pos}(hg:Gl X "enumerate")(hm:X.mg "enumerate" = none)(ha:PA X [a] ta)(hs:starEach [a] X.env=[(false,eval a X.env)]:=by rfl):PI X (.Tuple es kk tp) (.Call (.Name "enumerate" p) [a] [] pos) (W2 X.K ta):=by
 intro aa s σ H R I h;refine Call_ (GC I hg hm boot_enumerate (IT (Av (ha pos aa s σ H _ I h) fun us s1=>Bl fun vs H1 I1 r1 q1=>?_) hs rfl));obtain⟨l,xs,e,hq,q⟩:=q1;subst e;cases r1 with
 | cons r rr=>
  cases rr
  cases r
  obtain⟨its,rv,pl,hz⟩:=I1.list hq;refine call_enumerate_list pl.isList fun h' he hit hsz k=>?_;have I2:gv X aa σ H1 { s1 with heap:=h' }:=I1.kept (t':=s1.toks) k;refine wpAny_pyIter_enum (s:={ s1 with heap:=h' }) he ?_;refine⟨s1.heap.objs.size+1,[s1.heap.objs.size+1,s1.heap.objs.size],_,_,H1,U,I2,am l _ _ (by show s1.heap.objs.size+1≠s1.heap.objs.size;exact om),⟨⟨.none,he⟩,hit⟩,fun b hb=>?_,q⟩;simp only[Dc,CW,or_false] at hb;have fr:∀ c,s1.heap.objs.size<=c->E3 X aa H1 c:=fun c hc=>I1.jv hc (I1.hW.fresh hc);rcases hb with rfl | rfl
  . exact fr _ (Nat.le_succ _)
  . exact fr _ (Ay _)
theorem eK {K:W.Frag}{xs:List V}(Pv:Nat->St->Hp->Prop)(h0:Pv 0 σ H)(hl:∀ i σ H,i<=xs.length->Pv i σ H->gy K H a xs)
 (hs:∀ i x p σ H,xs[i]? = some x->H p=none->Pv i σ H->g (.ref p) σ (Ab H p (.tup [.int (i:Nat),x])) fun σ2 H2=>tb { D with nx:=Pv (i+1),ct:=Pv (i+1),bk:=D.nx } σ2 H2)(hd:∀ σ H,Pv xs.length σ H->D.nx σ H) :
 ∃ W:Nat->Nat->St->Hp->Prop,(∃ m,W 0 m σ H)/\∀ i m σ H,W i m σ H->
  ((JH K a).stop i H/\D.nx σ H)\/((JH K a).go i H/\∃ N:St->Hp->Prop,(∀ σ' H',N σ' H'->∃ m',m'<m/\W (i+1) m' σ' H')/\∀ x H',(JH K a).jT i H x H'->g x σ H' fun σ2 H2=>tb { D with nx:=N,ct:=N,bk:=D.nx } σ2 H2):=by
 refine⟨fun i m σ H=>m=xs.length - i/\i<=xs.length/\Pv i σ H,⟨xs.length,by simp,Es _,h0⟩,?_⟩;rintro i m σ H ⟨rfl,hi,p⟩;have q:=hl i σ H hi p;by_cases hlt:i<xs.length
 . refine .inr ⟨⟨xs,xs[i],q,Bc hlt⟩,Pv (i+1),fun σ' H' p'=>⟨xs.length - (i+1),om,U,hlt,p'⟩,fun y H' ⟨pp,x,e1,e2,e3,e4⟩=>?_⟩;subst e1 e4;exact hs i x pp σ _ (e3 xs q) e2 p
 . have e:i=xs.length:=by exact om
   subst e;exact .inl ⟨⟨xs,q,Ay _⟩,hd σ H p⟩
section
variable {X:Cx}
theorem ZG:Fz X "str.lstrip" (fun x vs H Q=>∃ z y,x = .str z/\vs=[.str y]/\z.length<=sizeLine/\Q (.str (Txt.lstripChars z y)) H):=by
 intro aa s σ H x vs v us Q I rx rv h;obtain⟨z,y,rfl,rfl,hz,q⟩:=h;obtain⟨t,rfl⟩:=rx;obtain⟨u,rfl,t',rfl⟩:=CT rv;exact SC.lstripChars (fun t' k=>⟨.str _,H,I.tok _,⟨_,U⟩,q⟩) hz
theorem fV:Fz X "str.rstrip" (fun x vs H Q=>∃ z y,x = .str z/\vs=[.str y]/\z.length<=sizeLine/\Q (.str (Txt.rstripChars z y)) H):=by
 intro aa s σ H x vs v us Q I rx rv h;obtain⟨z,y,rfl,rfl,hz,q⟩:=h;obtain⟨t,rfl⟩:=rx;obtain⟨u,rfl,t',rfl⟩:=CT rv;exact SC.rstripChars (fun t' k=>⟨.str _,H,I.tok _,⟨_,U⟩,q⟩) hz
theorem Qa:Fz X "str.startswith" (fun x vs H Q=>∃ z y,x = .str z/\vs=[.str y]/\Q (.bl (Txt.startswith z y)) H):=by
 intro aa s σ H x vs v us Q I rx rv h;obtain⟨z,y,rfl,rfl,q⟩:=h;obtain⟨t,rfl⟩:=rx;obtain⟨u,rfl,t',rfl⟩:=CT rv;exact SC.startswith ⟨.bl _,H,I,U,q⟩
theorem Tg:∀ (l:List (Str×Tok)),hI (l.map fun p=>V.str p.1) (strValues l)
 | []=>.nil
 | (y,t) :: r=>.cons ⟨t,U⟩ (Tg r)
theorem YY:Fz X "str.split" (fun x vs H Q=>∃ z y,x = .str z/\vs=[.str y]/\y.length≠0/\z.length<=sizeLine/\(Txt.split z y).length<=sizeLine/\∀ l,H l=none->Q (.ref l) (Ab H l (.lst ((Txt.split z y).map V.str)))):=by
 intro aa s σ H x vs v us Q I rx rv h;obtain⟨z,y,rfl,rfl,hy0,hz,hz2,q⟩:=h;obtain⟨t,rfl⟩:=rx;obtain⟨u,rfl,t',rfl⟩:=CT rv;have hy:(y.length == 0)=false:=by simpa using hy0
 have fin:∀ (l:List (Str×Tok)) (k:Nat),l.map (·.1)=Txt.split z y->EP X aa σ Q (.ref s.heap.objs.size) { s with heap:=s.heap.push { cls:=.type "list",data:=.seq (strValues l).toArray },toks:=k }:=fun l k e=>by
  have ev:(Txt.split z y).map V.str=l.map fun p=>V.str p.1:=by rw[<- e,E4];rfl
  refine⟨.ref _,_,I.kE (t':=k) (ys:=(Txt.split z y).map V.str) (by rw[ev];exact Tg l) (by rw[AS];exact hz2),U,q _ I.fresh⟩
 cases h1:(decide (z.length<y.length) || decide (Builtin.Str.strKind z<Builtin.Str.strKind y))
 . cases hf:(Builtin.Str.occurrences z y 0 z.length (z.length+1)).isEmpty
   . have es:Txt.split z y=Builtin.Str.partsBetween z (Builtin.Str.occurrences z y 0 z.length (z.length+1)) y.length:=(if_neg (ne_true_of_eq_false h1)).trans (if_neg (ne_true_of_eq_false hf));refine call_meets F.slot_str_split (typeIs_str _ _ _) F.entry_str_split (F.args_str_split_2 _ _) (meets_str_split_sep z y t t' h1 hy hf hz (by rw[<- es];exact hz2)) ?_;rw[strsFrom_eq];exact fin (numbered s.toks (Builtin.Str.partsBetween z (Builtin.Str.occurrences z y 0 z.length (z.length+1)) y.length)) _ ((numbered_texts _ _).trans es.symm)
   . exact call_meets F.slot_str_split (typeIs_str _ _ _) F.entry_str_split (F.args_str_split_2 _ _) (meets_str_split_not_found z y t t' h1 hy hf) (fin [(z,t)] s.toks ((if_neg (ne_true_of_eq_false h1)).trans (if_pos hf)).symm)
 . exact call_meets F.slot_str_split (typeIs_str _ _ _) F.entry_str_split (F.args_str_split_2 _ _) (meets_str_split_cannot_occur z y t t' h1) (fin [(z,t)] s.toks (if_pos h1).symm)
end
structure cX (K:W.Frag)(x qual:Str)(st:Stmt)(f:Addr)(fd:FuncData)(d:V):Prop where
 ex:∃ (oc:Value) (od:Option Addr) (T:Addr) (kV doc pm:Value) (an:Option Addr) (ad ct:Value) (osl:Array (Option Value)) (oT:Obj) (dv:Value) (n:Nat),
  fd=W.fnOf x qual (CU st) (By st) (Ah st) (.ref T) kV doc pm an ad ct/\K.lookup f=some ⟨oc,od,.func fd,osl⟩/\PySem.W.codeIn K ad qual=true/\K.lookup T=some oT/\oT.data = .seq #[dv] n/\hG d dv
 kp:W.keepIn K (.ref f)=true
def iB (K:W.Frag)(C:Addr)(m qual:Str)(st:Stmt)(d:V):Prop:=∃ f fd,Gy K C m f/\cX K m qual st f fd d
theorem QD {K:W.Frag}{C:Addr}{m:Str}{kV ct dv:Value}{d:V}(a:W.findIn K (.ref C) m=some (some (.ref f)))(i:PySem.W.isFn K (.ref f)=true)
 (l:K.lookup f=some ⟨oc,od,.func (W.fnOf m qual (CU st) (By st) (Ah st) (.ref T) kV doc pm an ad ct),osl⟩)(c:PySem.W.codeIn K ad qual=true)(k:W.keepIn K (.ref f)=true)
 (lT:K.lookup T=some ⟨oc2,od2,.seq #[dv] n,osl2⟩)(r:hG d dv):iB K C m qual st d:=
 ⟨f,_,⟨a,i,k⟩,⟨⟨oc,od,T,kV,doc,pm,an,ad,ct,osl,_,dv,n,U,l,c,lT,U,r⟩,k⟩⟩
section
variable {C:Addr}
def ke (P:Program)(w:World)(K:W.Frag)(mg:gj)(base:Heap)(C:Addr)(k:Nat)(m:Str)(ps:List Str)(sp:Sp)(d:V):Prop:=∃ f fd dv,Gy K C m f/\iq K fd ps []/\iq K fd ps [dv]/\hG d dv/\iC P w K mg base Bh k f fd ps sp
theorem ke.full {k:Nat}{m:Str}{ps:List Str}{d:V}(F:ke P w K mg base C k m ps sp d):AF P w K mg base C k m ps sp:=by
 obtain⟨f,fd,dv,h1,h2,h3,h4,h5⟩:=F;exact⟨f,fd,h1,h2,h5⟩
theorem iB.ok {m:Str}{ps:List Str}{k:Nat}{d:V}(F:iB K C m qual st d)(S:AA N ps (Ah st))
 (hb:∀ (T:Addr)(kV doc pm:Value)(an:Option Addr)(ad ct dv:Value)(us:List Value),us.length=ps.length->∃ k,bindArgs (W.fnOf m qual (CU st) (By st) (Ah st) (.ref T) kV doc pm an ad ct) ⟨us,[]⟩=seqItems? (.ref T) >>= k/\k (some #[dv])=pure (ps.zip us))
 (hb2:∀ (T:Addr)(kV doc pm:Value)(an:Option Addr)(ad ct dv:Value)(us:List Value),us.length+1=ps.length->∃ k,bindArgs (W.fnOf m qual (CU st) (By st) (Ah st) (.ref T) kV doc pm an ad ct) ⟨us,[]⟩=seqItems? (.ref T) >>= k/\k (some #[dv])=pure (ps.zip (us++[dv])))
 (len:∀ vs H Q E,sp vs H Q E->vs.length=ps.length)
 (ag:∀ (f:Addr)(ad:Value)(A:Around)(outer:List Env)(s:Shared)(H:Hp)(vs:List V)(Q:VK)(E:XK),ic k (A.deeper (envOfC qual (Ah st) s.heap.objs.size f ad))->sp vs H Q E->
  ∃ t,i0 (BU Bh P w K mg base N qual (Ah st) f ad A outer s H E).jN (By st) t/\t { nx:=fun _ H'=>Q .non H',rt:=Q } (DJ N vs) H):ke P w K mg base C (k+1) m ps sp d:=by
 obtain⟨f,fd,h1,F⟩:=F;obtain⟨oc,od,T,kV,doc,pm,an,ad,ct,osl,oT,dv,n,rfl,lk,hcd,lT,hs,r⟩:=F.ex;refine⟨f,_,dv,h1,fun s us KX hl=>?_,fun s us KX hl=>?_,r,NT lk hcd S len fun A outer s H vs Q E hr hsp=>?_⟩
 . rw[E8] at hl ⊢;obtain⟨k,e1,e2⟩:=hb T kV doc pm an ad ct dv us hl;exact BindsTo.of_defaults rfl (KX _ _ lT) hs e1 e2
 . rw[Cf] at hl;obtain⟨k,e1,e2⟩:=hb2 T kV doc pm an ad ct dv us hl;exact BindsTo.of_defaults rfl (KX _ _ lT) hs e1 e2
 . obtain⟨t,h,q⟩:=ag f ad A outer s H vs Q E hr hsp;exact⟨t,h.jN,q⟩
end
theorem Uj {X:Cx}:LO X (fun x lo hi H Q=>∃ z,x = .str z/\z.length<=sizeLine/\Q (.str (Txt.slice z lo hi)) H):=by
 intro aa s σ H x v vl vu lo hi sl Q I rx hs pl pu h;obtain⟨z,rfl,hz,q⟩:=h;obtain⟨t,rfl⟩:=rx;refine⟨"str",_,F.slot_str_getitem.lookup,typeIs_str _ _ _,?_⟩;have fin:∀ t' k,EP X aa σ Q (.str (Txt.slice z lo hi) t') { s with toks:=k }:=fun t' k=>⟨.str _,H,I.tok _,⟨_,U⟩,q⟩
 cases pl with
 | none=>
  cases pu with
  | none=>exact LU (l:=none) (u:=none) (st:=none) hs rfl (post_val_or_str ⟨Bu (J6 z none none) hz,fin⟩)
  | int j uj=>exact LU (l:=none) (u:=some (j,uj)) (st:=none) hs rfl (post_val_or_str ⟨Bu (J6 z none (some j)) hz,fin⟩)
 | int i ui=>
  cases pu with
  | none=>exact LU (l:=some (i,ui)) (u:=none) (st:=none) hs rfl (post_val_or_str ⟨Bu (J6 z (some i) none) hz,fin⟩)
  | int j uj=>exact LU (l:=some (i,ui)) (u:=some (j,uj)) (st:=none) hs rfl (post_val_or_str ⟨Bu (J6 z (some i) (some j)) hz,fin⟩)
def M9 (t u:TE):TE:=fun σ H Q=>t σ H Q\/u σ H Q
theorem Q9 {X:Cx}{t u:TE}(h:PE X e t)(h':PE X e u):PE X e (M9 t u):=fun aa s σ H Q I q=>by
 rcases q with q | q
 . exact h aa s σ H Q I q
 . exact h' aa s σ H Q I q
theorem MR {ta:TS}(R:St->Hp->Prop)(hm:∀ D':DE,(∀ σ' H',R σ' H'->D'.nx σ' H')->ta D' σ H)(hq:∀ σ' H',R σ' H'->tb D σ' H'):GA ta tb D σ H:=hm _ hq
section
variable {X:Cx}
theorem gv.kQ {ys:List V}(I:gv X aa σ H s)(hv:hI ys its)(hz:ys.length<=sizeLine) :
 gv X aa σ (Ab H s.heap.objs.size (.tup ys)) { s with heap:=s.heap.push { cls:=.type "tuple",data:=.seq its.toArray },toks:=t' }:=
 I.laid (fun _ _ q=>Bb _ q) (Ay _) ⟨hz,its,hv,⟨_,Cn _ rfl,U,_,U⟩⟩
theorem dM:Fz X "str.partition" (fun x vs H Q=>∃ z y,x = .str z/\vs=[.str y]/\y.length≠0/\z.length<=sizeLine/\∀ p,H p=none->Q (.ref p) (Ab H p (.tup [.str (Txt.partition z y).1,.str (Txt.partition z y).2.1,.str (Txt.partition z y).2.2]))):=by
 intro aa s σ H x vs v us Q I rx rv h;obtain⟨z,y,rfl,rfl,hy0,hz,q⟩:=h;obtain⟨t,rfl⟩:=rx;obtain⟨u,rfl,t',rfl⟩:=CT rv;have hy:(y.length == 0)=false:=by simpa using hy0
 refine call_meets F.slot_str_partition (typeIs_str _ _ _) F.entry_str_partition (F.args_str_partition_2 _ _) (meets_str_partition z y t t' hy hz) ?_;have q':=q;unfold Txt.partition at q'
 revert q'
 cases Builtin.Str.occurrences z y 0 z.length 1 with
 | nil=>intro q';exact⟨.ref _,_,I.kQ (ys:=[.str _,.str _,.str _]) (.cons ⟨_,U⟩ (.cons ⟨_,U⟩ (.cons ⟨_,U⟩ .nil))) (Eg),U,q' _ I.fresh⟩
 | cons i r=>intro q';exact⟨.ref _,_,I.kQ (ys:=[.str _,.str _,.str _]) (.cons ⟨_,U⟩ (.cons ⟨_,U⟩ (.cons ⟨_,U⟩ .nil))) (Eg),U,q' _ I.fresh⟩
theorem dk:B6 X (compareOp .In) (fun x y H Q=>∃ a b,x = .str a/\y = .str b/\Q (.bl (Txt.contains b a)) H):=by
 intro aa s σ H x y v u Q I rx ry h;obtain⟨a,b,rfl,rfl,q⟩:=h;obtain⟨t,rfl⟩:=rx;obtain⟨t',rfl⟩:=ry;exact PySem.P.in_str ⟨.bl _,H,I,U,q⟩
theorem eM:CY X (.type "int") (fun xs H Q=>∃ z n,xs=[.str z]/\PySem.intText? z=some n/\z.length<=640/\Q (.int n) H):=by
 intro aa s σ H xs us Q I r h;obtain⟨z,n,rfl,hn,hl,q⟩:=h;obtain⟨u,rfl,t',rfl⟩:=CT r;exact PySem.W.KIN.call_text hn hl ⟨.int _,H,I.tok _,⟨_,U⟩,q⟩
noncomputable def Kf (z:Str):It:=⟨fun i _=>i<z.cps.size,fun i H x H'=>H'=H/\∃ c,z.cps[i]? = some c/\x = .str ⟨#[c]⟩,fun i _=>z.cps.size<=i⟩
theorem aw {P:Program}{w:World}{K:W.Frag}(z:Str)(t:Tok)(it:Addr):GZ P w K tg (Kf z) [it] it (fun i h=>h.IsStrIter it "str_ascii_iterator" z t (min i z.cps.size)) where
 mem:=by simp
 obj:=fun i h st b hb=>by
  have e:b=it:=by simpa using hb
  subst e;obtain⟨o,e,c,d⟩:=st;exact⟨o,e,fun v z=>by rw[d] at z;cases z⟩
 keep:=fun i h h' st k=>by
  obtain⟨o,e,r⟩:=st;exact⟨o,k it (by simp) o e,r⟩
 item:=by
  intro X hP hw hK hc i aa s σ H E I hf st hg;subst hP hw hK;obtain⟨f0,f1,f2,f3,f4,f5⟩:=hf it (by simp);have hg:i<z.cps.size:=hg;rw[HW (HF hg)] at st;have W:=Walks.strAscii (prog:=X.prog) (w:=X.w) (I.ok.hd hc) it z t;refine W.item i s _ _ hg st fun v h' tk hv st' kk=>?_;obtain⟨c,u,ec,rfl⟩:=hv;have I1:gv X aa σ H { s with heap:=h',toks:=tk }:=I.turned (fun b o hb e=>kk b o (by simpa using hb) e) f0 f1 f3 f4 f5;obtain⟨o,e,cl,d⟩:=id st';refine⟨_,U,JG (s:={ s with heap:=h',toks:=tk }) e cl d (by decide) ⟨.str ⟨#[c]⟩,H,I1,⟨u,U⟩,⟨U,c,ec,U⟩,?_,fun b hb=>(hf b hb).1⟩⟩;rw[HW hg];exact st'
 done:=by
  intro X hP hw hK hc i aa s σ H E I hf st hg;subst hP hw hK;obtain⟨f0,f1,f2,f3,f4,f5⟩:=hf it (by simp);have hg:z.cps.size<=i:=hg;rw[P1 hg] at st;have W:=Walks.strAscii (prog:=X.prog) (w:=X.w) (I.ok.hd hc) it z t;exact W.done s _ _ st fun h' tk kk=>⟨U,I.turned (fun b o hb e=>kk b o (by simpa using hb) e) f0 f1 f3 f4 f5⟩
 self:=fun _ _ _ _ _ st h=>wpAny_pyIter_striter_ascii st h
def XO (tl:TE):TI:=fun σ H R=>tl σ H fun x H1=>∃ z,x = .str z/\z.cps.all (· < 128)=true/\R (Kf z) H1
theorem d8 {l:Expr}(hl:PE X l tl):PI X tg l (XO tl):=by
 intro aa s σ H R I h;refine Av (hl aa s σ H _ I h) fun v s1=>Bl fun x H1 I1 r1 q1=>?_;obtain⟨z,rfl,ha,q⟩:=q1;obtain⟨t,rfl⟩:=r1;refine wpAny_pyIter_ascii ha ?_;refine⟨s1.heap.objs.size,[s1.heap.objs.size],_,_,H1,U,I1.kept (t':=s1.toks) fun b o e=>Bb _ e,aw z t _,?_,fun b hb=>?_,q⟩
 . dsimp only;rw[Nat.zero_min];exact⟨_,Cn _ rfl,U,U⟩
 . have e:b=s1.heap.objs.size:=by simpa using hb
   subst e;exact I1.jv (Ay _) (I1.hW.fresh (Ay _))
theorem dJ {z:Str}(Pv:Addr->Nat->List V->Hp->Prop)(h0:∀ D,H D=none->Pv D 0 [] (Ab H D (.lst [])))
 (hs:∀ D (i:Nat) c ys H' Qb,H D=none->z.cps[i]? = some c->Pv D i ys H'->(∀ y H3,H3 D=some (.lst ys)->ys.length<sizeLine->Pv D (i+1) (ys++[y]) (Ab H3 D (.lst (ys++[y])))->Qb y H3)->te (some (.str ⟨#[c]⟩) :: CS js σ) H' Qb)
 (hd:∀ D ys H',H D=none->Pv D z.cps.size ys H'->R D H') :
 ∀ D,H D=none->∃ W:Nat->Nat->List V->Hp->Prop,(∃ m,W 0 m [] (Ab H D (.lst [])))/\∀ i m ys H,W i m ys H->
  ((Kf z).stop i H/\R D H)\/((Kf z).go i H/\∀ x H',(Kf z).jT i H x H'->if true=true then te (some x :: CS js σ) H' fun y H3=>H3 D=some (.lst ys)/\ys.length<sizeLine/\∃ m',m'<m/\W (i+1) m' (ys++[y]) (Ab H3 D (.lst (ys++[y])))
   else ∃ m',m'<m/\W (i+1) m' ys H'):=by
 intro D hD;refine⟨fun i m ys H'=>m=z.cps.size - i/\i<=z.cps.size/\Pv D i ys H',⟨z.cps.size,by simp,om,h0 D hD⟩,?_⟩;rintro i m ys H' ⟨rfl,hi,hp⟩;by_cases hlt:i<z.cps.size
 . refine .inr ⟨hlt,fun x H2 hz=>?_⟩;obtain⟨e2,c,ec,ex⟩:=hz;subst e2 ex;refine AC ?_;exact hs D i c ys _ _ hD ec hp fun y H3 a b c=>⟨a,b,z.cps.size - (i+1),om,U,om,c⟩
 . have e:i=z.cps.size:=by exact om
   subst e;exact .inl ⟨Ay _,hd D ys H' hD hp⟩
end
theorem WK:∀ (bs:List Bool),(List.range bs.length).all (fun i=>bs.getD i false)=bs.all id:=fun bs=>by
 rw[Cw,Lo,Lo]
 constructor
 . intro h b hb;obtain⟨i,hi⟩:=List.getElem?_of_mem hb;have hl:=(List.getElem?_eq_some_iff.mp hi).1;have:=h i (List.mem_range.mpr hl);rw[DI,hi] at this;exact this
 . intro h i hi;have hl:=List.mem_range.mp hi;rw[DI,Bc hl];exact h _ (D3 hl)
theorem ff {X:Cx}(hc:X.calm=true):CY X (.builtin "all") (fun xs H Q=>∃ (p:Addr)(bs:List Bool),xs=[.ref p]/\gy X.K H p (bs.map V.bl)/\Q (.bl (bs.all id)) H):=by
 intro aa s σ H xs us Q I r h;obtain⟨p,bs,rfl,hq,q⟩:=h;obtain⟨u,rfl,ru⟩:=CT r;obtain rfl:u=Value.ref p:=ru;obtain⟨its,rv,pl,hz⟩:=I.list hq;have hl:its.length=bs.length:=by have:=rv.length;rw[AS] at this;exact this.symm
 have hp:p<s.heap.objs.size:=by obtain⟨o,e,_⟩:=pl.isList;exact Bg e
 obtain⟨f0,f1,f2,f3,f4,f5⟩:=I.jv (Ay _) (I.hW.fresh (Ay _));refine call_all_walk (QF pl.isList ?_);refine⟨s.heap.objs.size,_,_,_,_,_,fun i=>bs.getD i false,U,Walks.list (A:=X.A.in1) (I.ok.hd hc) s.heap.objs.size p (BC hp) its.toArray,⟨⟨_,Cn _ rfl,U,U⟩,pl.isList.at fun o e=>Bb _ e⟩,?_,?_⟩
 . intro i v s1 Q1 E1 hv hQ;have hv':its[i]? = some v:=by simpa using hv
   have hi:i<bs.length:=by rw[<- hl];exact(List.getElem?_eq_some_iff.mp hv').1
   obtain⟨u,hu,ru⟩:=rv.get (i:=i) (x:=.bl bs[i]) (by rw[BG,Bc hi];rfl);rw[hv'] at hu;cases hu
   obtain rfl:v=Value.bool bs[i]:=ru;have e:bs.getD i false=bs[i]:=by rw[DI,Bc hi];rfl
   dsimp only at hQ;rw[e] at hQ;exact Hu hQ
 . intro h' tk k;have I2:gv X aa σ H { s with heap:=h',toks:=tk }:=I.turned (it:=s.heap.objs.size) (fun b o hb e=>k b o (by simpa using hb) (Bb _ e)) f0 f1 f3 f4 f5;refine⟨.bl _,H,I2,U,?_⟩;rw[BE,hl,WK];exact q
section
variable {prog:Program}{w:World}{g:Array GenState}{d:Drawn}{t:Nat}{os:OsState}
variable {nm q:Str}{C N fi:Addr}{bs bm bmB:List Value}{hdct:Bool}{sn:List Str}{sub:List Value}{ab:Bool}{col:Option Bool}{dd:Option Addr}{k0 k1 k2 k3 k5:Option Value}{B Bn newId nid initId inN:String}{bmN:List Value}{fo:Obj}
end
section
variable {prog:Program}{w:World}{K:W.Frag}{x C:Addr}{cd:ClassData}{vs:Array Value}{v:Value}
end
section
variable {X:Cx}
end
section
variable {X:Cx}{C:Addr}
end
section
variable {X:Cx}{C fi:Addr}{k:Nat}{ps:List Str}
end
section
variable {X:Cx}{C fi:Addr}{k:Nat}{ps:List Str}
end
section
variable {M:Model}{env:Env}
variable {nm q:Str}{C N:Addr}{bs bm:List Value}{hdct:Bool}{sn:List Str}{sub:List Value}{ab:Bool}{col:Option Bool}{dd:Option Addr}{k0 k1 k2 k3 k5:Option Value}{newId:String}
end
section
variable {X:Cx}
end
section
variable {X:Cx}{C fi:Addr}{k:Nat}{ps:List Str}
end
section
variable {X:Cx}
end
section
variable {X:Cx}
end
section
variable {K:W.Frag}{C e:Addr}{oe:Obj}{prog:Program}{w:World}
end
section
variable {X:Cx}
end
section
variable {X:Cx}
end
section
variable {X:Cx}{o:Expr}{rest:List Stmt}
end
section
variable {X:Cx}
end
section
variable {prog:Program}{w:World}
end
section
variable {X:Cx}{CX:Dw}{k:Nat}{C h:Addr}{ps:List Str}{sp:Addr->Sp}{E:XK}{m:Str}{p ae:Pos}{o:Expr}{t:TA}
end
section
variable {M:Model}{env:Env}{nm q:Str}{C N:Addr}{bs bm:List Value}{hdct:Bool}{sn:List Str}{sub:List Value}{ab:Bool}{col:Option Bool}{dd:Option Addr}{k0 k1 k2 k3 k5:Option Value}{newId:String}
end
section
variable {X:Cx}
end
section
variable {X:Cx}
end
section
variable {X:Cx}
end
section
variable {M:Model}
end
section
variable {env:Env}{nm q:Str}{C N:Addr}{bs bm:List Value}{hdct:Bool}{sn:List Str}{sub:List Value}{ab:Bool}{col:Option Bool}{dd:Option Addr}{k0 k1 k2 k3 k5:Option Value}{newId:String}
end
section
variable {X:Cx}{C fi h:Addr}{k:Nat}{ps:List Str}{sp:Addr->Sp}
end
section
variable {X:Cx}
end
section
variable {prog:Program}{w:World}
end
section
variable {C:Addr}
end
section
variable {X:Cx}{k:Nat}{C:Addr}{ps:List Str}{spa:Addr->Sp}{m:Str}{p ae:Pos}{o:Expr}{t:TA}
end
section
variable {prog:Program}{w:World}{J:Nat->List Value->Heap->Prop}
end
section
variable {prog:Program}{w:World}{K:Type} [DecidableEq K] {knd:KeyKind prog w K}{A:Around}{E:gk}{s:Shared}{kvs:List (K×Value)}{ep:Nat}
end
section
variable {X:Cx}
end
section
variable {X:Cx}{k:Nat}{ps:List Str}{p:Pos}{t:TA}
end
noncomputable def Cx.ko (X:Cx) (aa:List (Addr×Obj)) (R:Addr->Hp->Prop):Cx:={ X with pn:=X.pn++aa,xe:=XQ X aa (fun _ C H'=>R C H') }
section
variable {X:Cx}{pins':List (Addr×Obj)}
theorem gv.kR (I:gv X aa σ H s)(R:Addr->Hp->Prop):gv (X.ko aa R) [] σ H s:=
 ⟨⟨I.ok.mod,I.ok.kind,I.ok.glob,I.ok.blt,I.ok.above,I.ok.inj,I.ok.has,I.ok.kt,I.ok.hd,I.ok.frames,I.ok.kI,I.ok.kS,I.ok.bs,I.ok.j5,I.ok.jP,I.ok.jU,I.ok.iW,I.ok.j8⟩,I.os,I.bare,I.base,I.loc,I.cell,I.free,I.iF,
  fun p hp=>I.pin p (by have hp:p∈(X.pn++aa)++[]:=hp;rwa [E8] at hp),I.hW,I.len⟩
theorem gv.jA (I:gv (X.ko aa R) pins' σ H s):gv X aa σ H s:=
 ⟨⟨I.ok.mod,I.ok.kind,I.ok.glob,I.ok.blt,I.ok.above,I.ok.inj,I.ok.has,I.ok.kt,I.ok.hd,I.ok.frames,I.ok.kI,I.ok.kS,I.ok.bs,I.ok.j5,I.ok.jP,I.ok.jU,I.ok.iW,I.ok.j8⟩,I.os,I.bare,I.base,I.loc,I.cell,I.free,I.iF,
  fun p hp=>I.pin p (Ot pins' hp),I.hW,I.len⟩
theorem SP.jA {f:Flow}(h:SP (X.ko aa R) [] D f s'):SP X aa D f s':=by
 cases f with
 | next=>obtain⟨σ1,H1,I1,q⟩:=h;exact⟨σ1,H1,I1.jA,q⟩
 | brk=>obtain⟨σ1,H1,I1,q⟩:=h;exact⟨σ1,H1,I1.jA,q⟩
 | cont=>obtain⟨σ1,H1,I1,q⟩:=h;exact⟨σ1,H1,I1.jA,q⟩
 | ret u=>obtain⟨v,σ1,H1,I1,r,q⟩:=h;exact⟨v,σ1,H1,I1.jA,r,q⟩
def Wx (n:Nat)(tb:(Addr->Hp->Prop)->TS):Gg:=fun D R σ H=>∃ R0:Addr->Hp->Prop,(∀ σ' C' H',σ'.length=n->R0 C' H'->R σ' C' H')/\tb R0 D σ H
theorem aE {tb:(Addr->Hp->Prop)->TS}(hn:X.N.length=n)(h:∀ aa R,i0 (X.ko aa R) body (tb R)):Ln X body (Wx n tb):=by
 intro aa s σ H D R I ⟨R0,hR,q⟩;refine C6 (h aa R0 [] s σ H D (I.kR R0) q) (fun f s1 z=>z.jA) fun e s1 z=>?_;obtain⟨ea,t,C,B,H0,H',σ',s0,e1,I0,F,q⟩:=z;exact⟨ea,t,C,B,H0,H',σ',s0,e1,I0,F,hR _ _ _ (by rw[<- hn];exact I0.len) q⟩
end
section
variable {C:Addr}
end
section
variable {X:Cx}{C:Addr}{k:Nat}{ps:List Str}{m:Str}{o:Expr}{t:TA}{p ae:Pos}{E:XK}{d:V}
end
end L2
namespace My
open PySem L2
variable {P:Program}{w:World}{K:W.Frag}{mg:gj}{base:Heap}{C cT cE cR cP cB:Addr}
theorem AD {N P:List Str}{sc:Scope}(h1:sc.kind = .function:=by rfl)(h2:sc.isCoroutine=false:=by rfl)(h3:sc.isGenerator=false:=by rfl)(h4:N.Nodup:=by decide +kernel)(h5:N.take P.length=P:=by rfl)(h6:∀ x∈P,sc.names.lookup x=some .local\/sc.names.lookup x=some .cell:=by decide +kernel)(h7:∀ y∈sc.names,y.2≠.free:=by decide +kernel):AA N P sc:=⟨h1,h2,h3,h4,h5,h6,h7⟩
variable {A:Around}{outer:List Env}{s:Shared}{H H' H0 H1 H2 H6:Hp}{rs us ws:List V}{Q:VK}{E:XK}{Pt a aB aD aL aN aR aT b c0 cC dx f f0 fI p r x:Addr}{B B' D deep held i j n:Nat}{os os' ts ts':List Tm}{S:Sl}{l:List Addr}{v v' wv x0 x1 y y0 y1:V}{c key place size:Int}{o:Option Str}{kvs:List (Al×V)}{ac:List Rw}{fdI:FuncData}{wx z z':Str}{lf:iG}{po:Option (List Tm)}{t' th tl tt:Tm}{e en en':Option (Int×Str)}{es:List En}{o':HO}{kvl:List (List (Al×V))}{wy:List Tm×List Rw}{ks:List Int}{σ:St}{ta te:TE}{g:TG}{b0 b1 lk:Bool}{kp:GV}{ae pos:Pos}{ad:Value}{h:Heap}{dB:Option Addr}{slB:Array (Option Value)}
abbrev Ag:Str:="seal"
abbrev Ak:Str:="self"
abbrev At:Str:="depth"
abbrev Aw:Str:="place"
abbrev Bo:Str:="_law_seal"
abbrev AI:Str:="size"
abbrev BB:Str:="_law_cell"
abbrev BO:Str:="_law_depth"
abbrev AH:Str:="key"
abbrev B1:Str:="judged"
abbrev CN:Str:="_law_script"
abbrev Bt:Str:="paper"
abbrev Cj:Str:="__init__"
abbrev Br:Str:="head"
abbrev DY:Str:="isinstance"
abbrev Cz:Str:="_law_k"
abbrev FK:Str:="_law_numbering"
abbrev Cb:Str:="thing"
abbrev Ds:Str:="_law_one"
abbrev Em:Str:="_law_place"
abbrev Ee:Str:="_law_told"
abbrev Ed:Str:="_law_many"
abbrev DA:Str:="_law_key"
abbrev Cr:Str:="count"
abbrev Ep:Str:="_law_size"
abbrev FM:Str:="is_key_paper"
abbrev B0:Str:="len"
abbrev Cy:Str:="table"
abbrev E5:Str:="_law_rows"
abbrev Eu:Str:="_law_draw"
abbrev FD:Str:="_law_leaves"
abbrev EN:Str:="_law_near"
abbrev EE:Str:="_law_book"
abbrev D9:Str:="leaves"
abbrev DH:Str:="latest"
abbrev Fh:Str:="_law_held"
abbrev HH:Str:="_law_numbered"
abbrev Dh:Str:="text"
abbrev Dl:Str:="rows"
abbrev Dm:Str:="leaf"
abbrev Di:Str:="book"
abbrev G0:Str:="none_seal"
abbrev Eo:Str:="value"
abbrev Hh:Str:="_law_paper"
abbrev Hx:Str:="_law_level"
abbrev J7:Str:="_law_cell_at"
abbrev KQ:Str:="_law_paper_here"
abbrev IJ:Str:="top_of_part"
abbrev IA:Str:="check_place"
abbrev Jo:Str:="_law_filled"
abbrev EC:Str:="texts"
abbrev ES:Str:="first"
abbrev IU:Str:="way_stands"
abbrev Dq:Str:="row"
abbrev Ek:Str:="path"
abbrev El:Str:="held"
abbrev KR:Str:="table_behind"
abbrev Me:Str:="judged_from_none"
abbrev Dt:Str:="way"
abbrev F9:Str:="other"
abbrev Jx:Str:="book_seal"
abbrev IW:Str:="_law_word"
abbrev Iy:Str:="_law_part"
abbrev HU:Str:="_law_half"
abbrev KU:Str:="_law_turned"
abbrev Lw:Str:="_law_keeper"
abbrev Np:Str:="_law_list_bent"
abbrev EX:Str:="put "
abbrev Ix:Str:="in_depth"
abbrev Iu:Str:="_law_way"
abbrev Ku:Str:="table_seal"
abbrev Lk:Str:="_law_split"
abbrev JV:Str:="_law_plain"
abbrev DO:Str:="top"
abbrev Nw:Str:="size_or_whole"
abbrev Oh:Str:="_law_one_here"
abbrev Hz:Str:="is_way"
abbrev Hg:Str:="is_end"
abbrev Lg:Str:="pair_seal"
abbrev JQ:Str:="leaf_seal"
abbrev JN:Str:="fork_seal"
abbrev JS:Str:="_law_text"
abbrev Ll:Str:="_law_done"
abbrev MU:Str:="_law_seal_by"
abbrev LN:Str:="leaf_stands"
abbrev Ob:Str:="_law_behind"
abbrev K7:Str:="row_seal"
abbrev KJ:Str:="_law_top"
abbrev Nq:Str:="top_of_way"
abbrev O2:Str:="table_head"
abbrev Ox:Str:="_law_table"
abbrev GD:Str:="word"
abbrev GH:Str:="same"
abbrev JU:Str:="part_of"
abbrev OE:Str:="take_step"
abbrev NQ:Str:="is_number"
abbrev Nc:Str:="_law_tops"
abbrev MS:Str:="_law_path"
abbrev Nb:Str:="_law_bent"
abbrev Jp:Str:="split"
abbrev HZ:Str:="judge"
abbrev J2:Str:="claim"
abbrev Jj:Str:="check"
abbrev ID:Str:=" cut "
abbrev Go:Str:="old"
abbrev FV:Str:="bit"
abbrev He:Str:="side"
abbrev KK:Str:="wanted"
abbrev N5:Str:="way_fits"
abbrev Ni:Str:="turns_of"
abbrev Oe:Str:="read_key"
abbrev QX:Str:="Lacks.judged"
abbrev PY:Str:="Holds.judged"
abbrev Ta:Str:="Grows.judged_from_none"
abbrev N7:Str:="read_at"
abbrev Oj:Str:="path_of"
abbrev MW:Str:="changed"
abbrev Jm:Str:="take"
abbrev Ia:Str:="rest"
abbrev Jw:Str:="high"
abbrev Je:Str:="fork"
abbrev J4:Str:="cut "
abbrev JC:Str:="bits"
abbrev Kv:Str:="early"
abbrev Wm:Str:="Keeper.size_or_whole"
abbrev V1:Str:="Keeper.table_behind"
noncomputable def top (i:Nat):Stmt:=PySem.Challenge.pw_growbook_k12_whole_keys_behind.main.body.getD i (.Pass ⟨0,0,0,0⟩)
noncomputable abbrev OA:Stmt:=top 6
noncomputable abbrev MM:Stmt:=top 7
noncomputable abbrev Mz:Stmt:=top 9
noncomputable abbrev NN:Stmt:=top 11
noncomputable abbrev Os:Stmt:=top 12
noncomputable abbrev LX:Stmt:=top 54
noncomputable abbrev Kh:Stmt:=top 55
noncomputable abbrev JM:Stmt:=top 56
noncomputable abbrev F5:Stmt:=top 57
noncomputable abbrev MZ:Stmt:=top 58
noncomputable abbrev NM:Stmt:=top 61
noncomputable abbrev Md:Stmt:=top 62
noncomputable abbrev GN:Stmt:=top 74
noncomputable abbrev MP:Stmt:=top 63
noncomputable abbrev Ow:Stmt:=top 8
noncomputable abbrev Oc:Stmt:=top 10
noncomputable abbrev OH:Stmt:=top 14
noncomputable abbrev LH:Stmt:=top 15
noncomputable abbrev MV:Stmt:=top 19
noncomputable abbrev N2:Stmt:=top 20
noncomputable abbrev Om:Stmt:=top 21
noncomputable abbrev Mo:Stmt:=top 22
noncomputable abbrev OF:Stmt:=top 23
noncomputable abbrev Mg:Stmt:=top 24
noncomputable abbrev GU:Stmt:=top 59
noncomputable abbrev NE:Stmt:=top 45
noncomputable abbrev Mf:Stmt:=top 46
noncomputable abbrev LB:Stmt:=top 67
noncomputable abbrev N1:Stmt:=top 64
noncomputable abbrev IG:Stmt:=top 66
noncomputable abbrev GW:Stmt:=top 60
noncomputable abbrev Oy:Stmt:=top 72
noncomputable abbrev CF:Stmt:=top 73
noncomputable abbrev JT:Stmt:=top 27
noncomputable abbrev NZ:Stmt:=top 34
noncomputable abbrev On:Stmt:=top 48
noncomputable abbrev NB:Stmt:=top 65
noncomputable abbrev MA:Stmt:=top 68
noncomputable abbrev Nt:Stmt:=top 47
noncomputable abbrev O7:Stmt:=top 49
noncomputable abbrev Ny:Stmt:=top 51
noncomputable abbrev NJ:Stmt:=top 28
noncomputable abbrev JL:Stmt:=top 29
noncomputable abbrev Lz:Stmt:=top 30
noncomputable abbrev La:Stmt:=top 31
noncomputable abbrev LW:Stmt:=top 32
noncomputable abbrev NV:Stmt:=top 33
noncomputable abbrev LG:Stmt:=top 35
noncomputable abbrev Jz:Stmt:=BN (top 38) 0
noncomputable abbrev Hf:Stmt:=BN (top 38) 1
noncomputable abbrev IC:Stmt:=BN (top 39) 0
noncomputable abbrev Hk:Stmt:=BN (top 39) 1
noncomputable abbrev IV:Stmt:=BN (top 52) 0
noncomputable abbrev IY:Stmt:=BN (top 52) 1
noncomputable abbrev Js:Stmt:=BN (top 52) 3
noncomputable abbrev Jb:Stmt:=BN (top 52) 4
noncomputable abbrev Jl:Stmt:=BN (top 52) 5
noncomputable abbrev Jh:Stmt:=BN (top 52) 6
noncomputable abbrev Il:Stmt:=BN (top 52) 8
noncomputable abbrev IZ:Stmt:=BN (top 52) 10
noncomputable abbrev J1:Stmt:=BN (top 52) 11
noncomputable abbrev J5:Stmt:=BN (top 37) 0
noncomputable abbrev Ji:Stmt:=BN (top 37) 1
noncomputable abbrev J3:Stmt:=BN (top 37) 2
noncomputable abbrev J8:Stmt:=BN (top 41) 0
noncomputable abbrev Iq:Stmt:=BN (top 41) 1
noncomputable abbrev HV:Stmt:=BN (top 41) 2
noncomputable abbrev Ja:Stmt:=BN (top 25) 0
noncomputable abbrev Jf:Stmt:=BN (top 25) 1
noncomputable abbrev IQ:Stmt:=BN (top 25) 2
noncomputable abbrev Ih:Stmt:=BN (top 25) 3
noncomputable abbrev Jn:Stmt:=BN (top 25) 5
noncomputable abbrev JD:Stmt:=BN (top 25) 6
noncomputable abbrev Ir:Stmt:=BN (top 25) 7
noncomputable abbrev II:Stmt:=BN (top 25) 8
noncomputable abbrev Fu:List Str:=["_law_mark",Oh,"_law_two"]
noncomputable abbrev qN:Str:="_law_numbering.<locals>._law_numbered"
noncomputable abbrev AU:Stmt:=(By F5).getD 1 (.Pass ⟨0,0,0,0⟩)
theorem W9:AA Fu Fu (Ah Kh):=AD
theorem ZR:AA Fu Fu (Ah JM):=AD
theorem Y5 (F:gp K mg JV Kh):hU P w K mg base 1 JV Fu Ve:=by
 refine F.ok W9 (fun _ _ _ _ _ _=>Bx fun _ _ _=>rfl) (fun _ _ _ _ h=>HN h fun _ _ _=>rfl) (fun f ad A outer s H vs Q E hr h=>?_);refine HM h fun m v1 v2 hZ=>?_;clear h;obtain⟨rfl,q⟩:=hZ;refine⟨_,Aj (Bp (An (pv 0) (pv 1) (pv 2))),?_⟩;exact Aa U (Aa U (Aa U ⟨(Eg),fun p hp=>q p hp⟩))
theorem df (F:gp K mg KU JM):hU P w K mg base 1 KU Fu VU:=by
 refine F.ok ZR (fun _ _ _ _ _ _=>Bx fun _ _ _=>rfl) (fun _ _ _ _ h=>HN h fun _ _ _=>rfl) (fun f ad A outer s H vs Q E hr h=>?_);refine HM h fun m v1 v2 hZ=>?_;clear h;obtain⟨rfl,q⟩:=hZ;refine⟨_,Aj (Bp (BH AT (pv 2) (pv 1) (pv 0))),?_⟩;exact Aa U (Aa U (Aa U ⟨(E9),fun p hp=>q p hp⟩))
theorem Yw:VQ Fu Ee (Ah AU):=⟨U,U,U,by decide +kernel,by decide +kernel,by decide +kernel,fun x h=>by
 have e:(Ah AU).names=([("_law_mark",NameKind.local),(Oh,NameKind.local),("_law_two",NameKind.local),(Ee,NameKind.free),(B0,NameKind.globalImplicit)]:List (Str×NameKind)):=rfl;rw[e] at h;have m:=Fy h;simp at m;exact m,U⟩
theorem YA {us:List Value}{d:Addr}{m:Str}{t1 t2:Tm}{v1 v2:V}(ml:mg B0=none)(hr:ic 1 A)(e0:ju P w K mg base A outer s H)(r:hI [.str m,v1,v2] us)
 (hS:gx K mg AU (.num d) H f)(hc:iJ (.num d) H 1)(i1:AE (.num d) H t1 v1)(i2:AE (.num d) H t2 v2)(q:∀ v H',Gr (.num d) 1 H H'->AE (.num d) H' (.nd m t1 t2) v->Q v H') :
 codeAny (model P w) A (.call (.ref f) ⟨us,[]⟩) (CR Bh outer P w H s Q E) s:=by
 obtain⟨c,c',doc,pm,ct,ob,co,cvs,tk,kvs,h1,h2,h3,h4,h5,h6,h7,h8⟩:=id hS;obtain⟨k1,rfl⟩:=Nz i1;obtain⟨k2,rfl⟩:=Nz i2;have ah:kvs.length<sizeLine:=by have:=hc d kvs rfl h7;rw[Bf];exact om
 have tld:=hS.told;refine WQ (k:=0) (ps:=Fu) (y:=Ee) Yw hr e0 r rfl h1 h2 h3 h4 h5 h6 (cv:=.ref d) rfl (Bx fun _ _ _=>rfl) fun hr1=>?_;have hu:=Hq hr1;refine⟨_,Ae (Az (PH (Sd hu (Bp (An (pv 0) (pv 1) (pv 2))) (pv 3))) (Ba (QR hu (pv 3) (Bp (An (pv 0) (pv 1) (pv 2))) (B7 Yz rfl ml boot_len (Ar (pv 3))) rfl)) AB)
  (Aj (Rx hu (pv 3) (Bp (An (pv 0) (pv 1) (pv 2))) (fun _ _=>rfl))),?_⟩
 refine Aa U (Aa U (Aa U ⟨(Eg),fun p hp=>?_⟩));have g1:Gr (.num d) 0 H (Ab H p (.tup [.str m,kV k1,kV k2])):=.new tld hp;have d1:Ab H p (.tup [.str m,kV k1,kV k2]) d=some (.dT kvs):=by rw[Af (Aq h7 hp)];exact h7
 refine Aa U ⟨d,Aa U ⟨iN.t (k:=[.inr m,k1,k2]) d1 Ad,Aa U ?_⟩⟩;cases e:AX kvs [.inr m,k1,k2] with
 | some v=>
  obtain⟨n,rfl⟩:=h8.val e;refine AK ?_;refine Aa U (Aa U (Aa U (Aa U ⟨(Eg),fun p2 hp2=>?_⟩)));have g2:Gr (.num d) 0 _ (Ab (Ab H p (.tup [.str m,kV k1,kV k2])) p2 (.tup [.str m,kV k1,kV k2])):=.new g1.gn.gu hp2;have d2:Ab (Ab H p (.tup [.str m,kV k1,kV k2])) p2 (.tup [.str m,kV k1,kV k2]) d=some (.dT kvs):=by rw[Af (Aq d1 hp2)];exact d1
  refine⟨d,.int n,U,?_,?_⟩
  . have z:=iN.t (k:=[.inr m,k1,k2]) d2 Ad;rw[e] at z;exact z
  . have g:=(g1.trans g2).up (by exact om:0+0<=1);exact q _ _ g ⟨kvs,k1,k2,n,d2,AO g.gn i1,AO g.gn i2,e,U⟩
 | none=>
  refine AC ?_;refine Aa U ⟨d,kvs,U,d1,Aa U (Aa U (Aa U (Aa U ⟨(Eg),fun p2 hp2=>?_⟩)))⟩;have g2:Gr (.num d) 0 _ (Ab (Ab H p (.tup [.str m,kV k1,kV k2])) p2 (.tup [.str m,kV k1,kV k2])):=.new g1.gn.gu hp2;have d2:Ab (Ab H p (.tup [.str m,kV k1,kV k2])) p2 (.tup [.str m,kV k1,kV k2]) d=some (.dT kvs):=by rw[Af (Aq d1 hp2)];exact d1
  refine⟨d,Aa U ⟨jG.t (k:=[.inr m,k1,k2]) d2 Ad ah,?_⟩⟩;generalize hH3:Ab (Ab (Ab H p (.tup [.str m,kV k1,kV k2])) p2 (.tup [.str m,kV k1,kV k2])) d (.dT (BS kvs [.inr m,k1,k2] (.int kvs.length)))=H3;have d3:H3 d=some (.dT (kvs++[([.inr m,k1,k2],.int kvs.length)])):=by rw[<- hH3,Ad,Oz _ e]
  have g3:Gr (.num d) 1 (Ab (Ab H p (.tup [.str m,kV k1,kV k2])) p2 (.tup [.str m,kV k1,kV k2])) H3:=by
   have ne:∀ b o,Ab (Ab H p (.tup [.str m,kV k1,kV k2])) p2 (.tup [.str m,kV k1,kV k2]) b=some o->b≠d->H3 b=some o:=fun b o h hb=>by rw[<- hH3,Af hb];exact h
   refine⟨⟨fun b o h i=>ne b o h ?_,fun d' ed=>?_⟩,fun b o h hd=>ne b o h fun z=>hd (by rw[z];rfl)⟩
   . rintro rfl;rw[d2] at h;cases h;cases i
   . obtain rfl:d=d':=Option.some.inj ed;exact⟨kvs,_,d2,d3,by simp,fun z=>z.snoc _⟩
  refine Aa U (Aa U (Aa U (Aa U ⟨(Eg),fun p4 hp4=>?_⟩)));have g4:Gr (.num d) 0 H3 (Ab H3 p4 (.tup [.str m,kV k1,kV k2])):=.new g3.gn.gu hp4;have d4:Ab H3 p4 (.tup [.str m,kV k1,kV k2]) d=some (.dT (kvs++[([.inr m,k1,k2],.int kvs.length)])):=by rw[Af (Aq d3 hp4)];exact d3
  have ev:AX (kvs++[([.inr m,k1,k2],V.int (kvs.length:Int))]) [.inr m,k1,k2]=some (.int (kvs.length:Int)):=by rw[Wc _ _ _ _ e,if_pos rfl]
  refine⟨d,.int kvs.length,U,?_,?_⟩
  . have z:=iN.t (k:=[.inr m,k1,k2]) d4 Ad;rw[ev] at z;exact z
  . have g:=(((g1.trans g2).trans g3).trans g4).up (by exact om:0+0+1+0<=1);exact q _ _ g ⟨_,k1,k2,_,d4,AO g.gn i1,AO g.gn i2,ev,U⟩
theorem Wu (Fp:hU P w K mg base 1 JV Fu Ve)(Ft:hU P w K mg base 1 KU Fu VU)(ml:mg B0=none):CV P w K mg base Bh 1 (DK K mg AU):=by
 intro f A outer s H us vs Q E hr e0 r h;obtain⟨S,m,t1,t2,v1,v2,hS,hc,rfl,i1,i2,q⟩:=h;have tld:=hS.told;cases S with
 | plain=>
  obtain⟨f',fd,h1,h2,h3,h4,_⟩:=Fp;have e:=hS.1.symm.trans h1;cases e
  refine h4.called h3 hr e0 r ⟨m,v1,v2,U,fun p hp=>?_⟩;have g:Gr .plain 0 H (Ab H p (.tup [.str m,v1,v2])):=.new tld hp;exact q _ _ (g.up om) ⟨p,v1,v2,U,Ad,AO g.gn i1,AO g.gn i2⟩
 | turned=>
  obtain⟨f',fd,h1,h2,h3,h4,_⟩:=Ft;have e:=hS.1.symm.trans h1;cases e
  refine h4.called h3 hr e0 r ⟨m,v1,v2,U,fun p hp=>?_⟩;have g:Gr .turned 0 H (Ab H p (.tup [.str "seal of",v2,v1,.str m])):=.new tld hp;exact q _ _ (g.up om) ⟨p,v1,v2,U,Ad,AO g.gn i1,AO g.gn i2⟩
 | num d=>exact YA ml hr e0 r hS hc i1 i2 q
def N9 (K:W.Frag):Sp:=fun vs H Q _=>∃ (a:Addr)(ns:List Int)(k:Int),vs=[.ref a,.int k]/\gy K H a (ns.map V.int)/\0<=k/\∀ v:Int,Q (.int v) H
theorem W7:AA [CN,Cz] [CN,Cz] (Ah LX):=AD
theorem Xl (F:gp K mg J7 LX)(ml:mg B0=none):hU P w K mg base 1 J7 [CN,Cz] (N9 K):=by
 refine F.ok W7 (fun _ _ _ _ _ _=>CB fun _ _=>rfl) (fun _ _ _ _ h=>HN h fun _ _ _=>rfl) (fun f ad A outer s H vs Q E hr h=>?_);refine HM h fun a ns k hZ=>Ej hZ fun eQ hS h0 q=>?_;clear hZ h;subst eQ;refine⟨_,Ae (Az (Au Dj (pv 1) (AW ml (pv 0))) (Aj (Bw BP (pv 0) (pv 1))) AB) (Aj Ac),?_⟩;refine Aa U (Aa U ⟨a,Aa U ⟨.inl hS,_,Aa U ⟨U,Aa U ?_⟩⟩⟩);refine AN (fun c=>?_) (fun c=>?_)
 . have c':k<((ns.map V.int).length:Int):=Bm c;rw[AS] at c';have hk:k.toNat<ns.length:=by exact om
   have z:BF (ns.map V.int) ((k.toNat:Nat):Int)=some (.int ns[k.toNat]):=BK (by rw[BG,Bc hk] <;> rfl);rw[show((k.toNat:Nat):Int)=k by exact om] at z;exact Aa U (Aa U ⟨a,_,_,Aa U ⟨U,hS,z,q _⟩⟩)
 . exact q 0
structure SI (K:W.Frag)(mg:gj)(base:Heap)(c0 Pt:Addr):Prop where
 code:W.CodeHd base c0 Pt
 bm:∃ bm ob,mg "__builtins__" = some (.ref bm)/\bm≠builtinsNs/\base.get? bm=some ob/\ob.cls = .type "module"/\ob.dict=some builtinsNs/\ob.data = .plain
 tab:W.tabIn K FK=some (c0,Pt)
def Wp (K:W.Frag)(mg:gj)(Pt:Addr):Sp:=fun vs H Q _=>vs=[]/\H Pt=some (.iZ #[])/\
 ∀ f d H',gx K mg AU (.num d) H' f->H' d=some (.dT [])->(∀ b o,H b=some o->b≠Pt->H' b=some o)->Q (.ref f) H'
theorem scNu:AA [HH,Ee] [] (Ah F5):=AD
theorem gO (F:gp K mg FK F5)(kb:K.In base)(nb:base.Ns mainGlobals mg)(X0:SI K mg base c0 Pt):hU P w K mg base 1 FK [] (Wp K mg Pt):=by
 obtain⟨f0,fd,hm,F⟩:=F;obtain⟨oc,od,kV,doc,pm,an,ad,ct,osl,rfl,lk,hcd⟩:=F.ex;have hcode:ad = .ref c0:=W.law_code kb nb X0.tab hm (kb _ _ lk) rfl;refine⟨f0,_,hm,F.kp,F.binds (ps:=[]) fun _ _ _ _ _ _=>Sk rfl,?_,_,_,_,lk⟩;refine Zb lk hcd scNu (fun vs H Q E h=>by rw[h.1];rfl) fun A outer s s1 H vs Q E hr h I=>?_;obtain⟨rfl,hP,q⟩:=h;generalize hX:BU Bh P w K mg base [HH,Ee] FK (Ah F5) f0 ad A outer s H E=X at I;subst hX;refine JA (Av ((GY (X:=BU Bh P w K mg base [HH,Ee] FK (Ah F5) f0 ad A outer s H E) (i:=1) scNu.nd rfl (Or.inr rfl) Yo:PS _ _ _) [] s1 _ H
  { nx:=fun σ H'=>∃ d,H d=none/\σ=[none,some (.ref d)]/\H'=Ab H d (.dT []),rt:=fun _ _=>False } I fun d hd=>⟨d,hd,U,U⟩) fun fl s2 h2=>?_)
 cases fl with
 | brk=>obtain⟨_,_,_,z⟩:=h2;exact False.elim z
 | cont=>obtain⟨_,_,_,z⟩:=h2;exact False.elim z
 | ret u=>obtain⟨_,_,_,_,_,z⟩:=h2;exact False.elim z
 | next=>
 obtain⟨σ2,H2,I2,d,hd,rfl,rfl⟩:=h2;have hPd:Pt≠d:=Aq hP hd;refine JA (Av (eZ (X:=BU Bh P w K mg base [HH,Ee] FK (Ah F5) f0 ad A outer s H E) (i:=0) (Pt:=Pt) (c0:=c0) (qual:=qN) (jJ:=[(Ee,s.heap.objs.size+1)])
  rfl rfl rfl rfl rfl hcode X0.code X0.bm scNu.nd rfl (Or.inl rfl) (Or.inl rfl) [] s2 _ _
  { nx:=fun σ H'=>∃ (f c':Addr) (ob:Obj) (cvs:Array Value) (tk:Tok) (ctv doc pm:Value) (ps:Array Value),Ab H d (.dT []) f=none/\Ab H d (.dT []) c'=none/\c'≠f/\Pt≠f/\Pt≠c'/\ob.data = .fields cvs/\cvs[1]? = some (.str qN tk)/\σ=[some (.ref f),some (.ref d)]/\
   H'=Ab (Ab (Ab (Ab H d (.dT [])) Pt (.iZ ps)) c' (.frz ob (.own 0))) f (.frz (W.fnMade HH qN (CU AU) (By AU) (Ah AU) [(Ee,s.heap.objs.size+1)] doc pm c' ctv) (.own 0)),rt:=fun _ _=>False } I2
  ⟨#[],by rw[Af hPd];exact hP,trivial,U,fun f c' ob cvs tk ctv doc pm h1 h2 h3 h4 h5 h6 h7=>⟨f,c',ob,cvs,tk,ctv,doc,pm,_,h1,h2,h3,h4,h5,h6,h7,U,U⟩⟩) fun fl s3 h3=>?_)
 cases fl with
 | brk=>obtain⟨_,_,_,z⟩:=h3;exact False.elim z
 | cont=>obtain⟨_,_,_,z⟩:=h3;exact False.elim z
 | ret u=>obtain⟨_,_,_,_,_,z⟩:=h3;exact False.elim z
 | next=>
 obtain⟨σ3,H3,I3,f,c',ob,cvs,tk,ctv,doc',pm',ps,n1,n2,n3,n4,n5,n6,n7,rfl,e3⟩:=h3;refine JA (wpAny_Return_some (Av ((pv (X:=BU Bh P w K mg base [HH,Ee] FK (Ah F5) f0 ad A outer s H E) 0:PE _ _ _) [] s3 _ H3 (fun v H'=>v = .ref f/\H'=H3) I3 ⟨_,U,U,U⟩) fun u s4 hz=>?_));obtain⟨v,H4,I4,r4,e4,e5⟩:=hz;subst e4 e5;obtain rfl:u=Value.ref f:=r4;obtain⟨mm,hn,hl⟩:=I4.loc;obtain⟨cu,rcu,lcu⟩:=hl 1 Ee (.ref d) rfl rfl (Or.inr (Or.inl rfl));obtain rfl:cu=Value.ref d:=rcu;rcases lcu with⟨kk,_⟩ | ⟨_,c,hc,co,hco,hcd2⟩
 . exact absurd (show some NameKind.cell=some NameKind.local from kk) (by decide)
 have ec:s.heap.objs.size+1=c:=Option.some.inj ((show(BU Bh P w K mg base [HH,Ee] FK (Ah F5) f0 ad A outer s H E).env.cells.lookup (Ee:Str)=some (s.heap.objs.size+1) from rfl).symm.trans hc);have hcn:H4 c=none:=(I4.iF Ee c hc).resolve_right fun z=>absurd (show true=false from z.1) (by decide);have lec:s.heap.objs.size<=c:=by exact om
 refine⟨.ref f,Ab H4 c (.frz co (.own 0)),I4.os,I4.bare,I4.base.jj lec hcn,I4.hW.jj hco hcn,U,q f d _ ?_ ?_ ?_⟩
 . have ne:∀ b o,H4 b=some o->Ab H4 c (.frz co (.own 0)) b=some o:=fun b o h=>by rw[Af (Aq h hcn)];exact h
   refine⟨c,c',doc',pm',ctv,ob,co,cvs,tk,[],?_,?_,n6,n7,Ad,hcd2,?_,.nil⟩
   . rw[<- ec];refine ec ▸ ne _ _ ?_;rw[e3,Ad,ec]
   . refine ne _ _ ?_;rw[e3,Af n3,Ad]
   . refine ne _ _ ?_;have q1:d≠f:=by rintro rfl;rw[Ad] at n1;cases n1
     have q2:d≠c':=by rintro rfl;rw[Ad] at n2;cases n2
     rw[e3,Af q1,Af q2,Af (Ne.symm hPd),Ad]
 . have hdc:d≠c:=by
    rintro rfl;have q1:d≠f:=by rintro rfl;rw[Ad] at n1;cases n1
    have q2:d≠c':=by rintro rfl;rw[Ad] at n2;cases n2
    rw[e3,Af q1,Af q2,Af (Ne.symm hPd),Ad] at hcn;cases hcn
   have q1:d≠f:=by rintro rfl;rw[Ad] at n1;cases n1
   have q2:d≠c':=by rintro rfl;rw[Ad] at n2;cases n2
   rw[Af hdc,e3,Af q1,Af q2,Af (Ne.symm hPd),Ad]
 . intro b o hb hbP;have b1:b≠d:=Aq hb hd;have hb2:Ab H d (.dT []) b=some o:=by rw[Af b1];exact hb
   have b2:b≠f:=Aq hb2 n1;have b3:b≠c':=Aq hb2 n2;have hb4:H4 b=some o:=by rw[e3,Af b2,Af b3,Af hbP];exact hb2
   rw[Af (Aq hb4 hcn)];exact hb4
def R5 (K:W.Frag)(mg:gj)(Pt:Addr):Sp:=fun vs H Q _=>∃ (a:Addr)(ns:List Int),vs=[.ref a]/\gy K H a (ns.map V.int)/\H Pt=some (.iZ #[])/\
 ∀ S f H',gx K mg AU S H' f->iJ S H' 10000000->(∀ b o,H b=some o->b≠Pt->H' b=some o)->Q (.ref f) H'
theorem scSb:AA [CN,"_law_kind"] [CN] (Ah MZ):=AD
theorem YO (F:gp K mg MU MZ)(Fc:hU P w K mg base 1 J7 [CN,Cz] (N9 K))(Fn:hU P w K mg base 1 FK [] (Wp K mg Pt))
 (Fp:gp K mg JV Kh)(Ft:gp K mg KU JM):hU P w K mg base 2 MU [CN] (R5 K mg Pt):=by
 obtain⟨fp,fpd,mp,Fp⟩:=Fp;obtain⟨ft,ftd,mt,Ft⟩:=Ft;obtain⟨_,_,_,_,_,_,_,_,_,rfl,lp,_⟩:=Fp.ex;obtain⟨_,_,_,_,_,_,_,_,_,rfl,lt,_⟩:=Ft.ex;refine F.ok scSb (fun _ _ _ _ _ _=>CM fun _=>rfl) (fun _ _ _ _ h=>HJ h fun _ _=>rfl) (fun f ad A outer s H vs Q E hr h=>?_);refine HD h fun a ns hZ=>Ej hZ fun eQ hS hP q=>?_;clear hZ h;subst eQ;have nd:=scSb.nd;refine⟨_,Ae (Ax 1 nd (Ao De (Ao Gi (Ai Fc hr (AG (pv 0) Ac)) Ac) Ac))
  (Ae (Az (Au AL (pv 1) Ac) (Aj (KC (v:=.ref fp) rfl mp rfl)) AB)
  (Ae (Az (Au AL (pv 1) Ac) (Aj (KC (v:=.ref ft) rfl mt rfl)) AB)
  (Aj (cS Fn hr rfl)))),?_⟩
 refine Aa U ⟨a,ns,0,U,hS,om,fun v=>?_⟩;refine⟨_,Aa U ⟨U,⟨by decide,om⟩,_,Aa U ⟨U,(by show(0:Int)<3;decide),?_⟩⟩⟩;refine Aa U ⟨U,Aa U ?_⟩;refine AN (fun _=>?_) (fun _=>?_)
 . exact q .plain fp H ⟨mp,_,_,_,_,lp⟩ (fun d _ e=>nomatch e) fun b o h _=>h
 refine Aa U ⟨U,Aa U ?_⟩;refine AN (fun _=>?_) (fun _=>?_)
 . exact q .turned ft H ⟨mt,_,_,_,_,lt⟩ (fun d _ e=>nomatch e) fun b o h _=>h
 refine⟨U,hP,fun f d H' h1 h2 h3=>q (.num d) f H' h1 (fun d' kvs e hk=>?_) h3⟩;obtain rfl:d=d':=Option.some.inj e;rw[h2] at hk;cases hk;simp
theorem Yf {n:Int}(h:2<=n):(1:Int) * 2 ^ (((Builtin.Int.intBits (n - 1):Nat):Int) - 1).toNat=((Gb.spl n.toNat:Nat):Int):=by
 have e0:(n - 1 == 0)=false:=by simp;exact om
 unfold Builtin.Int.intBits Gb.spl;rw[e0];simp only[Qi,if_false];have e1:(n - 1).natAbs=n.toNat - 1:=by exact om
 have e2:((((n - 1).natAbs.log2+1:Nat):Int) - 1).toNat=(n.toNat - 1).log2:=by rw[e1];exact om
 rw[e2,Km]
 push_cast
 rfl
theorem Ug {n:Int}(h:2<=n)(h2:n<2 ^ 60):0<=((Builtin.Int.intBits (n - 1):Nat):Int) - 1/\((Builtin.Int.intBits (n - 1):Nat):Int) - 1<=1000000:=by
 have e0:(n - 1 == 0)=false:=by simp;exact om
 unfold Builtin.Int.intBits;rw[e0];simp only[Qi,if_false];have e3:(n - 1).natAbs.log2<60:=(Nat.log2_lt om).mpr om;exact om
def HC:Sp:=fun vs H Q _=>∃ n:Int,vs=[.int n]/\2<=n/\n<2 ^ 60/\Q (.int (Gb.spl n.toNat:Nat)) H
theorem WC:AA [AI] [AI] (Ah OA):=AD
theorem Xh (F:gp K mg Jp OA):hU P w K mg base 1 Jp [AI] HC:=by
 refine F.ok WC (fun _ _ _ _ _ _=>CM fun _=>rfl) (fun _ _ _ _ h=>GO h fun _=>rfl) (fun f ad A outer s H vs Q E hr h=>?_);refine Ha h fun n hZ=>Ej hZ fun eQ h2 h3 q=>?_;clear hZ h;subst eQ;refine⟨_,Ae (Az (Au Dj (pv 0) Ac) (Aj Ac) AB)
  (Aj (Ao Li Ac (Ao CC (QO Su U0 S0 TM (Ao CC (pv 0) Ac)) Ac))),?_⟩
 refine Aa U ⟨_,Aa U ⟨U,Aa U ?_⟩⟩;rw[Bj om];refine AK ?_;refine Aa U ⟨_,Aa U ⟨U,U,Aa U ⟨U,_,Aa U ⟨U,_,Aa U ⟨U,⟨(Ug h2 h3).1,(Ug h2 h3).2,om⟩,?_⟩⟩⟩⟩⟩;show Q (V.int (1 * 2 ^ (((Builtin.Int.intBits (n - 1):Nat):Int) - 1).toNat)) H;rw[Yf h2];exact q
theorem scLs:AA [Ep,Cz] [Ep] (Ah NM):=AD
theorem cb (F:gp K mg Lk NM):hU P w K mg base 1 Lk [Ep] HC:=by
 refine F.ok scLs (fun _ _ _ _ _ _=>CM fun _=>rfl) (fun _ _ _ _ h=>GO h fun _=>rfl) (fun f ad A outer s H vs Q E hr h=>?_);refine Ha h fun n hZ=>Ej hZ fun eQ h2 h3 q=>?_;clear hZ h;subst eQ;have nd:=scLs.nd;refine⟨_,Ae (Ax 1 nd Ac) (Ae (MD PassesOwn.never (Au Dj (Ao ET (pv 1) Ac) (pv 0)) (Ba (Ax 1 nd (Ao ET (pv 1) Ac)))) (Aj (pv 1))),?_⟩;refine NP (fun σ H'=>H'=H/\∃ j:Nat,σ=[some (.int n),some (.int (2 ^ j:Nat))]/\((2 ^ j:Nat):Int)<n) (fun σ _=>match σ with | [_,some (.int k)]=>(n - k).toNat | _=>0) ⟨U,0,U,by simp;exact om⟩ ?_ ?_
 . rintro σ H' ⟨rfl,j,rfl,hj⟩;have hp:1<=2 ^ j:=Nu;refine Aa U ⟨_,Aa U ⟨U,.inr ⟨by decide,om⟩,Aa U ⟨_,Aa U ⟨U,Aa U ?_⟩⟩⟩⟩;refine AN (fun c=>?_) (fun c=>?_)
   . have c':((2 ^ j:Nat):Int) * 2<n:=Bm c;have e:((2 ^ j:Nat):Int) * 2=((2 ^ (j+1):Nat):Int):=by rw[Nat.pow_succ];push_cast;rfl
     refine⟨_,U,_,_,U,U,.inr ⟨by decide,om⟩,⟨U,j+1,?_,by rw[<- e];exact c'⟩,?_⟩
     . rw[<- e];rfl
     . show(n - ((2 ^ j:Nat):Int) * 2).toNat<(n - ((2 ^ j:Nat):Int)).toNat;exact om
   . have c':¬ ((2 ^ j:Nat):Int) * 2<n:=B8 (Bool.eq_false_iff.mpr c);refine Aa U ?_;have e:2 ^ j=Gb.spl n.toNat:=Gb.spl_unique om om;rw[e];exact q
 . rintro σ H' Q1 Q2 hq ⟨v,e1,i,j,e2,e3,c,v2,e4,i2,j2,e5,e6,k,e7,z⟩;exact⟨v,e1,i,j,e2,e3,c,v2,e4,i2,j2,e5,e6,k,e7,hq _ _ z⟩
noncomputable def IX (ts:List Tm):Nat:=ts.length - 1+(1 - ts.length)
theorem bc (ts:List Tm):IX ts<=ts.length+1:=by unfold IX;exact om
theorem FF (h:ts.length=n)(hn:1<=n):IX ts=n - 1:=by unfold IX;exact om
def Lh (K:W.Frag)(mg:gj)(j:Nat):Sp:=fun vs H Q _=>∃ S f a ws ts,vs=[.ref f,.ref a]/\gx K mg AU S H f/\gy K H a ws/\Bs S H ts ws/\ts.length<=2 ^ j/\iJ S H (IX ts)/\
 ∀ v H',Gr S (IX ts) H H'->AE S H' (DC ts) v->Q v H'
theorem scLt:AA [Bo,FD,Cz] [Bo,FD] (Ah Md):=AD
theorem EO {xs:List V}{k:Nat}:B2 xs none (some (k:Int))=xs.take k:=by
 unfold B2;rw[HT.sIx_none,HT.sIx_nat,List.drop_zero,Nat.sub_zero];by_cases h:k<=xs.length
 . rw[HW h]
 . rw[P1 om,KH (Ay _),KH om]
theorem GL {xs:List V}{k:Nat}:B2 xs (some (k:Int)) none=xs.drop k:=by
 unfold B2;rw[HT.sIx_none,HT.sIx_nat];by_cases h:k<=xs.length
 . rw[HW h,KH (by simp)]
 . rw[P1 om,VC (Ay _),VC om];simp
theorem Uh (F:gp K mg KJ Md)(Fs:hU P w K mg base 1 Lk [Ep] HC)(Fl:CV P w K mg base Bh 1 (DK K mg AU))(ml:mg B0=none):∀ j:Nat,j<=40->hU P w K mg base (j+2) KJ [Bo,FD] (Lh K mg j)
 | 0,_=>by
  refine F.ok scLt (fun _ _ _ _ _ _=>CB fun _ _=>rfl) (fun _ _ _ _ h=>DS h fun _ _ _ _ _=>rfl) (fun f ad A outer s H vs Q E hr h=>?_);refine DQ h fun S f a ws ts hZ=>Ey hZ fun eQ hS hq ht hj hc q=>?_;clear hZ h;subst eQ;have hl:=Bq ht;refine⟨_,Ae (Az (Au AL (AW ml (pv 1)) Ac) (Aj (C2 (i:=0) Fl hr BD rfl (Or.inl rfl) (An AT Ac Ac))) AB)
   (Ae (Az (Au AL (AW ml (pv 1)) Ac) (Aj (Bw BP (pv 1) Ac)) AB) BY),?_⟩
  refine Aa U ⟨a,Aa U ⟨.inl hq,U,Aa U ?_⟩⟩;refine AN (fun c=>?_) (fun c=>?_)
  . have c':V.int (ws.length:Int)=V.int 0:=Bm c;have e:ts=[]:=Gk (by injection c' with c';exact om);subst e;refine⟨f,U,hS.iK,hS.iK,S,_,.int 0,.int 0,_,_,hS,hc,U,U,U,fun v H' g h=>q v H' g ?_⟩;show AE S H' (Gb.topT AM AJ []) v;rw[Gb.topT_nil];exact h
  . have c':¬ V.int (ws.length:Int)=V.int 0:=B8 (Bool.eq_false_iff.mpr c);have e:ts.length=1:=by
     have:ts.length≠0:=fun z=>c' (by rw[<- hl,z];rfl);simp at hj;exact om
    obtain⟨t,rfl⟩:=List.length_eq_one_iff.mp e;obtain⟨v0,rfl⟩:∃ v0,ws=[v0]:=List.length_eq_one_iff.mp (by rw[<- hl];rfl);cases ht with
    | cons ht1 ht2=>
     refine Aa U ⟨a,Aa U ⟨.inl hq,U,Aa U ?_⟩⟩;refine AC ?_;refine Aa U ⟨a,_,_,v0,U,U,hq,BK (j:=0) rfl,?_⟩;refine q v0 H ((Gr.refl hS.told).up om) ?_;show AE S H (Gb.topT AM AJ [t]) v0;rw[Gb.topT_one];exact ht1
 | j+1,hjj=>by
  have ih:=Uh F Fs Fl ml j om;refine F.ok scLt (fun _ _ _ _ _ _=>CB fun _ _=>rfl) (fun _ _ _ _ h=>DS h fun _ _ _ _ _=>rfl) (fun f ad A outer s H vs Q E hr h=>?_);refine DQ h fun S f a ws ts hZ=>Ey hZ fun eQ hS hq ht hj hc q=>?_;clear hZ h;subst eQ;have hl:=Bq ht;have nd:=scLt.nd;refine⟨_,Ae (Az (Au AL (AW ml (pv 1)) Ac) (Aj (C2 (i:=0) Fl hr.m BD rfl (Or.inl rfl) (An AT Ac Ac))) AB)
   (Ae (Az (Au AL (AW ml (pv 1)) Ac) (Aj (Bw BP (pv 1) Ac)) AB)
   (Ae (Ax 2 nd (Ai Fs hr.m (Ar (AW ml (pv 1)))))
   (Aj (C2 (i:=0) Fl hr.m BD rfl (Or.inl rfl) (An AT (Ai ih hr (AG (pv 0) (Cg C9 (pv 1) Co (Cm (pv 2))))) (Ai ih hr (AG (pv 0) (Cg C9 (pv 1) (Cm (pv 2)) Co)))))))),?_⟩
  refine Aa U ⟨a,Aa U ⟨.inl hq,U,Aa U ?_⟩⟩;refine AN (fun c=>?_) (fun c=>?_)
  . have c':V.int (ws.length:Int)=V.int 0:=Bm c;have e:ts=[]:=Gk (by injection c' with c';exact om);subst e;refine⟨f,U,hS.iK,hS.iK,S,_,.int 0,.int 0,_,_,hS,hc,U,U,U,fun v H' g h=>q v H' g ?_⟩;show AE S H' (Gb.topT AM AJ []) v;rw[Gb.topT_nil];exact h
  have c0:¬ V.int (ws.length:Int)=V.int 0:=B8 (Bool.eq_false_iff.mpr c);refine Aa U ⟨a,Aa U ⟨.inl hq,U,Aa U ?_⟩⟩;refine AN (fun c=>?_) (fun c=>?_)
  . have c':V.int (ws.length:Int)=V.int 1:=Bm c;have e:ts.length=1:=by injection c' with c';exact om
    obtain⟨t,rfl⟩:=List.length_eq_one_iff.mp e;obtain⟨v0,rfl⟩:∃ v0,ws=[v0]:=List.length_eq_one_iff.mp (by rw[<- hl];rfl);cases ht with
    | cons ht1 ht2=>
     refine Aa U ⟨a,_,_,v0,U,U,hq,BK (j:=0) rfl,?_⟩;refine q v0 H ((Gr.refl hS.told).up om) ?_;show AE S H (Gb.topT AM AJ [t]) v0;rw[Gb.topT_one];exact ht1
  have cc1:¬ V.int (ws.length:Int)=V.int 1:=B8 (Bool.eq_false_iff.mpr c);have h2:2<=ts.length:=by
   have a0:ts.length≠0:=fun z=>c0 (by rw[<- hl,z];rfl);have a1:ts.length≠1:=fun z=>cc1 (by rw[<- hl,z];rfl);exact om
  have x1:=Gb.spl_lt h2;have x2:=Gb.spl_pos ts.length;have x3:=Gb.spl_ge h2;have xj:Gb.spl ts.length<=2 ^ j:=by
   unfold Gb.spl;refine Jq om ?_;have:2 ^ Nat.log2 (ts.length - 1)<2 ^ (j+1):=Cq (Gb.spl_lt h2) hj;have:=(Pf (by exact om:1<2)).mp this;exact om
  have l1:(ts.take (Gb.spl ts.length)).length=Gb.spl ts.length:=by rw[Cc];exact om
  have l2:(ts.drop (Gb.spl ts.length)).length=ts.length - Gb.spl ts.length:=FS;have c1:=FF l1 x2;have c2:=FF l2 om;have c3:=FF (ts:=ts) rfl om;have big:ts.length<2 ^ 60:=GK hj (LJ om om);refine Aa U ⟨a,Aa U ⟨.inl hq,Aa U ⟨om,om,?_⟩⟩⟩;have ek:(ws.length:Int).toNat=ts.length:=by exact om
  rw[ek];refine⟨f,U,hS.iK,?_⟩;refine Aa U (Aa U (Aa U (Aa U ⟨a,ws,U,hq,fun p1 hp1=>?_⟩)));have g1:Gr S 0 H (Ab H p1 (.lst (B2 ws none (some (Gb.spl ts.length:Nat))))):=.new hS.told hp1;refine⟨S,f,p1,ws.take (Gb.spl ts.length),ts.take (Gb.spl ts.length),U,hS.up g1.gn,gy.of (by rw[Ad,EO]),AQ g1.gn (EI _ ht),by simp;exact om,hc.go g1.gn om,fun v1 H1 g2 i1=>?_⟩;have g12:=g1.trans g2;have hq1:=g12.sq hq;refine Aa U (Aa U (Aa U (Aa U ⟨a,ws,U,hq1,fun p2 hp2=>?_⟩)));have g3:Gr S 0 H1 (Ab H1 p2 (.lst (B2 ws (some (Gb.spl ts.length:Nat)) none))):=.new g12.gn.gu hp2;have g13:=g12.trans g3;refine⟨S,f,p2,ws.drop (Gb.spl ts.length),ts.drop (Gb.spl ts.length),U,hS.up g13.gn,gy.of (by rw[Ad,GL]),AQ g13.gn (FH _ ht),by simp;exact om,hc.go g13.gn om,fun v2 H2 g4 i2=>?_⟩;have g14:=g13.trans g4;have g24:=g3.trans g4;refine⟨(hS.up g14.gn).iK,S,_,DC (ts.take (Gb.spl ts.length)),DC (ts.drop (Gb.spl ts.length)),_,_,hS.up g14.gn,hc.go g14.gn om,U,AO g24.gn i1,i2,fun v H' g5 i3=>?_⟩;refine q v H' ((g14.trans g5).up om) ?_;show AE S H' (Gb.topT AM AJ ts) v;rw[Gb.topT_more AM AJ h2];exact i3
def Ic (K:W.Frag)(mg:gj):Sp:=fun vs H Q _=>∃ S f,vs=[.ref f]/\gx K mg AU S H f/\iJ S H 1/\∀ v H',Gr S 1 H H'->AE S H' AM v->Q v H'
def Rk (K:W.Frag)(mg:gj):Sp:=fun vs H Q _=>∃ S f t1 t2 v1 v2,vs=[.ref f,v1,v2]/\gx K mg AU S H f/\iJ S H 1/\AE S H t1 v1/\AE S H t2 v2/\∀ v H',Gr S 1 H H'->AE S H' (AJ t1 t2) v->Q v H'
theorem YQ:AA [Ag] [Ag] (Ah MM):=AD
theorem WM:AA [Ag,ES,Ia] [Ag,ES,Ia] (Ah Mz):=AD
theorem gB (F:gp K mg G0 MM)(Fl:CV P w K mg base Bh 1 (DK K mg AU)):hU P w K mg base 2 G0 [Ag] (Ic K mg):=by
 refine F.ok YQ (fun _ _ _ _ _ _=>CM fun _=>rfl) (fun _ _ _ _ h=>HJ h fun _ _=>rfl) (fun f ad A outer s H vs Q E hr h=>?_);refine HD h fun S f hZ=>Ej hZ fun eQ hS hc q=>?_;clear hZ h;subst eQ;refine⟨_,Aj (C2 (i:=0) Fl hr BD rfl (Or.inl rfl) (An AT Ac Ac)),?_⟩;exact⟨f,U,hS.iK,hS.iK,S,_,.int 0,.int 0,_,_,hS,hc,U,U,U,q⟩
theorem bS (F:gp K mg Lg Mz)(Fl:CV P w K mg base Bh 1 (DK K mg AU)):hU P w K mg base 2 Lg [Ag,ES,Ia] (Rk K mg):=by
 refine F.ok WM (fun _ _ _ _ _ _=>Bx fun _ _ _=>rfl) (fun _ _ _ _ h=>Do h fun _ _ _ _ _ _=>rfl) (fun f ad A outer s H vs Q E hr h=>?_);refine Df h fun S f t1 t2 v1 v2 hZ=>G9 hZ fun eQ hS hc i1 i2 q=>?_;clear hZ h;subst eQ;refine⟨_,Aj (C2 (i:=0) Fl hr BD rfl (Or.inl rfl) (An AT (pv 1) (pv 2))),?_⟩;exact⟨f,U,hS.iK,Aa U (Aa U ⟨hS.iK,S,_,t1,t2,_,_,hS,hc,U,i1,i2,q⟩)⟩
theorem scTo:AA [Ag,D9,ES] [Ag,D9] (Ah NN):=AD
theorem VG (F:gp K mg "top_of" NN)(Fs:hU P w K mg base 1 Jp [AI] HC)(Fno:hU P w K mg base 2 G0 [Ag] (Ic K mg))(Fpa:hU P w K mg base 2 Lg [Ag,ES,Ia] (Rk K mg))(ml:mg B0=none):∀ j:Nat,j<=40->hU P w K mg base (j+3) "top_of" [Ag,D9] (Lh K mg j)
 | 0,_=>by
  refine F.ok scTo (fun _ _ _ _ _ _=>CB fun _ _=>rfl) (fun _ _ _ _ h=>DS h fun _ _ _ _ _=>rfl) (fun f ad A outer s H vs Q E hr h=>?_);refine DQ h fun S f a ws ts hZ=>Ey hZ fun eQ hS hq ht hj hc q=>?_;clear hZ h;subst eQ;have hl:=Bq ht;refine⟨_,Ae (Az (Au AL (AW ml (pv 1)) Ac) (Aj (Ai Fno hr (Ar (pv 0)))) AB)
   (Ae (Az (Au AL (AW ml (pv 1)) Ac) (Aj (Bw BP (pv 1) Ac)) AB) BY),?_⟩
  refine Aa U ⟨a,Aa U ⟨.inl hq,U,Aa U ?_⟩⟩;refine AN (fun c=>?_) (fun c=>?_)
  . have c':V.int (ws.length:Int)=V.int 0:=Bm c;have e:ts=[]:=Gk (by injection c' with c';exact om);subst e;refine Aa U ⟨S,f,U,hS,hc,fun v H' g h=>q v H' g ?_⟩;show AE S H' (Gb.topT AM AJ []) v;rw[Gb.topT_nil];exact h
  . have c':¬ V.int (ws.length:Int)=V.int 0:=B8 (Bool.eq_false_iff.mpr c);have e:ts.length=1:=by
     have:ts.length≠0:=fun z=>c' (by rw[<- hl,z];rfl);simp at hj;exact om
    obtain⟨t,rfl⟩:=List.length_eq_one_iff.mp e;obtain⟨v0,rfl⟩:∃ v0,ws=[v0]:=List.length_eq_one_iff.mp (by rw[<- hl];rfl);cases ht with
    | cons ht1 ht2=>
     refine Aa U ⟨a,Aa U ⟨.inl hq,U,Aa U ?_⟩⟩;refine AC ?_;refine Aa U ⟨a,_,_,v0,U,U,hq,BK (j:=0) rfl,?_⟩;refine q v0 H ((Gr.refl hS.told).up om) ?_;show AE S H (Gb.topT AM AJ [t]) v0;rw[Gb.topT_one];exact ht1
 | j+1,hjj=>by
  have ih:=VG F Fs Fno Fpa ml j om;refine F.ok scTo (fun _ _ _ _ _ _=>CB fun _ _=>rfl) (fun _ _ _ _ h=>DS h fun _ _ _ _ _=>rfl) (fun f ad A outer s H vs Q E hr h=>?_);refine DQ h fun S f a ws ts hZ=>Ey hZ fun eQ hS hq ht hj hc q=>?_;clear hZ h;subst eQ;have hl:=Bq ht;have nd:=scTo.nd;refine⟨_,Ae (Az (Au AL (AW ml (pv 1)) Ac) (Aj (Ai Fno hr.m (Ar (pv 0)))) AB)
   (Ae (Az (Au AL (AW ml (pv 1)) Ac) (Aj (Bw BP (pv 1) Ac)) AB)
   (Ae (Ax 2 nd (Ai Fs hr.m (Ar (AW ml (pv 1)))))
   (Aj (Ai Fpa hr.m (An (pv 0) (Ai ih hr (AG (pv 0) (Cg C9 (pv 1) Co (Cm (pv 2))))) (Ai ih hr (AG (pv 0) (Cg C9 (pv 1) (Cm (pv 2)) Co)))))))),?_⟩
  refine Aa U ⟨a,Aa U ⟨.inl hq,U,Aa U ?_⟩⟩;refine AN (fun c=>?_) (fun c=>?_)
  . have c':V.int (ws.length:Int)=V.int 0:=Bm c;have e:ts=[]:=Gk (by injection c' with c';exact om);subst e;refine Aa U ⟨S,f,U,hS,hc,fun v H' g h=>q v H' g ?_⟩;show AE S H' (Gb.topT AM AJ []) v;rw[Gb.topT_nil];exact h
  have c0:¬ V.int (ws.length:Int)=V.int 0:=B8 (Bool.eq_false_iff.mpr c);refine Aa U ⟨a,Aa U ⟨.inl hq,U,Aa U ?_⟩⟩;refine AN (fun c=>?_) (fun c=>?_)
  . have c':V.int (ws.length:Int)=V.int 1:=Bm c;have e:ts.length=1:=by injection c' with c';exact om
    obtain⟨t,rfl⟩:=List.length_eq_one_iff.mp e;obtain⟨v0,rfl⟩:∃ v0,ws=[v0]:=List.length_eq_one_iff.mp (by rw[<- hl];rfl);cases ht with
    | cons ht1 ht2=>
     refine Aa U ⟨a,_,_,v0,U,U,hq,BK (j:=0) rfl,?_⟩;refine q v0 H ((Gr.refl hS.told).up om) ?_;show AE S H (Gb.topT AM AJ [t]) v0;rw[Gb.topT_one];exact ht1
  have cc1:¬ V.int (ws.length:Int)=V.int 1:=B8 (Bool.eq_false_iff.mpr c);have h2:2<=ts.length:=by
   have a0:ts.length≠0:=fun z=>c0 (by rw[<- hl,z];rfl);have a1:ts.length≠1:=fun z=>cc1 (by rw[<- hl,z];rfl);exact om
  have x1:=Gb.spl_lt h2;have x2:=Gb.spl_pos ts.length;have x3:=Gb.spl_ge h2;have xj:Gb.spl ts.length<=2 ^ j:=by
   unfold Gb.spl;refine Jq om ?_;have:2 ^ Nat.log2 (ts.length - 1)<2 ^ (j+1):=Cq (Gb.spl_lt h2) hj;have:=(Pf (by exact om:1<2)).mp this;exact om
  have l1:(ts.take (Gb.spl ts.length)).length=Gb.spl ts.length:=by rw[Cc];exact om
  have l2:(ts.drop (Gb.spl ts.length)).length=ts.length - Gb.spl ts.length:=FS;have c1:=FF l1 x2;have c2:=FF l2 om;have c3:=FF (ts:=ts) rfl om;have big:ts.length<2 ^ 60:=GK hj (LJ om om);refine Aa U ⟨a,Aa U ⟨.inl hq,Aa U ⟨om,om,?_⟩⟩⟩;have ek:(ws.length:Int).toNat=ts.length:=by exact om
  rw[ek];refine Aa U ?_;refine Aa U (Aa U (Aa U (Aa U ⟨a,ws,U,hq,fun p1 hp1=>?_⟩)));have g1:Gr S 0 H (Ab H p1 (.lst (B2 ws none (some (Gb.spl ts.length:Nat))))):=.new hS.told hp1;refine⟨S,f,p1,ws.take (Gb.spl ts.length),ts.take (Gb.spl ts.length),U,hS.up g1.gn,gy.of (by rw[Ad,EO]),AQ g1.gn (EI _ ht),by simp;exact om,hc.go g1.gn om,fun v1 H1 g2 i1=>?_⟩;have g12:=g1.trans g2;have hq1:=g12.sq hq;refine Aa U (Aa U (Aa U (Aa U ⟨a,ws,U,hq1,fun p2 hp2=>?_⟩)));have g3:Gr S 0 H1 (Ab H1 p2 (.lst (B2 ws (some (Gb.spl ts.length:Nat)) none))):=.new g12.gn.gu hp2;have g13:=g12.trans g3;refine⟨S,f,p2,ws.drop (Gb.spl ts.length),ts.drop (Gb.spl ts.length),U,hS.up g13.gn,gy.of (by rw[Ad,GL]),AQ g13.gn (FH _ ht),by simp;exact om,hc.go g13.gn om,fun v2 H2 g4 i2=>?_⟩;have g14:=g13.trans g4;have g24:=g3.trans g4;refine⟨S,f,DC (ts.take (Gb.spl ts.length)),DC (ts.drop (Gb.spl ts.length)),_,Aa U ⟨hS.up g14.gn,hc.go g14.gn om,AO g24.gn i1,i2,fun v H' g5 i3=>?_⟩⟩;refine q v H' ((g14.trans g5).up om) ?_;show AE S H' (Gb.topT AM AJ ts) v;rw[Gb.topT_more AM AJ h2];exact i3
def Og (K:W.Frag)(mg:gj)(j:Nat):Sp:=fun vs H Q _=>∃ S f a ws ts,∃ place:Nat,vs=[.ref f,.ref a,.int place]/\gx K mg AU S H f/\gy K H a ws/\Bs S H ts ws/\ts.length<=2 ^ j/\place<ts.length/\iJ S H (ts.length+1)/\
 ∀ r rs H',Gr S (ts.length+1) H H'->H r=none->H' r=some (.lst rs)->Bs S H' (CG ts place) rs->Q (.ref r) H'
theorem Vv (h2:2<=n)(hj:n<=2 ^ (j+1)):Gb.spl n<=2 ^ j:=by
 unfold Gb.spl;refine Jq om ?_;have:2 ^ Nat.log2 (n - 1)<2 ^ (j+1):=Cq (Gb.spl_lt h2) hj;have:=(Pf (by exact om:1<2)).mp this;exact om
theorem Nl {n1 n2 N:Nat}{gs:List Tm}{t:Tm}{l:Addr}(g1:Gr S n1 H H1)(hr:H r=none)(er:H1 r=some (.lst rs))(ir:Bs S H1 gs rs)(g2:Gr S n2 H1 H2)(it:AE S H2 t v)(hp:H2 p=none)(hl:Ab H2 p (.lst [v]) l=none)(hN:n1+n2<=N) :
 Gr S N H (Ab (Ab H2 p (.lst [v])) l (.lst (rs++[v])))/\H l=none/\Ab (Ab H2 p (.lst [v])) l (.lst (rs++[v])) l=some (.lst (rs++[v]))/\Bs S (Ab (Ab H2 p (.lst [v])) l (.lst (rs++[v]))) (gs++[t]) (rs++[v]):=by
 have g3:Gr S 0 H2 (Ab H2 p (.lst [v])):=.new g2.gn.gu hp;have g4:Gr S 0 (Ab H2 p (.lst [v])) (Ab (Ab H2 p (.lst [v])) l (.lst (rs++[v]))):=.new g3.gn.gu hl;have g:=((g1.trans g2).trans g3).trans g4;refine⟨g.up om,(((g1.trans g2).trans g3)).free hl,Ad,Dy (AQ ((g2.trans g3).trans g4).gn ir) (.cons (AO (g3.trans g4).gn it) .nil)⟩
theorem NK {place:Nat}(h:ts.length<=2 ^ j)(hj:j<=40)(hp:place<ts.length):(CG ts place).length+1<=sizeLine:=by
 have a:=(Gb.path_turns AM AJ _ ts place rfl hp).1;have b:=Gb.turns_len j ts.length place h;rw[Bf];have e:(CG ts place).length=(Gb.pathT AM AJ ts place).length:=rfl;exact om
theorem scpath:AA [Ag,D9,Aw,ES] [Ag,D9,Aw] (Ah Os):=AD
theorem Z6 (F:gp K mg Oj Os)(Fs:hU P w K mg base 1 Jp [AI] HC)(Ft:∀ j,j<=40->hU P w K mg base (j+3) "top_of" [Ag,D9] (Lh K mg j))(ml:mg B0=none) :
 ∀ j:Nat,j<=40->hU P w K mg base (j+4) Oj [Ag,D9,Aw] (Og K mg j):=by
 intro j
 induction j with
 | zero=>
  intro _;refine F.ok scpath (fun _ _ _ _ _ _=>Bx fun _ _ _=>rfl) (fun _ _ _ _ h=>Do h fun _ _ _ _ _ _=>rfl) (fun f ad A outer s H vs Q E hr h=>?_);refine Df h fun S f a ws ts old hZ=>E6 hZ fun eQ hS hq ht hj ho hc q=>?_;clear hZ h;subst eQ;have hl:=Bq ht;refine⟨_,Ae (Az (Au Dj (AW ml (pv 1)) Ac) (Aj (Ci CP)) AB) BY,?_⟩;have e1:ts.length=1:=by simp at hj;exact om
  refine Aa U ⟨a,Aa U ⟨.inl hq,_,Aa U ⟨U,Aa U ?_⟩⟩⟩;rw[Be (show(ws.length:Int)<2 by exact om)];refine AC ?_;refine⟨Dk,fun p hp=>?_⟩;refine q p [] _ ((Gr.new hS.told hp).up om) hp Ad ?_;show Bs S _ (Gb.pathT AM AJ ts old) [];rw[Gb.pathT_few AM AJ om];exact .nil
 | succ j ih=>
  intro hjj;have ih:=ih om;have Fj:=Ft j om;refine F.ok scpath (fun _ _ _ _ _ _=>Bx fun _ _ _=>rfl) (fun _ _ _ _ h=>Do h fun _ _ _ _ _ _=>rfl) (fun f ad A outer s H vs Q E hr h=>?_);refine Df h fun S f a ws ts old hZ=>E6 hZ fun eQ hS hq ht hj ho hc q=>?_;clear hZ h;subst eQ;have hl:=Bq ht;have nd:=scpath.nd;refine⟨_,Ae (Az (Au Dj (AW ml (pv 1)) Ac) (Aj (Ci CP)) AB)
   (Ae (Ax 3 nd (Ai Fs hr.m (Ar (AW ml (pv 1)))))
   (Ae (Az (Au Dj (pv 2) (pv 3)) (Aj (Ao FZ (Ai ih hr (An (pv 0) (Cg C9 (pv 1) Co (Cm (pv 3))) (pv 2)))
    (Ci (Ar (Ai Fj hr.m (AG (pv 0) (Cg C9 (pv 1) (Cm (pv 3)) Co))))))) AB)
   (Aj (Ao FZ (Ai ih hr (An (pv 0) (Cg C9 (pv 1) (Cm (pv 3)) Co) (Ao CC (pv 2) (pv 3))))
    (Ci (Ar (Ai Fj hr.m (AG (pv 0) (Cg C9 (pv 1) Co (Cm (pv 3))))))))))),?_⟩
  refine Aa U ⟨a,Aa U ⟨.inl hq,_,Aa U ⟨U,Aa U ?_⟩⟩⟩;refine AN (fun c=>?_) (fun c=>?_)
  . have c1:(ws.length:Int)<2:=Bm c;refine⟨Dk,fun p hp=>?_⟩;refine q p [] _ ((Gr.new hS.told hp).up om) hp Ad ?_;show Bs S _ (Gb.pathT AM AJ ts old) [];rw[Gb.pathT_few AM AJ om];exact .nil
  have c1:¬ (ws.length:Int)<2:=B8 (Bool.eq_false_iff.mpr c);have h2:2<=ts.length:=by exact om
  have x1:=Gb.spl_lt h2;have x2:=Gb.spl_pos ts.length;have x3:=Gb.spl_ge h2;have xj:=Vv h2 hj;have l1:(ts.take (Gb.spl ts.length)).length=Gb.spl ts.length:=by rw[Cc];exact om
  have l2:(ts.drop (Gb.spl ts.length)).length=ts.length - Gb.spl ts.length:=FS;have k1:=FF l1 x2;have k2:=FF l2 om;have big:ts.length<2 ^ 60:=GK hj (LJ om om);refine Aa U ⟨a,Aa U ⟨.inl hq,Aa U ⟨om,om,?_⟩⟩⟩;have ek:(ws.length:Int).toNat=ts.length:=by exact om
  rw[ek];refine Aa U (Aa U ⟨_,Aa U ⟨U,Aa U ?_⟩⟩);refine AN (fun c=>?_) (fun c=>?_)
  . have c2:(old:Int)<(Gb.spl ts.length:Nat):=Bm c;refine Aa U (Aa U (Aa U (Aa U ⟨a,ws,U,hq,fun p1 hp1=>Aa U ?_⟩)));have g1:Gr S 0 H (Ab H p1 (.lst (B2 ws none (some (Gb.spl ts.length:Nat))))):=.new hS.told hp1;refine⟨S,f,p1,ws.take (Gb.spl ts.length),ts.take (Gb.spl ts.length),old,U,hS.up g1.gn,gy.of (by rw[Ad,EO]),AQ g1.gn (EI _ ht),by simp;exact om,by simp;exact om,hc.go g1.gn om,fun r rs H1 g2 nr er ir=>?_⟩;have g12:=g1.trans g2;have hq1:=g12.sq hq;refine Aa U (Aa U (Aa U (Aa U ⟨a,ws,U,hq1,fun p2 hp2=>?_⟩)));have g3:Gr S 0 H1 (Ab H1 p2 (.lst (B2 ws (some (Gb.spl ts.length:Nat)) none))):=.new g12.gn.gu hp2;have g13:=g12.trans g3;refine⟨S,f,p2,ws.drop (Gb.spl ts.length),ts.drop (Gb.spl ts.length),U,hS.up g13.gn,gy.of (by rw[Ad,GL]),AQ g13.gn (FH _ ht),by simp;exact om,hc.go g13.gn om,fun v2 H2 g4 i2=>?_⟩;refine⟨EJ,fun p3 hp3=>?_⟩;have g34:=g3.trans g4;have g5:Gr S 0 H2 (Ab H2 p3 (.lst [v2])):=.new g34.gn.gu hp3;refine⟨r,p3,rs,[v2],U,U,(g34.trans g5).lst er,Ad,?_,fun l hl'=>?_⟩
    . have z:=NK (place:=old) (ts:=ts.take (Gb.spl ts.length)) (j:=j) (by simp;exact om) om (by simp;exact om);have z2:=Bq ir;simp only[EU];exact om
    . obtain⟨e1,e2,e3,e4⟩:=Nl (N:=ts.length+1) g12 (g1.free nr) er ir g34 i2 hp3 hl' om;refine q l _ _ e1 e2 e3 ?_;show Bs S _ (Gb.pathT AM AJ ts old) _;rw[Gb.pathT_low AM AJ h2 om];exact e4
  . have c2:¬ (old:Int)<(Gb.spl ts.length:Nat):=B8 (Bool.eq_false_iff.mpr c);refine Aa U (Aa U (Aa U (Aa U ⟨a,ws,U,hq,fun p1 hp1=>Aa U (Aa U ⟨_,Aa U ⟨U,?_⟩⟩)⟩)));have g1:Gr S 0 H (Ab H p1 (.lst (B2 ws (some (Gb.spl ts.length:Nat)) none))):=.new hS.told hp1;refine⟨S,f,p1,ws.drop (Gb.spl ts.length),ts.drop (Gb.spl ts.length),old - Gb.spl ts.length,?_,hS.up g1.gn,gy.of (by rw[Ad,GL]),AQ g1.gn (FH _ ht),by simp;exact om,by simp;exact om,hc.go g1.gn om,fun r rs H1 g2 nr er ir=>?_⟩
    . show [V.ref f,V.ref p1,V.int ((old:Int) - ((Gb.spl ts.length:Nat):Int))]=_;rw[show(old:Int) - ((Gb.spl ts.length:Nat):Int)=((old - Gb.spl ts.length:Nat):Int) by exact om]
    have g12:=g1.trans g2;have hq1:=g12.sq hq;refine Aa U (Aa U (Aa U (Aa U ⟨a,ws,U,hq1,fun p2 hp2=>?_⟩)));have g3:Gr S 0 H1 (Ab H1 p2 (.lst (B2 ws none (some (Gb.spl ts.length:Nat))))):=.new g12.gn.gu hp2;have g13:=g12.trans g3;refine⟨S,f,p2,ws.take (Gb.spl ts.length),ts.take (Gb.spl ts.length),U,hS.up g13.gn,gy.of (by rw[Ad,EO]),AQ g13.gn (EI _ ht),by simp;exact om,hc.go g13.gn om,fun v2 H2 g4 i2=>?_⟩;refine⟨EJ,fun p3 hp3=>?_⟩;have g34:=g3.trans g4;have g5:Gr S 0 H2 (Ab H2 p3 (.lst [v2])):=.new g34.gn.gu hp3;refine⟨r,p3,rs,[v2],U,U,(g34.trans g5).lst er,Ad,?_,fun l hl'=>?_⟩
    . have z:=NK (place:=old - Gb.spl ts.length) (ts:=ts.drop (Gb.spl ts.length)) (j:=j) (by simp;exact om) om (by simp;exact om);have z2:=Bq ir;simp only[EU];exact om
    . obtain⟨e1,e2,e3,e4⟩:=Nl (N:=ts.length+1) g12 (g1.free nr) er ir g34 i2 hp3 hl' om;refine q l _ _ e1 e2 e3 ?_;show Bs S _ (Gb.pathT AM AJ ts old) _;rw[Gb.pathT_high AM AJ h2 om];exact e4
theorem sclpath:AA [Bo,FD,Em,Cz] [Bo,FD,Em] (Ah MP):=AD
theorem ZL (F:gp K mg MS MP)(Fs:hU P w K mg base 1 Lk [Ep] HC)(Ft:∀ j,j<=40->hU P w K mg base (j+2) KJ [Bo,FD] (Lh K mg j))(ml:mg B0=none) :
 ∀ j:Nat,j<=40->hU P w K mg base (j+3) MS [Bo,FD,Em] (Og K mg j):=by
 intro j
 induction j with
 | zero=>
  intro _;refine F.ok sclpath (fun _ _ _ _ _ _=>Bx fun _ _ _=>rfl) (fun _ _ _ _ h=>Do h fun _ _ _ _ _ _=>rfl) (fun f ad A outer s H vs Q E hr h=>?_);refine Df h fun S f a ws ts old hZ=>E6 hZ fun eQ hS hq ht hj ho hc q=>?_;clear hZ h;subst eQ;have hl:=Bq ht;refine⟨_,Ae (Az (Au AL (AW ml (pv 1)) Ac) (Aj (Ci CP)) AB) BY,?_⟩;have e1:ts.length=1:=by simp at hj;exact om
  refine Aa U ⟨a,Aa U ⟨.inl hq,U,Aa U ?_⟩⟩;rw[Be (show V.int (ws.length:Int)=V.int 1 from congrArg V.int om)];refine AC ?_;refine⟨Dk,fun p hp=>?_⟩;refine q p [] _ ((Gr.new hS.told hp).up om) hp Ad ?_;show Bs S _ (Gb.pathT AM AJ ts old) [];rw[Gb.pathT_few AM AJ om];exact .nil
 | succ j ih=>
  intro hjj;have ih:=ih om;have Fj:=Ft j om;refine F.ok sclpath (fun _ _ _ _ _ _=>Bx fun _ _ _=>rfl) (fun _ _ _ _ h=>Do h fun _ _ _ _ _ _=>rfl) (fun f ad A outer s H vs Q E hr h=>?_);refine Df h fun S f a ws ts old hZ=>E6 hZ fun eQ hS hq ht hj ho hc q=>?_;clear hZ h;subst eQ;have hl:=Bq ht;have nd:=sclpath.nd;refine⟨_,Ae (Az (Au AL (AW ml (pv 1)) Ac) (Aj (Ci CP)) AB)
   (Ae (Ax 3 nd (Ai Fs hr.m (Ar (AW ml (pv 1)))))
   (Ae (Az (Au Dj (pv 2) (pv 3)) (Aj (Ao FZ (Ai ih hr (An (pv 0) (Cg C9 (pv 1) Co (Cm (pv 3))) (pv 2)))
    (Ci (Ar (Ai Fj hr.m (AG (pv 0) (Cg C9 (pv 1) (Cm (pv 3)) Co))))))) AB)
   (Aj (Ao FZ (Ai ih hr (An (pv 0) (Cg C9 (pv 1) (Cm (pv 3)) Co) (Ao CC (pv 2) (pv 3))))
    (Ci (Ar (Ai Fj hr.m (AG (pv 0) (Cg C9 (pv 1) Co (Cm (pv 3))))))))))),?_⟩
  refine Aa U ⟨a,Aa U ⟨.inl hq,U,Aa U ?_⟩⟩;refine AN (fun c=>?_) (fun c=>?_)
  . have c0:V.int (ws.length:Int)=V.int 1:=Bm c;have c1:(ws.length:Int)<2:=by injection c0 with c0;exact om
    refine⟨Dk,fun p hp=>?_⟩;refine q p [] _ ((Gr.new hS.told hp).up om) hp Ad ?_;show Bs S _ (Gb.pathT AM AJ ts old) [];rw[Gb.pathT_few AM AJ om];exact .nil
  have c0:¬ V.int (ws.length:Int)=V.int 1:=B8 (Bool.eq_false_iff.mpr c);have h2:2<=ts.length:=by
   have:(ws.length:Int)≠1:=fun z=>c0 (by rw[z]);exact om
  have x1:=Gb.spl_lt h2;have x2:=Gb.spl_pos ts.length;have x3:=Gb.spl_ge h2;have xj:=Vv h2 hj;have l1:(ts.take (Gb.spl ts.length)).length=Gb.spl ts.length:=by rw[Cc];exact om
  have l2:(ts.drop (Gb.spl ts.length)).length=ts.length - Gb.spl ts.length:=FS;have k1:=FF l1 x2;have k2:=FF l2 om;have big:ts.length<2 ^ 60:=GK hj (LJ om om);refine Aa U ⟨a,Aa U ⟨.inl hq,Aa U ⟨om,om,?_⟩⟩⟩;have ek:(ws.length:Int).toNat=ts.length:=by exact om
  rw[ek];refine Aa U (Aa U ⟨_,Aa U ⟨U,Aa U ?_⟩⟩);refine AN (fun c=>?_) (fun c=>?_)
  . have c2:(old:Int)<(Gb.spl ts.length:Nat):=Bm c;refine Aa U (Aa U (Aa U (Aa U ⟨a,ws,U,hq,fun p1 hp1=>Aa U ?_⟩)));have g1:Gr S 0 H (Ab H p1 (.lst (B2 ws none (some (Gb.spl ts.length:Nat))))):=.new hS.told hp1;refine⟨S,f,p1,ws.take (Gb.spl ts.length),ts.take (Gb.spl ts.length),old,U,hS.up g1.gn,gy.of (by rw[Ad,EO]),AQ g1.gn (EI _ ht),by simp;exact om,by simp;exact om,hc.go g1.gn om,fun r rs H1 g2 nr er ir=>?_⟩;have g12:=g1.trans g2;have hq1:=g12.sq hq;refine Aa U (Aa U (Aa U (Aa U ⟨a,ws,U,hq1,fun p2 hp2=>?_⟩)));have g3:Gr S 0 H1 (Ab H1 p2 (.lst (B2 ws (some (Gb.spl ts.length:Nat)) none))):=.new g12.gn.gu hp2;have g13:=g12.trans g3;refine⟨S,f,p2,ws.drop (Gb.spl ts.length),ts.drop (Gb.spl ts.length),U,hS.up g13.gn,gy.of (by rw[Ad,GL]),AQ g13.gn (FH _ ht),by simp;exact om,hc.go g13.gn om,fun v2 H2 g4 i2=>?_⟩;refine⟨EJ,fun p3 hp3=>?_⟩;have g34:=g3.trans g4;have g5:Gr S 0 H2 (Ab H2 p3 (.lst [v2])):=.new g34.gn.gu hp3;refine⟨r,p3,rs,[v2],U,U,(g34.trans g5).lst er,Ad,?_,fun l hl'=>?_⟩
    . have z:=NK (place:=old) (ts:=ts.take (Gb.spl ts.length)) (j:=j) (by simp;exact om) om (by simp;exact om);have z2:=Bq ir;simp only[EU];exact om
    . obtain⟨e1,e2,e3,e4⟩:=Nl (N:=ts.length+1) g12 (g1.free nr) er ir g34 i2 hp3 hl' om;refine q l _ _ e1 e2 e3 ?_;show Bs S _ (Gb.pathT AM AJ ts old) _;rw[Gb.pathT_low AM AJ h2 om];exact e4
  . have c2:¬ (old:Int)<(Gb.spl ts.length:Nat):=B8 (Bool.eq_false_iff.mpr c);refine Aa U (Aa U (Aa U (Aa U ⟨a,ws,U,hq,fun p1 hp1=>Aa U (Aa U ⟨_,Aa U ⟨U,?_⟩⟩)⟩)));have g1:Gr S 0 H (Ab H p1 (.lst (B2 ws (some (Gb.spl ts.length:Nat)) none))):=.new hS.told hp1;refine⟨S,f,p1,ws.drop (Gb.spl ts.length),ts.drop (Gb.spl ts.length),old - Gb.spl ts.length,?_,hS.up g1.gn,gy.of (by rw[Ad,GL]),AQ g1.gn (FH _ ht),by simp;exact om,by simp;exact om,hc.go g1.gn om,fun r rs H1 g2 nr er ir=>?_⟩
    . show [V.ref f,V.ref p1,V.int ((old:Int) - ((Gb.spl ts.length:Nat):Int))]=_;rw[show(old:Int) - ((Gb.spl ts.length:Nat):Int)=((old - Gb.spl ts.length:Nat):Int) by exact om]
    have g12:=g1.trans g2;have hq1:=g12.sq hq;refine Aa U (Aa U (Aa U (Aa U ⟨a,ws,U,hq1,fun p2 hp2=>?_⟩)));have g3:Gr S 0 H1 (Ab H1 p2 (.lst (B2 ws none (some (Gb.spl ts.length:Nat))))):=.new g12.gn.gu hp2;have g13:=g12.trans g3;refine⟨S,f,p2,ws.take (Gb.spl ts.length),ts.take (Gb.spl ts.length),U,hS.up g13.gn,gy.of (by rw[Ad,EO]),AQ g13.gn (EI _ ht),by simp;exact om,hc.go g13.gn om,fun v2 H2 g4 i2=>?_⟩;refine⟨EJ,fun p3 hp3=>?_⟩;have g34:=g3.trans g4;have g5:Gr S 0 H2 (Ab H2 p3 (.lst [v2])):=.new g34.gn.gu hp3;refine⟨r,p3,rs,[v2],U,U,(g34.trans g5).lst er,Ad,?_,fun l hl'=>?_⟩
    . have z:=NK (place:=old - Gb.spl ts.length) (ts:=ts.drop (Gb.spl ts.length)) (j:=j) (by simp;exact om) om (by simp;exact om);have z2:=Bq ir;simp only[EU];exact om
    . obtain⟨e1,e2,e3,e4⟩:=Nl (N:=ts.length+1) g12 (g1.free nr) er ir g34 i2 hp3 hl' om;refine q l _ _ e1 e2 e3 ?_;show Bs S _ (Gb.pathT AM AJ ts old) _;rw[Gb.pathT_high AM AJ h2 om];exact e4
def Dz (K:W.Frag)(mg:gj)(m:Str):Sp:=fun vs H Q _=>∃ S f t1 t2 v1 v2,vs=[.ref f,v1,v2]/\gx K mg AU S H f/\iJ S H 1/\AE S H t1 v1/\AE S H t2 v2/\∀ v H',Gr S 1 H H'->AE S H' (.nd m t1 t2) v->Q v H'
theorem bP:AA [Ag,Dh,Cy] [Ag,Dh,Cy] (Ah Ow):=AD
theorem fQ (F:gp K mg JQ Ow)(Fl:CV P w K mg base Bh 1 (DK K mg AU)):hU P w K mg base 2 JQ [Ag,Dh,Cy] (Dz K mg Dm):=by
 refine F.ok bP (fun _ _ _ _ _ _=>Bx fun _ _ _=>rfl) (fun _ _ _ _ h=>Do h fun _ _ _ _ _ _=>rfl) (fun f ad A outer s H vs Q E hr h=>?_);refine Df h fun S f t1 t2 v1 v2 hZ=>G9 hZ fun eQ hS hc i1 i2 q=>?_;clear hZ h;subst eQ;refine⟨_,Aj (C2 (i:=0) Fl hr BD rfl (Or.inl rfl) (An AT (pv 1) (pv 2))),?_⟩;exact⟨f,U,hS.iK,Aa U (Aa U ⟨hS.iK,S,_,t1,t2,_,_,hS,hc,U,i1,i2,q⟩)⟩
theorem Z0:AA [Ag,AI,DO] [Ag,AI,DO] (Ah Oc):=AD
theorem fP (F:gp K mg Jx Oc)(Fl:CV P w K mg base Bh 1 (DK K mg AU)):hU P w K mg base 2 Jx [Ag,AI,DO] (Dz K mg Di):=by
 refine F.ok Z0 (fun _ _ _ _ _ _=>Bx fun _ _ _=>rfl) (fun _ _ _ _ h=>Do h fun _ _ _ _ _ _=>rfl) (fun f ad A outer s H vs Q E hr h=>?_);refine Df h fun S f t1 t2 v1 v2 hZ=>G9 hZ fun eQ hS hc i1 i2 q=>?_;clear hZ h;subst eQ;refine⟨_,Aj (C2 (i:=0) Fl hr BD rfl (Or.inl rfl) (An AT (pv 1) (pv 2))),?_⟩;exact⟨f,U,hS.iK,Aa U (Aa U ⟨hS.iK,S,_,t1,t2,_,_,hS,hc,U,i1,i2,q⟩)⟩
noncomputable def tV (b:Bool):V:=.str (if b then ES else Ia)
def RW:Sp:=fun vs H Q _=>∃ p n:Nat,vs=[.int p,.int n]/\p<n/\n<=2 ^ 40/\∀ r,H r=none->Q (.ref r) (Ab H r (.lst ((Gb.turnsT n p).map tV)))
theorem scTurns:AA [Aw,AI,"turns",ES] [Aw,AI] (Ah OH):=AD
theorem Zn (F:gp K mg Ni OH)(Fs:hU P w K mg base 1 Jp [AI] HC):hU P w K mg base 2 Ni [Aw,AI] RW:=by
 refine F.ok scTurns (fun _ _ _ _ _ _=>CB fun _ _=>rfl) (fun _ _ _ _ h=>HJ h fun _ _=>rfl) (fun f ad A outer s H vs Q E hr h=>?_);refine HD h fun p n hZ=>Ej hZ fun eQ hp hn q=>?_;clear hZ h;subst eQ;have nd:=scTurns.nd;refine⟨_,Ae (Ax 2 nd (Ci CP)) <|
  Ae (MD PassesOwn.never (Au Fg (pv 1) Ac) <|
   Ae (Ax 3 nd (Ai Fs hr (Ar (pv 1)))) <|
   Ba (Az (Au Dj (pv 0) (pv 3))
    (Ae (BT (Cv Ec DX DZ DM (pv 2) (Ar AT))) <| Ba (Ax 1 nd (pv 3)))
    (Ae (BT (Cv Ec DX DZ DM (pv 2) (Ar AT))) <| Ae (Ax 0 nd (Ao CC (pv 0) (pv 3))) <| Ba (Ax 1 nd (Ao CC (pv 1) (pv 3)))))) <|
  Aj (pv 2),?_⟩
 have tl:=Gb.turns_len 40 n p hn;refine⟨Dk,fun r hr0=>?_⟩;refine NP (fun σ H'=>∃ p' n':Nat,∃ pre o3,σ=[some (.int p'),some (.int n'),some (.ref r),o3]/\H'=Ab H r (.lst pre)/\pre++(Gb.turnsT n' p').map tV=(Gb.turnsT n p).map tV/\p'<n'/\n'<=n)
  (fun σ _=>match σ with | [_,some (.int k),_,_]=>k.toNat | _=>0) ⟨p,n,[],none,U,U,U,hp,Ay _⟩ ?_ ?_
 . rintro σ H' ⟨p',n',pre,o3,rfl,rfl,hpre,hp',hn'⟩;refine Aa U ⟨_,Aa U ⟨U,Aa U ?_⟩⟩;have plen:pre.length<=40:=by
    have z:=congrArg List.length hpre;rw[Cf,AS,AS] at z;exact om
   refine AN (fun c=>?_) (fun c=>?_)
   . have c':(1:Int)<(n':Int):=Bm c;have h2:2<=n':=by exact om
     have x1:=Gb.spl_lt h2;have x2:=Gb.spl_pos n';have big:n'<2 ^ 60:=GK (Bu hn' hn) (by decide);refine Aa U (Aa U ⟨om,om,?_⟩);rw[show((n':Nat):Int).toNat=n' from rfl];refine Aa U (Aa U ⟨_,Aa U ⟨U,Aa U ?_⟩⟩);refine AN (fun c=>?_) (fun c=>?_)
     . have c2:(p':Int)<(Gb.spl n':Nat):=Bm c;refine Aa U ⟨.inl ⟨U,_,gy.of (K:=K) Ad⟩,r,pre,Aa U ⟨U,Ad,by rw[Bf];exact om,?_⟩⟩;refine Aa U ⟨⟨p',Gb.spl n',pre++[tV true],Aa U ⟨by rw[GG];rfl,?_,om,om⟩⟩,?_⟩
       . rw[<- hpre,Gb.turnsT_low h2 om];simp
       . show((Gb.spl n':Nat):Int).toNat<((n':Nat):Int).toNat;exact om
     . have c2:¬ (p':Int)<(Gb.spl n':Nat):=B8 (Bool.eq_false_iff.mpr c);refine Aa U ⟨.inl ⟨U,_,gy.of (K:=K) Ad⟩,r,pre,Aa U ⟨U,Ad,by rw[Bf];exact om,?_⟩⟩;refine Aa U (Aa U ⟨_,Aa U ⟨U,Aa U (Aa U ⟨_,Aa U ⟨U,⟨p' - Gb.spl n',n' - Gb.spl n',pre++[tV false],some (.int (Gb.spl n':Nat)),?_,by rw[GG];rfl,?_,om,om⟩,?_⟩⟩)⟩⟩)
       . show [some (V.int ((p':Int) - (Gb.spl n':Nat))),some (V.int ((n':Int) - (Gb.spl n':Nat))),_,_]=_;rw[show(p':Int) - (Gb.spl n':Nat)=((p' - Gb.spl n':Nat):Int) by exact om,show(n':Int) - (Gb.spl n':Nat)=((n' - Gb.spl n':Nat):Int) by exact om]
       . rw[<- hpre,Gb.turnsT_high h2 om];simp
       . show((n':Int) - (Gb.spl n':Nat)).toNat<((n':Nat):Int).toNat;exact om
   . have c':¬ (1:Int)<(n':Int):=B8 (Bool.eq_false_iff.mpr c);refine Aa U ?_;rw[Gb.turnsT_few (show n'<2 by exact om)] at hpre;have e:pre=(Gb.turnsT n p).map tV:=by simpa using hpre
     rw[e];exact q r hr0
 . rintro σ H' Q1 Q2 hq ⟨v,e1,i,j,e2,e3,k,e7,z⟩;exact⟨v,e1,i,j,e2,e3,k,e7,hq _ _ z⟩
theorem jx.of {K:W.Frag}{xs:List V}(h:H a=some (.tup xs)):jx K H a xs:=.inl (.inl h)
def jR (H:Hp)(pv:V):Prop:=CD pv=true\/∃ b ws,pv = .ref b/\H b=some (.tup ws)
theorem jR.new {pv:V}{o:HO}(h:jR H pv)(hr:H r=none):jR (Ab H r o) pv:=by
 rcases h with h | ⟨b,ws,rfl,hb⟩
 . exact .inl h
 . exact .inr ⟨b,ws,U,by rw[Af (Aq hb hr)];exact hb⟩
theorem Y2 {K:W.Frag}:W.kitOne K (.type "NoneType") (.type "list")=some false:=by unfold W.kitOne;rw[if_neg (by simp)];kernel_rfl
theorem Xy {K:W.Frag}:W.kitOne K (.type "bool") (.type "list")=some false:=by unfold W.kitOne;rw[if_neg (by simp)];kernel_rfl
theorem ar {K:W.Frag}:W.kitOne K (.type "int") (.type "list")=some false:=by unfold W.kitOne;rw[if_neg (by simp)];kernel_rfl
theorem fv {K:W.Frag}:W.kitOne K (.type "str") (.type "list")=some false:=by unfold W.kitOne;rw[if_neg (by simp)];kernel_rfl
theorem jR.ty {pv:V}(h:jR H pv)(K:W.Frag):∃ T,D6 K H pv T/\W.kitOne K T (.type "list")=some false:=by
 rcases h with h | ⟨b,ws,rfl,hb⟩
 . cases pv with
   | non=>exact⟨_,.non,Y2⟩
   | bl b=>exact⟨_,.bl b,Xy⟩
   | int i=>exact⟨_,.int i,ar⟩
   | str x=>exact⟨_,.str x,fv⟩
   | _=>cases h
 . exact⟨_,.tup hb,Y9⟩
def UD (K:W.Frag)(mg:gj)(cP:Addr):Sp:=fun vs H Q E=>∃ S f t0 v0,∃ p n:Nat,∃ pv,vs=[.ref f,v0,.int p,.int n,pv]/\gx K mg AU S H f/\AE S H t0 v0/\p<n/\n<=2 ^ 40/\
 ((∃ b ws os,pv = .ref b/\H b=some (.lst ws)/\Bs S H os ws/\ws.length=(Gb.turnsT n p).length/\iJ S H ws.length/\∀ v H',Gr S ws.length H H'->AE S H' (Gb.rise AJ (Gb.turnsT n p).reverse os t0) v->Q v H')\/
  (((∃ b ws,pv = .ref b/\H b=some (.lst ws)/\ws.length≠(Gb.turnsT n p).length)\/jR H pv)/\∀ H',Gr S 0 H H'->E (.ref cP) none H'))
theorem scRi:AA [Ag,Dm,Aw,AI,Ek,"turns",DO,"turn",F9] [Ag,Dm,Aw,AI,Ek] (Ah LH):=AD
theorem dr {cP:Addr}(F:gp K mg "risen" LH)(Ft:hU P w K mg base 2 Ni [Aw,AI] RW)(Fp:hU P w K mg base 2 Lg [Ag,ES,Ia] (Rk K mg))
 (xc:Ei K cP)(hP:mg "BadPaper" = some (.ref cP))(ml:mg B0=none)(mli:mg "list" = none)(mi:mg DY=none)(mz:mg "zip" = none)(mre:mg "reversed" = none)
 (kl:W.kitOne K (.type "list") (.type "list")=some true):Nv P w K mg base 3 "risen" [Ag,Dm,Aw,AI,Ek] (UD K mg cP):=by
 refine F.okX scRi (fun _ _ _ _ _ _=>FJ fun _ _ _ _ _=>rfl) (fun vs H Q E h=>?_) (fun f0 ad A outer s H vs Q E hr h=>?_)
 . obtain⟨S,f,t0,v0,p,n,pv,rfl,_⟩:=h;rfl
 obtain⟨S,f,t0,v0,p,n,pvv,rfl,hS,it0,hp,hn,h⟩:=h;have nd:=scRi.nd;refine⟨_,Ae (Ax 5 nd (Ai Ft hr (AG (pv 2) (pv 3)))) <|
  Ae (Az (Dg (Ca (B7 Dp rfl mi CZ (AG (pv 4) (Dn rfl mli Jt)))))
   (Ba (RQ SA hr.hd xc rfl hP (Ar AT))) AB) <|
  Ae (Az (Au Qx (AW ml (pv 4)) (AW ml (pv 5)))
   (Ba (RQ SA hr.hd xc rfl hP (Ar AT))) AB) <|
  Ae (Ax 6 nd (pv 1)) <|
  Ae (Gv PassesOwn.leaving rfl (WE rfl mz rfl mre (pv 5) (pv 4)) (Sc rfl (MB (Fm (i:=7) nd rfl (Or.inl rfl)) (MB (Fm (i:=8) nd rfl (Or.inl rfl)) Ti))) <|
   Ba (Az (Au AL (pv 7) AT)
    (Ba (Ax 6 nd (Ai Fp hr (An (pv 0) (pv 6) (pv 8)))))
    (Ba (Ax 6 nd (Ai Fp hr (An (pv 0) (pv 8) (pv 6))))))) <|
  Aj (pv 6),?_⟩
 refine Aa U (Aa U ⟨p,n,U,hp,hn,fun r hr0=>?_⟩);have g1:Gr S 0 H (Ab H r (.lst ((Gb.turnsT n p).map tV))):=.new hS.told hr0;rcases h with⟨b,ws,os,rfl,hb,hos,ah,hc,q⟩ | ⟨⟨b,ws,rfl,hb,hne⟩ | hnl,q⟩
 . have hb1:=g1.lst hb;refine Aa U ⟨_,_,_,Aa U ⟨.lst hb1,kl,Aa U ?_⟩⟩;refine AK ?_;refine Aa U ⟨b,ws,U,.inl (gy.of hb1),Aa U ⟨r,Aa U ⟨.inl (gy.of Ad),U,Aa U ?_⟩⟩⟩;rw[AS,<- ah,Be rfl];refine AK ?_;refine Aa U (Aa U ⟨r,Aa U ⟨gy.of Ad,Aa U ⟨b,ws,U,gy.of Ad,gy.of hb1,by rw[AS];exact ah.symm,?_⟩⟩⟩);have ho:=Bq hos;have hc1:iJ S (Ab H r (.lst ((Gb.turnsT n p).map tV))) ws.length:=hc.go g1.gn om;refine Zt (by rw[AS];exact ah.symm) (fun i σ H'=>Gr S i (Ab H r (.lst ((Gb.turnsT n p).map tV))) H'/\∃ v o7 o8,σ=[some (.ref f),some v0,some (.int p),some (.int n),some (.ref b),some (.ref r),some v,o7,o8]/\AE S H' (Gb.rise AJ ((Gb.turnsT n p).reverse.take i) (os.take i) t0) v)
    ⟨.refl g1.gn.gu,v0,none,none,U,AO g1.gn it0⟩ (fun i σ H' _ h=>⟨gy.of (h.1.lst Ad),gy.of (h.1.lst hb1)⟩) ?_ ?_
   . rintro i u v pp σ H2 hi hu hv hpp ⟨g2,top,o7,o8,rfl,it⟩;rw[AS] at hi hu;obtain⟨tb,htb,rfl⟩:∃ tb,(Gb.turnsT n p).reverse[i]? = some tb/\u=tV tb:=by
      rw[BG] at hu;rw[List.getElem?_reverse hi];cases z:(Gb.turnsT n p)[(Gb.turnsT n p).length - 1 - i]? with
      | none=>rw[z] at hu;cases hu
      | some tb=>rw[z] at hu;exact⟨tb,U,(Option.some.inj hu).symm⟩
     obtain⟨to,hto,ito⟩:=JP hos hv;have g3:Gr S 0 H2 (Ab H2 pp (.tup [tV tb,v])):=.new g2.gn.gu hpp;have g13:=(g1.trans g2).trans g3;have hS3:=hS.up g13.gn;have c3:iJ S (Ab H2 pp (.tup [tV tb,v])) 1:=hc.go g13.gn om;have itop:=AO g3.gn it;have ioth:=AO g13.gn ito;refine⟨pp,Aa U ⟨jx.of Ad,U,_,Aa U ⟨_,Aa U ⟨U,Aa U ⟨U,Aa U ?_⟩⟩⟩⟩⟩;have step:=Gb.rise_take AJ (x:=t0) (by rw[Ht];exact om) htb hto;cases tb with
     | true=>
      rw[show decide (tV true=V.str ES)=true from rfl];refine AC ?_;refine Aa U (Aa U (Aa U ⟨S,f,_,_,_,Aa U ⟨hS3,c3,itop,ioth,fun v3 H3 g4 i3=>⟨(g2.trans (g3.trans g4)).up om,v3,_,Aa U ?_⟩⟩⟩));rw[step];exact i3
     | false=>
      rw[show decide (tV false=V.str ES)=false from by decide];refine AK ?_;refine Aa U (Aa U (Aa U ⟨S,f,_,_,_,Aa U ⟨hS3,c3,ioth,itop,fun v3 H3 g4 i3=>⟨(g2.trans (g3.trans g4)).up om,v3,_,Aa U ?_⟩⟩⟩));rw[step];exact i3
   . rintro σ H2 ⟨g2,top,o7,o8,rfl,it⟩;rw[AS] at g2 it;refine Aa U (q top H2 ((g1.trans g2).up om) ?_);rw[KH (by rw[Ht];exact om),KH om] at it;exact it
 . have hb1:=g1.lst hb;refine Aa U ⟨_,_,_,Aa U ⟨.lst hb1,kl,Aa U ?_⟩⟩;refine AK ?_;refine Aa U ⟨b,ws,U,.inl (gy.of hb1),Aa U ⟨r,Aa U ⟨.inl (gy.of Ad),U,Aa U ?_⟩⟩⟩;rw[AS,Bj (show ¬ V.int (ws.length:Int)=V.int ((Gb.turnsT n p).length:Int) from fun z=>hne (by injection z with z;exact om))];refine AC ?_;exact⟨EJ,q _ g1⟩
 . obtain⟨T,hT,hk⟩:=(hnl.new (o:=.lst ((Gb.turnsT n p).map tV)) hr0).ty K;refine Aa U ⟨_,_,_,Aa U ⟨hT,hk,Aa U ?_⟩⟩;refine AC ?_;exact⟨EJ,q _ g1⟩
theorem eS:AA [Ag,AH,Eo] [Ag,AH,Eo] (Ah N2):=AD
theorem Ya (F:gp K mg K7 N2)(Fl:CV P w K mg base Bh 1 (DK K mg AU)):hU P w K mg base 2 K7 [Ag,AH,Eo] (Dz K mg Dq):=by
 refine F.ok eS (fun _ _ _ _ _ _=>Bx fun _ _ _=>rfl) (fun _ _ _ _ h=>Do h fun _ _ _ _ _ _=>rfl) (fun f ad A outer s H vs Q E hr h=>?_);refine Df h fun S f t1 t2 v1 v2 hZ=>G9 hZ fun eQ hS hc i1 i2 q=>?_;clear hZ h;subst eQ;refine⟨_,Aj (C2 (i:=0) Fl hr BD rfl (Or.inl rfl) (An AT (pv 1) (pv 2))),?_⟩;exact⟨f,U,hS.iK,Aa U (Aa U ⟨hS.iK,S,_,t1,t2,_,_,hS,hc,U,i1,i2,q⟩)⟩
theorem ao:AA [Ag,"low",Jw] [Ag,"low",Jw] (Ah Om):=AD
theorem Yg (F:gp K mg JN Om)(Fl:CV P w K mg base Bh 1 (DK K mg AU)):hU P w K mg base 2 JN [Ag,"low",Jw] (Dz K mg Je):=by
 refine F.ok ao (fun _ _ _ _ _ _=>Bx fun _ _ _=>rfl) (fun _ _ _ _ h=>Do h fun _ _ _ _ _ _=>rfl) (fun f ad A outer s H vs Q E hr h=>?_);refine Df h fun S f t1 t2 v1 v2 hZ=>G9 hZ fun eQ hS hc i1 i2 q=>?_;clear hZ h;subst eQ;refine⟨_,Aj (C2 (i:=0) Fl hr BD rfl (Or.inl rfl) (An AT (pv 1) (pv 2))),?_⟩;exact⟨f,U,hS.iK,Aa U (Aa U ⟨hS.iK,S,_,t1,t2,_,_,hS,hc,U,i1,i2,q⟩)⟩
theorem MY (k:Int)(b:Nat):Builtin.bitAnd (k / 2 ^ ((b:Int)).toNat) 1=AV k b:=by
 rw[PyProof.Rows.bitAnd_m1];rfl
def PL (K:W.Frag):Sp:=fun vs H Q _=>∃ S:Sl,∃ a ws ac,∃ b:Nat,∃ sd:Int,vs=[.ref a,.int b,.int sd]/\C3 S H/\gy K H a ws/\ia H ac ws/\ac.length<=1000/\
 ∀ D H' ws',Gr S 0 H H'->H D=none->H' D=some (.lst ws')->ia H' (prt ac b sd) ws'->Q (.ref D) H'
theorem fe:AA [Dl,FV,He] [Dl,FV,He] (Ah OF):=AD
theorem fk (F:gp K mg JU OF):hU P w K mg base 1 JU [Dl,FV,He] (PL K):=by
 refine F.ok fe (fun _ _ _ _ _ _=>Bx fun _ _ _=>rfl) (fun _ _ _ _ h=>Do h fun _ _ _ _ _ _=>rfl) (fun f0 ad A outer s H vs Q E hr h=>?_);refine Df h fun S a ws ac b sd hZ=>G9 hZ fun eQ ts hq hw hz q=>?_;clear hZ h;subst eQ;refine' ⟨_,Aj (JK (ys:=[FV,He]) (js:=[1,2]) ?ok (EB (pv 0)) (fun _ _ _=>L8 ?ht) (fun _ _ _=>pv 0)),?rd⟩
 case ok=>
  refine⟨U,U,U,by decide +kernel,by decide +kernel,U,by decide +kernel,fun _ _ h=>h,U,fun i y h=>?_,U⟩
  match i,h with
  | 0,h=>simp at h;subst h;exact⟨1,U,U,U,U⟩
  | 1,h=>simp at h;subst h;exact⟨2,U,U,U,U⟩
  | i+2,h=>simp at h
 case ht=>
  exact Au AL (Ao P5 (Ao K8 (As (pv 0)) (pv 1)) Ac) (pv 2)
 case rd=>
 refine Aa U ⟨a,U,⟨_,hq⟩,?_⟩;refine Ko (fun r=>decide (AV r.1 b=sd)) ts hq hw om (fun p r H' Qb hp hQ=>?_) q;refine Aa U ⟨p,_,Aa U ⟨U,hp,U,Aa U ⟨_,Aa U ⟨U,by show(0:Int)<=(b:Int);exact om,_,Aa U ⟨U,Aa U ⟨U,Aa U ?_⟩⟩⟩⟩⟩⟩;show Qb (decide (V.int (Builtin.bitAnd (r.1 / 2 ^ ((b:Int)).toNat) 1)=V.int sd)) H';rw[MY];have e:decide (V.int (AV r.1 b)=V.int sd)=decide (AV r.1 b=sd):=by
  by_cases h:AV r.1 b=sd
  . rw[Be h,Be (by rw[h])]
  . rw[Bj h,Bj (fun z=>h (by injection z))]
 rw[e];exact hQ
def Py (K:W.Frag)(mg:gj)(b:Nat):Sp:=fun vs H Q _=>∃ S f a ws ac,vs=[.ref f,.ref a,.int b]/\gx K mg AU S H f/\gy K H a ws/\ia H ac ws/\ac.length<=1000/\jO b ac/\iJ S H (C1 b ac)/\
 ∀ v H',Gr S (C1 b ac) H H'->AE S H' (BQ b ac) v->Q v H'
theorem scTp:AA [Ag,Dl,JC,FV,"low",Jw] [Ag,Dl,JC] (Ah Mg):=AD
theorem eP (F:gp K mg IJ Mg)(Fn:hU P w K mg base 2 G0 [Ag] (Ic K mg))(Fr:hU P w K mg base 2 K7 [Ag,AH,Eo] (Dz K mg Dq))
 (Ff:hU P w K mg base 2 JN [Ag,"low",Jw] (Dz K mg Je))(Fp:hU P w K mg base 1 JU [Dl,FV,He] (PL K))(ml:mg B0=none) :
 ∀ b:Nat,hU P w K mg base (b+3) IJ [Ag,Dl,JC] (Py K mg b):=by
 intro b
 induction b with
 | zero=>
  refine F.ok scTp (fun _ _ _ _ _ _=>Bx fun _ _ _=>rfl) (fun _ _ _ _ h=>DS h fun _ _ _ _ _=>rfl) (fun f0 ad A outer s H vs Q E hr h=>?_);refine DQ h fun S f a ws ac hZ=>E6 hZ fun eQ hS hq hw hz ok hc q=>?_;clear hZ h;subst eQ;have nd:=scTp.nd;have hl:=Bq hw;refine⟨_,Ae (Az (Au AL (AW ml (pv 1)) Ac) (Aj (Ai Fn hr (Ar (pv 0)))) AB) <|
   Ae (Az (Au AL (AW ml (pv 1)) Ac) (Aj (Ai Fr hr (An (pv 0) (As (Bw BP (pv 1) Ac)) (As (Bw BP (pv 1) Ac))))) AB) <|
   BY,?_⟩
  have h1:=ok.zero;refine Aa U ⟨a,Aa U ⟨.inl hq,U,Aa U ?_⟩⟩;refine AN (fun c=>?_) (fun c=>?_)
  . have c':V.int (ws.length:Int)=V.int 0:=Bm c;have e:ac=[]:=Gk (by injection c' with c';exact om);subst e;refine Aa U ⟨S,f,U,hS,hc,fun v H' g i=>q v H' g ?_⟩;rw[HA];exact i
  . have c':¬ V.int (ws.length:Int)=V.int 0:=B8 (Bool.eq_false_iff.mpr c);have c2:ac.length≠0:=fun z=>c' (congrArg V.int om);obtain⟨r,rfl⟩:∃ r,ac=[r]:=by
     match ac,h1,c2 with
     | [r],_,_=>exact⟨r,U⟩
    obtain⟨v,rfl,p,rfl,hp⟩:∃ v,ws=[v]/\iM H r v:=by
     cases hw with
     | cons r1 t1=>cases t1;exact⟨_,U,r1⟩
    refine Aa U ⟨a,Aa U ⟨.inl hq,U,Aa U ?_⟩⟩;refine AC ?_;refine⟨_,U,_,U,a,_,0,_,U,U,hq,BK (j:=0) rfl,p,_,_,U,U,hp,U,_,U,a,_,0,_,U,U,hq,BK (j:=0) rfl,p,_,_,U,U,hp,U,
     S,f,.int r.1,.str r.2,_,_,U,hS,hc,U,U,fun v H' g i=>q v H' g ?_⟩
    rw[Hj];exact i
 | succ b ih=>
  refine F.ok scTp (fun _ _ _ _ _ _=>Bx fun _ _ _=>rfl) (fun _ _ _ _ h=>DS h fun _ _ _ _ _=>rfl) (fun f0 ad A outer s H vs Q E hr h=>?_);refine DQ h fun S f a ws ac hZ=>E6 hZ fun eQ hS hq hw hz ok hc q=>?_;clear hZ h;subst eQ;have nd:=scTp.nd;have hl:=Bq hw;refine⟨_,Ae (Az (Au AL (AW ml (pv 1)) Ac) (Aj (Ai Fn hr.m (Ar (pv 0)))) AB) <|
   Ae (Az (Au AL (AW ml (pv 1)) Ac) (Aj (Ai Fr hr.m (An (pv 0) (As (Bw BP (pv 1) Ac)) (As (Bw BP (pv 1) Ac))))) AB) <|
   Ae (Ax 3 nd (Ao CC (pv 2) Ac)) <|
   Ae (Ax 4 nd (Ai ih hr (An (pv 0) (Ai Fp hr.m (An (pv 1) (pv 3) Ac)) (pv 3)))) <|
   Ae (Ax 5 nd (Ai ih hr (An (pv 0) (Ai Fp hr.m (An (pv 1) (pv 3) Ac)) (pv 3)))) <|
   Aj (Ai Ff hr.m (An (pv 0) (pv 4) (pv 5))),?_⟩
  have cp:=Vn (b+1) ac;refine Aa U ⟨a,Aa U ⟨.inl hq,U,Aa U ?_⟩⟩;refine AN (fun c=>?_) (fun c=>?_)
  . have c':V.int (ws.length:Int)=V.int 0:=Bm c;have e:ac=[]:=Gk (by injection c' with c';exact om);subst e;refine Aa U ⟨S,f,U,hS,hc.dn cp,fun v H' g i=>q v H' (g.up cp) ?_⟩;rw[HA];exact i
  have c':¬ V.int (ws.length:Int)=V.int 0:=B8 (Bool.eq_false_iff.mpr c);have c2:ac.length≠0:=fun z=>c' (congrArg V.int om);refine Aa U ⟨a,Aa U ⟨.inl hq,U,Aa U ?_⟩⟩;refine AN (fun c=>?_) (fun c=>?_)
  . have c':V.int (ws.length:Int)=V.int 1:=Bm c;have h1:ac.length=1:=by injection c' with c';exact om
    obtain⟨r,rfl⟩:∃ r,ac=[r]:=List.length_eq_one_iff.mp h1;obtain⟨v,rfl,p,rfl,hp⟩:∃ v,ws=[v]/\iM H r v:=by
     cases hw with
     | cons r1 t1=>cases t1;exact⟨_,U,r1⟩
    refine⟨_,U,_,U,a,_,0,_,U,U,hq,BK (j:=0) rfl,p,_,_,U,U,hp,U,_,U,a,_,0,_,U,U,hq,BK (j:=0) rfl,p,_,_,U,U,hp,U,
     S,f,.int r.1,.str r.2,_,_,U,hS,hc.dn cp,U,U,fun v H' g i=>q v H' (g.up cp) ?_⟩
    rw[Hj];exact i
  have c3:¬ V.int (ws.length:Int)=V.int 1:=B8 (Bool.eq_false_iff.mpr c);have c4:ac.length≠1:=fun z=>c3 (congrArg V.int om);have h2:2<=ac.length:=by exact om
  have hcs:=Pr (b:=b) h2;have eb:(((b+1:Nat):Int) - 1)=((b:Nat):Int):=by exact om
  refine Aa U ⟨_,Aa U ⟨U,?_⟩⟩;dsimp only;rw[eb];have ls:∀ sd,(prt ac b sd).length<=1000:=fun sd=>Bu (IS _ _) hz;refine Aa U (Aa U (Aa U ⟨S,a,ws,ac,b,0,U,hS.told,hq,hw,hz,fun D0 H0 ws0 g0 n0 e0 r0=>Aa U ?_⟩));refine⟨S,f,D0,ws0,prt ac b 0,U,hS.up g0.gn,gy.of e0,r0,ls 0,ok.prt 0,hc.go g0.gn om,fun v1 H1 g1 i1=>?_⟩;have g01:=g0.trans g1;refine Aa U (Aa U (Aa U ⟨S,a,ws,ac,b,1,U,g01.gn.gu,g01.sq hq,ia.up hw g01.gn,hz,fun D2 H2 ws2 g2 n2 e2 r2=>Aa U ?_⟩));have g02:=g01.trans g2;refine⟨S,f,D2,ws2,prt ac b 1,U,hS.up g02.gn,gy.of e2,r2,ls 1,ok.prt 1,hc.go g02.gn om,fun v3 H3 g3 i3=>?_⟩;have g03:=g02.trans g3;refine Aa U (Aa U (Aa U ⟨S,f,BQ b (prt ac b 0),BQ b (prt ac b 1),_,Aa U ⟨hS.up g03.gn,hc.go g03.gn om,AO (g2.trans g3).gn i1,i3,fun v4 H4 g4 i4=>q v4 H4 ((g03.trans g4).up om) ?_⟩⟩));rw[LI h2];exact i4
def IN (K:W.Frag)(mg:gj):Sp:=fun vs H Q E=>∃ b,b<=16/\Py K mg b vs H Q E
theorem bu (b:Nat):(1:Int) * 2 ^ ((((b+1:Nat):Int) - 1)).toNat=2 ^ b:=by
 rw[show((((b+1:Nat):Int) - 1)).toNat=b by exact om,Km]
theorem TW {b:Nat}(h:b<=20):Qj 0 ((2:Int) ^ b):=by
 have h1:=two_pow_nn b;have h2:(2:Nat) ^ b<=2 ^ 20:=Jq om h;have h3:=Nu (n:=b);unfold Qj;rw[PyProof.Rows.two_pow_cast];exact om
theorem Ml (i s:Int):decide (V.int i=V.int s)=decide (i=s):=by
 by_cases h:i=s
 . rw[Be h,Be (by rw[h])]
 . rw[Bj h,Bj (fun z=>h (by injection z))]
theorem scLp:AA [Bo,E5,Hx,HU,"_law_low","_law_high"] [Bo,E5,Hx] (Ah N1):=AD
theorem W1 (F:gp K mg Iy N1)(Fl:CV P w K mg base Bh 1 (DK K mg AU))(ml:mg B0=none) :
 ∀ b:Nat,b<=20->hU P w K mg base (b+3) Iy [Bo,E5,Hx] (Py K mg b):=by
 intro b
 induction b with
 | zero=>
  intro _;refine F.ok scLp (fun _ _ _ _ _ _=>Bx fun _ _ _=>rfl) (fun _ _ _ _ h=>DS h fun _ _ _ _ _=>rfl) (fun f0 ad A outer s H vs Q E hr h=>?_);refine DQ h fun S f a ws ac hZ=>E6 hZ fun eQ hS hq hw hz ok hc q=>?_;clear hZ h;subst eQ;have nd:=scLp.nd;have hl:=Bq hw;refine⟨_,Ae (Az (Au AL (AW ml (pv 1)) Ac) (Aj (C2 (i:=0) Fl hr.m BD rfl (Or.inl rfl) (An AT Ac Ac))) AB) <|
   Ae (Az (Au AL (AW ml (pv 1)) Ac) (Aj (C2 (i:=0) Fl hr.m BD rfl (Or.inl rfl) (An AT (As (Bw BP (pv 1) Ac)) (As (Bw BP (pv 1) Ac))))) AB) <|
   BY,?_⟩
  have h1:=ok.zero;refine Aa U ⟨a,Aa U ⟨.inl hq,U,Aa U ?_⟩⟩;refine AN (fun c=>?_) (fun c=>?_)
  . have c':V.int (ws.length:Int)=V.int 0:=Bm c;have e:ac=[]:=Gk (by injection c' with c';exact om);subst e;refine⟨f,U,hS.iK,hS.iK,S,_,.int 0,.int 0,_,_,hS,hc,U,U,U,fun v H' g i=>q v H' g ?_⟩;rw[HA];exact i
  . have c':¬ V.int (ws.length:Int)=V.int 0:=B8 (Bool.eq_false_iff.mpr c);have c2:ac.length≠0:=fun z=>c' (congrArg V.int om);obtain⟨r,rfl⟩:∃ r,ac=[r]:=by
     match ac,h1,c2 with
     | [r],_,_=>exact⟨r,U⟩
    obtain⟨v,rfl,p,rfl,hp⟩:∃ v,ws=[v]/\iM H r v:=by
     cases hw with
     | cons r1 t1=>cases t1;exact⟨_,U,r1⟩
    refine Aa U ⟨a,Aa U ⟨.inl hq,U,Aa U ?_⟩⟩;refine AC ?_;refine⟨f,U,hS.iK,_,U,a,_,0,_,U,U,hq,BK (j:=0) rfl,p,_,_,U,U,hp,U,_,U,a,_,0,_,U,U,hq,BK (j:=0) rfl,p,_,_,U,U,hp,U,
     hS.iK,S,_,.int r.1,.str r.2,_,_,hS,hc,U,U,U,fun v H' g i=>q v H' g ?_⟩
    rw[Hj];exact i
 | succ b ih=>
  intro hb;have ih:=ih om;refine F.ok scLp (fun _ _ _ _ _ _=>Bx fun _ _ _=>rfl) (fun _ _ _ _ h=>DS h fun _ _ _ _ _=>rfl) (fun f0 ad A outer s H vs Q E hr h=>?_);refine DQ h fun S f a ws ac hZ=>E6 hZ fun eQ hS hq hw hz ok hc q=>?_;clear hZ h;subst eQ;have nd:=scLp.nd;have hl:=Bq hw;refine' ⟨_,Ae (Az (Au AL (AW ml (pv 1)) Ac) (Aj (C2 (i:=0) Fl hr.m BD rfl (Or.inl rfl) (An AT Ac Ac))) AB) <|
   Ae (Az (Au AL (AW ml (pv 1)) Ac) (Aj (C2 (i:=0) Fl hr.m BD rfl (Or.inl rfl) (An AT (As (Bw BP (pv 1) Ac)) (As (Bw BP (pv 1) Ac))))) AB) <|
   Ae (GY (i:=3) nd rfl (Or.inr rfl) (Ao Li Ac (Ao CC (pv 2) Ac))) <|
   Ae (GP (iz:=4) (ys:=[HU]) (js:=[3]) ?ok1 (EB (pv 1)) (fun _ _ _=>L8 ?ht1) (fun _ _ _=>pv 0) nd rfl (Or.inl rfl) (Or.inl rfl) rfl) <|
   Ae (GP (iz:=5) (ys:=[HU]) (js:=[3]) ?ok2 (EB (pv 1)) (fun _ _ _=>L8 ?ht2) (fun _ _ _=>pv 0) nd rfl (Or.inl rfl) (Or.inl rfl) rfl) <|
   Aj (C2 (i:=0) Fl hr.m BD rfl (Or.inl rfl) (An AT (Ai ih hr (An (pv 0) (pv 4) (Ao CC (pv 2) Ac))) (Ai ih hr (An (pv 0) (pv 5) (Ao CC (pv 2) Ac))))),?rd⟩
  case ok1=>
   refine⟨U,U,U,by decide +kernel,by decide +kernel,U,by decide +kernel,fun _ _ h=>h,U,fun i y h=>?_,U⟩
   match i,h with
   | 0,h=>simp at h;subst h;exact⟨3,U,U,U,U⟩
   | i+1,h=>simp at h
  case ok2=>
   refine⟨U,U,U,by decide +kernel,by decide +kernel,U,by decide +kernel,fun _ _ h=>h,U,fun i y h=>?_,U⟩
   match i,h with
   | 0,h=>simp at h;subst h;exact⟨3,U,U,U,U⟩
   | i+1,h=>simp at h
  case ht1=>exact Au AL (Ao De (Ao Gi (As (pv 0)) (pv 1)) Ac) Ac
  case ht2=>exact Au AL (Ao De (Ao Gi (As (pv 0)) (pv 1)) Ac) Ac
  case rd=>
  have cp:=Vn (b+1) ac;refine Aa U ⟨a,Aa U ⟨.inl hq,U,Aa U ?_⟩⟩;refine AN (fun c=>?_) (fun c=>?_)
  . have c':V.int (ws.length:Int)=V.int 0:=Bm c;have e:ac=[]:=Gk (by injection c' with c';exact om);subst e;refine⟨f,U,hS.iK,hS.iK,S,_,.int 0,.int 0,_,_,hS,hc.dn cp,U,U,U,fun v H' g i=>q v H' (g.up cp) ?_⟩;rw[HA];exact i
  have c':¬ V.int (ws.length:Int)=V.int 0:=B8 (Bool.eq_false_iff.mpr c);have c2:ac.length≠0:=fun z=>c' (congrArg V.int om);refine Aa U ⟨a,Aa U ⟨.inl hq,U,Aa U ?_⟩⟩;refine AN (fun c=>?_) (fun c=>?_)
  . have c':V.int (ws.length:Int)=V.int 1:=Bm c;have h1:ac.length=1:=by injection c' with c';exact om
    obtain⟨r,rfl⟩:∃ r,ac=[r]:=List.length_eq_one_iff.mp h1;obtain⟨v,rfl,p,rfl,hp⟩:∃ v,ws=[v]/\iM H r v:=by
     cases hw with
     | cons r1 t1=>cases t1;exact⟨_,U,r1⟩
    refine⟨f,U,hS.iK,_,U,a,_,0,_,U,U,hq,BK (j:=0) rfl,p,_,_,U,U,hp,U,_,U,a,_,0,_,U,U,hq,BK (j:=0) rfl,p,_,_,U,U,hp,U,
     hS.iK,S,_,.int r.1,.str r.2,_,_,hS,hc.dn cp,U,U,U,fun v H' g i=>q v H' (g.up cp) ?_⟩
    rw[Hj];exact i
  have c3:¬ V.int (ws.length:Int)=V.int 1:=B8 (Bool.eq_false_iff.mpr c);have c4:ac.length≠1:=fun z=>c3 (congrArg V.int om);have h2:2<=ac.length:=by exact om
  have hcs:=Pr (b:=b) h2;have eb:(((b+1:Nat):Int) - 1)=((b:Nat):Int):=by exact om
  have hW:=TW (b:=b) om;have ls:∀ sd,(prt ac b sd).length<=1000:=fun sd=>Bu (IS _ _) hz;refine Aa U ⟨_,Aa U ⟨U,_,Aa U ⟨U,⟨om,om,om⟩,?_⟩⟩⟩;dsimp only;rw[bu];refine Aa U ⟨a,U,⟨_,hq⟩,?_⟩;refine Ko (fun r=>decide (AV r.1 b=0)) hS.told hq hw om (fun p r H' Qb hp hQ=>?_) fun D0 H0 ws0 g0 n0 e0 r0=>?_
  . refine Aa U ⟨p,_,Aa U ⟨U,hp,U,Aa U ⟨_,Aa U ⟨U,hW,_,Aa U ⟨U,(by show(0:Int)<2;decide),U,Aa U ?_⟩⟩⟩⟩⟩;rw[Ml];exact hQ
  have hq0:=g0.sq hq;have hw0:=ia.up hw g0.gn;refine Aa U ⟨a,U,⟨_,hq0⟩,?_⟩;refine Ko (fun r=>decide (AV r.1 b=1)) g0.gn.gu hq0 hw0 om (fun p r H' Qb hp hQ=>?_) fun D1 H1 ws1 g1 n1 e1 r1=>?_
  . refine Aa U ⟨p,_,Aa U ⟨U,hp,U,Aa U ⟨_,Aa U ⟨U,hW,_,Aa U ⟨U,(by show(0:Int)<2;decide),U,Aa U ?_⟩⟩⟩⟩⟩;rw[Ml];exact hQ
  have g01:=g0.trans g1;have hS1:=hS.up g01.gn;refine⟨f,U,hS1.iK,Aa U (Aa U (Aa U ⟨_,Aa U ⟨U,?_⟩⟩))⟩;dsimp only;rw[eb];refine⟨S,f,D0,ws0,prt ac b 0,U,hS1,gy.of (g1.lst e0),ia.up r0 g1.gn,ls 0,ok.prt 0,hc.go g01.gn om,fun v2 H2 g2 i2=>?_⟩;have g02:=g01.trans g2;refine Aa U (Aa U (Aa U ⟨_,Aa U ⟨U,?_⟩⟩));dsimp only;rw[eb];refine⟨S,f,D1,ws1,prt ac b 1,U,hS.up g02.gn,gy.of (g2.lst e1),ia.up r1 g2.gn,ls 1,ok.prt 1,hc.go g02.gn om,fun v3 H3 g3 i3=>?_⟩;have g03:=g02.trans g3;have hS3:=hS.up g03.gn;refine⟨hS3.iK,S,_,BQ b (prt ac b 0),BQ b (prt ac b 1),_,_,hS3,hc.go g03.gn om,U,AO g3.gn i2,i3,fun v4 H4 g4 i4=>q v4 H4 ((g03.trans g4).up om) ?_⟩;rw[LI h2];exact i4
structure Txt (K:W.Frag)(mg:gj)(C:Addr):Prop where
 cl:jk K C
 nS:ig K C Ag
 nD:ig K C At
 nH:ig K C El
 j6:mg "Table" = some (.ref C)
noncomputable def fl (f:Addr) (D:Nat) (d:Addr):List (Str×V):=[(Ag,.ref f),(At,.int D),(El,.ref d)]
theorem OC (f:Addr)(D:Nat)(d:Addr):(fl f D d).lookup (Ag:Str)=some (.ref f):=rfl
theorem JX (f:Addr)(D:Nat)(d:Addr):(fl f D d).lookup (At:Str)=some (.int D):=rfl
theorem Lq (f:Addr)(D:Nat)(d:Addr):(fl f D d).lookup (El:Str)=some (.ref d):=rfl
theorem Ym (f:Addr)(D:Nat)(d:Addr):AR El (.ref d) (AR At (.int D) (AR Ag (.ref f) []))=fl f D d:=by
 have e:AR At (.int D) (AR Ag (.ref f) [])=([(Ag,.ref f),(At,.int D)]:List (Str×V)):=by
  show(if (Ag:Str)=At then _ else((Ag:Str),V.ref f) :: [((At:Str),V.int D)])=_;rw[if_neg (by decide +kernel)]
 rw[e];show(if (Ag:Str)=El then _ else((Ag:Str),V.ref f) :: (if (At:Str)=El then _ else((At:Str),V.int D) :: [((El:Str),V.ref d)]))=_;rw[if_neg (by decide +kernel),if_neg (by decide +kernel)];rfl
theorem cN (f:Addr)(D:Nat):(AR At (V.int D) (AR Ag (.ref f) [])).length=2:=by
 have e:AR At (.int D) (AR Ag (.ref f) [])=([(Ag,.ref f),(At,.int D)]:List (Str×V)):=by
  show(if (Ag:Str)=At then _ else((Ag:Str),V.ref f) :: [((At:Str),V.int D)])=_;rw[if_neg (by decide +kernel)]
 rw[e];rfl
def io (C:Addr)(H:Hp)(x d f:Addr)(D:Nat)(kvs:List (Al×V)):Prop:=(∃ dx,H x=some (.ins C dx (fl f D d)))/\H d=some (.dK kvs)
theorem io.up {C:Addr}{d:Addr}(h:io C H x d f D kvs)(g:Gr S n H H'):io C H' x d f D kvs:=by
 obtain⟨⟨dx,h1⟩,h2⟩:=h;exact⟨⟨dx,g.same h1⟩,g.same h2⟩
def Qc (C:Addr):Sp:=fun vs H Q _=>∃ (p dx f:Addr)(D:Nat),vs=[.ref p,.ref f,.int D]/\H p=some (.ins C dx [])/\∀ d H',H d=none->io C H' p d f D []->(∀ b o,H b=some o->b≠p->H' b=some o)->Q .non H'
theorem cf:AA [Ak,Ag,At] [Ak,Ag,At] (Ah Ja):=AD
theorem fO {fd:FuncData}(F:jZ K Cj "Table.__init__" Ja f fd [8])(T:Txt K mg C):iC P w K mg base Bh 1 f fd [Ak,Ag,At] (Qc C):=by
 refine F.ok cf (fun vs H Q E h=>?_) (fun ad A outer s H vs Q E hr h=>?_)
 . obtain⟨p,dx,f,D,rfl,_⟩:=h;rfl
 obtain⟨p,dx,f,D,rfl,hp,k⟩:=h;refine⟨_,Ae (Cs (pv 0) (pv 1) rfl) <| Ae (Cs (pv 0) (pv 2) rfl) <| Ba (Cs (pv 0) NH rfl),?_⟩;refine Aa U (Aa U ⟨p,C,dx,[],U,hp,T.cl,T.nS,(by show 0<1000;decide),?_⟩);refine Aa U (Aa U ⟨p,C,dx,Aa U ⟨Ad,T.cl,T.nD,(by show 1<1000;decide),?_⟩⟩);intro d hd;have npd:p≠d:=Aq Ad hd;have hd0:H d=none:=by rw[Af npd.symm,Af npd.symm] at hd;exact hd
 refine Aa U ⟨p,C,dx,Aa U ⟨(by rw[Af npd,Ad]),T.cl,T.nH,(by rw[cN];decide),?_⟩⟩;refine k d _ hd0 ⟨⟨dx,?_⟩,?_⟩ fun b o e hb=>?_
 . rw[Ad,Ym]
 . rw[Af npd.symm,Ad]
 . have b1:b≠d:=Aq e hd0;rw[Af hb,Af b1,Af hb,Af hb];exact e
def NY:Sp:=fun vs H Q _=>∃ (k:Int)(D:Nat),vs=[.int k,.int D]/\Q (.bl (decide (0<=k/\k<2 ^ D))) H
theorem fC:AA [AH,At] [AH,At] (Ah MV):=AD
theorem XT (F:gp K mg Ix MV):hU P w K mg base 1 Ix [AH,At] NY:=by
 refine F.ok fC (fun _ _ _ _ _ _=>CB fun _ _=>rfl) (fun _ _ _ _ h=>HJ h fun _ _=>rfl) (fun f0 ad A outer s H vs Q E hr h=>?_);refine HD h fun k D hZ=>?_;clear h;obtain⟨rfl,q⟩:=hZ;refine⟨_,Aj (BV (CL Pl (pv 0) Ac) (EF (CL QM (QO Su U0 S0 TM (pv 0)) (pv 1)))),?_⟩;refine Aa U ⟨_,Aa U ⟨U,Aa U ?_⟩⟩;refine AN (fun c=>?_) (fun c=>?_)
 . have h0:(0:Int)<=k:=Bm c;refine Aa U ⟨U,Aa U ⟨U,Aa U ⟨_,Aa U ⟨U,?_⟩⟩⟩⟩;have e:decide (((Builtin.Int.intBits k:Nat):Int)<=(D:Int))=decide (0<=k/\k<2 ^ D):=by
    rw[decide_eq_decide,gJ h0];exact⟨fun z=>⟨h0,z⟩,fun z=>z.2⟩
   show Q (V.bl (decide (((Builtin.Int.intBits k:Nat):Int)<=(D:Int)))) H;rw[e];exact q
 . have h0:¬ (0:Int)<=k:=B8 (Bool.eq_false_iff.mpr c);rw[Bj (fun z=>h0 z.1)] at q;exact q
def LL (C:Addr):Sp:=fun vs H Q _=>∃ (x d f:Addr)(D:Nat)(kvs:List (Al×V))(k:Int),vs=[.ref x,.int k]/\io C H x d f D kvs/\0<=k/\k<2 ^ D/\Q .non H
theorem Xx:AA [Ak,AH] [Ak,AH] (Ah Jf):=AD
theorem Zx (F:gq K C Jj "Table.check" Jf)(T:Txt K mg C)(Fi:hU P w K mg base 1 Ix [AH,At] NY):AF P w K mg base C 2 Jj [Ak,AH] (LL C):=by
 refine F.ok Xx (fun _ _ _ _ _ _=>CB fun _ _=>rfl) (fun _ _ _ _ h=>Do h fun _ _ _ _ _ _=>rfl) (fun f0 ad A outer s H vs Q E hr h=>?_);refine Df h fun x d f D kvs k hZ=>G6 hZ fun eQ gg1 k0 k1 q=>?_;clear hZ h;subst eQ;obtain⟨⟨dx,h1⟩,h2⟩:=gg1;refine⟨_,Ba (Az (Dg (Ca (Ai Fi hr (AG (pv 1) (Bi (pv 0) rfl))))) BY AB),?_⟩;refine Aa U (Aa U ⟨x,C,dx,_,Aa U ⟨h1,T.cl,T.nD,JX _ _ _,k,D,U,Aa U ?_⟩⟩);rw[Be (show 0<=k/\k<2 ^ D from⟨k0,k1⟩)];exact AK q
def TZ (C:Addr):Sp:=fun vs H Q _=>∃ (x d f:Addr)(D:Nat)(kvs:List (Al×V))(k:Int)(v:V),vs=[.ref x,.int k,v]/\io C H x d f D kvs/\0<=k/\k<2 ^ D/\kvs.length<sizeLine/\Q .non (Ab H d (.dK (BS kvs (.inl k) v)))
theorem bo:AA [Ak,AH,Eo] [Ak,AH,Eo] (Ah IQ):=AD
theorem gQ (F:gq K C "put" "Table.put" IQ)(T:Txt K mg C)(Fc:AF P w K mg base C 2 Jj [Ak,AH] (LL C)):AF P w K mg base C 3 "put" [Ak,AH,Eo] (TZ C):=by
 refine F.ok bo (fun _ _ _ _ _ _=>Bx fun _ _ _=>rfl) (fun _ _ _ _ h=>Fx h fun _ _ _ _ _ _ _=>rfl) (fun f0 ad A outer s H vs Q E hr h=>?_);refine EY h fun x d f D kvs k v hZ=>G9 hZ fun eQ hT k0 k1 hz q=>?_;clear hZ h;subst eQ;obtain⟨⟨dx,h1⟩,h2⟩:=id hT;have hu:=Hq hr;refine⟨_,Ae (BT (Ct Fc (pv 0) T.cl hr (Ar (pv 1)))) <| Ba (QR hu (Bi (pv 0) rfl) (pv 1) (pv 2) rfl),?_⟩;refine Aa U ⟨x,dx,Aa U ⟨h1,U,Aa U ⟨x,d,f,D,kvs,k,U,hT,k0,k1,?_⟩⟩⟩;exact Aa U (Aa U ⟨x,C,dx,_,Aa U ⟨h1,T.cl,T.nH,Lq _ _ _,Aa U ⟨d,Aa U ⟨jG.k (k:=.inl k) h2 hz,q⟩⟩⟩⟩)
def Rc (C:Addr):Sp:=fun vs H Q _=>∃ (S:Sl)(x d f:Addr)(D:Nat)(kvs:List (Al×V))(ac:List Rw),vs=[.ref x]/\io C H x d f D kvs/\C3 S H/\jf D kvs/\kvs.length<64/\iw kvs ac/\
 ∀ l ws H',Gr S 0 H H'->H l=none->H' l=some (.lst ws)->ia H' ac ws->Q (.ref l) H'
theorem fm:AA [Ak] [Ak] (Ah II):=AD
theorem YJ (t:C3 S H)(h:∀ b o,H b=some o->H' b=some o):Gr S 0 H H':=⟨⟨fun b o e _=>h b o e,fun d e=>by
 obtain⟨kvs,q⟩:=t d e;exact⟨kvs,[],q,by rw[E8];exact h _ _ q,Ay _,fun z=>by simpa using z⟩⟩,fun b o e _=>h b o e⟩
theorem TR {H':Hp}:∀ {as:List Addr}{ac:List Rw},Paired (fun a (r:Int×V)=>H' a=some (.tup [.int r.1,r.2])) as (ac.map fun r=>(r.1,V.str r.2))->ia H' ac (as.map V.ref)
 | [],[],.nil=>.nil
 | a :: as,r :: ac,.cons h t=>.cons ⟨a,U,h⟩ (TR t)
theorem aX (F:gq K C Dl "Table.rows" II)(T:Txt K mg C)(ms:mg "sorted" = none):AF P w K mg base C 1 Dl [Ak] (Rc C):=by
 refine F.ok fm (fun _ _ _ _ _ _=>CM fun _=>rfl) (fun _ _ _ _ h=>Fx h fun _ _ _ _ _ _ _=>rfl) (fun f0 ad A outer s H vs Q E hr h=>?_);refine EY h fun S x d f D kvs ac hZ=>Ey hZ fun eQ gg1 ts hw hz hs q=>?_;clear hZ h;subst eQ;obtain⟨⟨dx,h1⟩,h2⟩:=gg1;refine⟨_,Aj (B7 (gP rfl) rfl ms Q4 (Ar (QO Pe Ur PySem.F.type_dict_items ZH (Bi (pv 0) rfl)))),?_⟩;refine Aa U ⟨x,C,dx,_,Aa U ⟨h1,T.cl,T.nH,Lq _ _ _,.inr (.inr (.inl ⟨U,.inl ⟨_,h2⟩⟩)),d,kvs,U,U,h2,fun p hp=>?_⟩⟩;have g1:Gr S 0 H (Ab H p (.frz (Lu d) (.own 0))):=.new ts hp;refine⟨p,d,kvs,U,Ad,g1.same h2,hw.ints,hz,fun l as rs H' hx hl hl' pr pw pm=>?_⟩;have e:=hs.uniq pw pm;subst e;have g2:Gr S 0 _ H':=YJ g1.gn.gu hx;exact q l _ H' (g1.trans g2) (g1.free hl) hl' (TR pr)
def jt (H:Hp):List Rw->V->Prop
 | [],v=>v = .non
 | r :: _,v=>iM H r v
theorem jt.up (h:jt H ac v)(g:Gn S n H H'):jt H' ac v:=by
 cases ac with
 | nil=>exact h
 | cons r t=>exact iM.up h g
def jb (S:Sl)(H:Hp)(p r:Addr)(wy:List Tm×List Rw):Prop:=∃ os ev,H p=some (.tup [.ref r,ev])/\H r=some (.lst os)/\Bs S H wy.1 os/\jt H wy.2 ev
def RY (K:W.Frag)(mg:gj)(C:Addr):Sp:=fun vs H Q _=>∃ (S:Sl)(x d f:Addr)(D:Nat)(kvs:List (Al×V))(ac:List Rw)(k:Int),vs=[.ref x,.int k]/\io C H x d f D kvs/\gx K mg AU S H f/\jf D kvs/\kvs.length<64/\iw kvs ac/\D<=16/\
 0<=k/\k<2 ^ D/\iJ S H (DB D ac k)/\∀ p r H',Gr S (DB D ac k) H H'->H p=none->H r=none->jb S H' p r (Bd D ac k)->Q (.ref p) H'
theorem scTW:AA [Ak,AH,"others",Dl,FV,He] [Ak,AH] (Ah JD):=AD
theorem bF (F:gq K C Dt "Table.way" JD)(T:Txt K mg C)(Fc:AF P w K mg base C 2 Jj [Ak,AH] (LL C))(Fr:AF P w K mg base C 1 Dl [Ak] (Rc C))
 (Ft:hU P w K mg base 19 IJ [Ag,Dl,JC] (IN K mg))(Fp:hU P w K mg base 1 JU [Dl,FV,He] (PL K))(ml:mg B0=none) :
 AF P w K mg base C 20 Dt [Ak,AH] (RY K mg C):=by
 refine F.ok scTW (fun _ _ _ _ _ _=>CB fun _ _=>rfl) (fun _ _ _ _ h=>Ss h fun _ _ _ _ _ _ _ _=>rfl) (fun f0 ad A outer s H vs Q E hr h=>?_);refine R6 h fun S x d f D kvs ac k hZ=>Gw hZ fun eQ hT hS hw hz hs hD k0 k1 hc q=>?_;clear hZ h;subst eQ;obtain⟨⟨dx,h1⟩,h2⟩:=id hT;have nd:=scTW.nd;refine⟨_,Ae (BT (Ct Fc (pv 0) T.cl hr.m (Ar (pv 1)))) <|
  Ae (Ax 2 nd (Ci CP)) <|
  Ae (Ax 3 nd (Ky Fr (pv 0) T.cl hr.m)) <|
  Ae (Ax 4 nd (Bi (pv 0) rfl)) <|
  Ae (MD PassesOwn.never (Au Fg (AW ml (pv 3)) Ac) <|
   Ae (Ax 4 nd (Ao CC (pv 4) Ac)) <|
   Ae (Ax 5 nd (Ao P5 (Ao K8 (pv 1) (pv 4)) Ac)) <|
   Ae (BT (Cv Ec DX DZ DM (pv 2) (Ar (Ai Ft hr (An (Bi (pv 0) rfl) (Ai Fp hr.m (An (pv 3) (pv 4) (Ao CC Ac (pv 5)))) (pv 4)))))) <|
   Ba (Ax 3 nd (Ai Fp hr.m (An (pv 3) (pv 4) (pv 5))))) <|
  Ae (Az (Au AL (AW ml (pv 3)) Ac) (Aj (Bp (AG (pv 2) Db))) AB) <|
  Aj (Bp (AG (pv 2) (Bw BP (pv 3) Ac))),?_⟩
 refine Aa U ⟨x,dx,Aa U ⟨h1,U,Aa U ⟨x,d,f,D,kvs,k,U,hT,k0,k1,?_⟩⟩⟩;refine⟨(Dk),fun r hr0=>?_⟩;have g1:Gr S 0 H (Ab H r (.lst [])):=.new hS.told hr0;have hT1:=hT.up g1;obtain⟨⟨dx1,a1⟩,a2⟩:=id hT1;refine Aa U ⟨x,dx1,Aa U ⟨a1,U,S,x,d,f,D,kvs,ac,U,hT1,g1.gn.gu,hw,hz,hs,fun l ws H1 g2 nl el rl=>?_⟩⟩;have g12:=g1.trans g2;have hT2:=hT.up g12;obtain⟨⟨dx2,b1⟩,b2⟩:=id hT2;refine Aa U ⟨x,C,dx2,_,Aa U ⟨b1,T.cl,T.nD,JX _ _ _,?_⟩⟩;have nrl:l≠r:=by rintro rfl;rw[Ad] at nl;cases nl
 have lrows:=hs.len;refine NP (fun σ H'=>∃ (b n:Nat) (a:Addr) (ws:List V) (rws:List Rw) (ts:List Tm) (os:List V) (o5:Option V),σ=[some (.ref x),some (.int k),some (.ref r),some (.ref a),some (.int b),o5]/\b<=D/\Gr S n H H'/\n+DB b rws k<=DB D ac k/\
  H' a=some (.lst ws)/\a≠r/\ia H' rws ws/\jO b rws/\rws.length<=1000/\H' r=some (.lst os)/\Bs S H' ts os/\ts++(Bd b rws k).1=(Bd D ac k).1/\(Bd b rws k).2=(Bd D ac k).2)
  (fun σ _=>match σ with | [_,_,_,_,some (.int b),_]=>b.toNat | _=>0) ⟨D,0,l,ws,ac,[],[],none,U,Ay _,g12.up om,om,el,nrl,rl,hs.kM hw,om,g2.lst Ad,.nil,U,U⟩ ?_ ?_
 . rintro σ H' ⟨b,n,a,ws,rws,ts,os,o5,rfl,hb,g,hn,ha,nar,ra,ok,ah,hro,it,e1,e2⟩;have hl:=Bq ra;refine Aa U ⟨a,ws,U,.inl (gy.of ha),_,Aa U ⟨U,Aa U ?_⟩⟩;refine AN (fun c=>?_) (fun c=>?_)
   . have c':(1:Int)<(ws.length:Int):=Bm c;have h2':2<=rws.length:=by exact om
     obtain⟨b',rfl⟩:∃ b',b=b'+1:=by
      cases b with
      | zero=>have:=ok.zero;exact om
      | succ b'=>exact⟨b',U⟩
     rw[PP h2'] at hn;rw[FL h2'] at e1 e2;have eb:(((b'+1:Nat):Int) - 1)=((b':Nat):Int):=by exact om
     refine Aa U ⟨_,Aa U ⟨U,?_⟩⟩;dsimp only;rw[eb];refine Aa U (Aa U ⟨_,Aa U ⟨U,(by show(0:Int)<=(b':Int);exact om),_,Aa U ⟨U,?_⟩⟩⟩);dsimp only;rw[MY];have hS':=hS.up g.gn;obtain⟨⟨dx3,c1⟩,c2⟩:=id (hT.up g);have ls:∀ sd,(prt rws b' sd).length<=1000:=fun sd=>Bu (IS _ _) ah;refine Aa U ⟨.inl ⟨U,_,gy.of hro⟩,Aa U ⟨x,C,dx3,_,Aa U ⟨c1,T.cl,T.nS,OC _ _ _,Aa U (Aa U (Aa U ⟨_,Aa U ⟨U,S,a,ws,rws,b',1 - AV k b',U,g.gn.gu,gy.of ha,ra,ah,fun D1 H1 ws1 g1 n1 l1 r1=>Aa U ?_⟩⟩))⟩⟩⟩;have gg1:=g.trans g1;refine⟨b',om,S,f,D1,ws1,prt rws b' (1 - AV k b'),U,hS.up gg1.gn,gy.of l1,r1,ls _,ok.prt _,hc.go gg1.gn om,fun v2 H2 g2 i2=>?_⟩;have gg2:=gg1.trans g2;have g12':=g1.trans g2;have hro2:=g12'.lst hro;have los:=Bq it;have lts:ts.length<=16:=by
      have z:=congrArg List.length e1;rw[Cf] at z;have:=Hv D ac k;exact om
     refine⟨r,os,v2,U,U,hro2,by rw[Bf];exact om,?_⟩;have g3:Gn S 0 H2 (Ab H2 r (.lst (os++[v2]))):=Gn.chg g2.gn.gu hro2 rfl (fun _ e=>nomatch e);have gg3:Gr S _ H (Ab H2 r (.lst (os++[v2]))):=gg2.own hr0;have ha3:Ab H2 r (.lst (os++[v2])) a=some (.lst ws):=by rw[Af nar];exact g12'.lst ha
     refine Aa U (Aa U (Aa U ⟨S,a,ws,rws,b',AV k b',U,gg3.gn.gu,gy.of ha3,ia.up (ia.up ra g12'.gn) g3,ah,fun D4 H4 ws4 g4 n4 l4 r4=>?_⟩));have gg4:=gg3.trans g4;refine⟨⟨b',_,D4,ws4,prt rws b' (AV k b'),ts++[BQ b' (prt rws b' (1 - AV k b'))],os++[v2],Aa U ⟨om,gg4,om,l4,?_,r4,ok.prt _,ls _,g4.lst Ad,?_,?_,e2⟩⟩,?_⟩
     . rintro rfl;rw[Ad] at n4;cases n4
     . exact AQ g4.gn (Dy (AQ g3 (AQ g12'.gn it)) (.cons (AO g3 i2) .nil))
     . rw[JO];exact e1
     . show((b':Nat):Int).toNat<(((b'+1:Nat)):Int).toNat;exact om
   . have c':¬ (1:Int)<(ws.length:Int):=B8 (Bool.eq_false_iff.mpr c);rw[FC (show rws.length<=1 by exact om)] at e1 e2;have e1:ts=(Bd D ac k).1:=by simpa using e1
     have e2:rws=(Bd D ac k).2:=e2;have fin:∀ (p:Addr) (ev:V),H' p=none->jt H' rws ev->Q (.ref p) (Ab H' p (.tup [.ref r,ev])):=fun p ev hp he=>by
      have g5:Gr S 0 H' (Ab H' p (.tup [.ref r,ev])):=.new g.gn.gu hp;refine q p r _ ((g.trans g5).up om) (g.free hp) hr0 ⟨os,ev,Ad,g5.lst hro,?_,?_⟩
      . rw[<- e1];exact AQ g5.gn it
      . rw[<- e2];exact he.up g5.gn
     refine Aa U ⟨a,ws,U,.inl (gy.of ha),U,Aa U ?_⟩;refine AN (fun c=>?_) (fun c=>?_)
     . have c2:V.int (ws.length:Int)=V.int 0:=Bm c;have e:rws=[]:=Gk (by injection c2 with c2;exact om);refine Aa U ⟨(Cd),fun p hp=>fin p .non hp ?_⟩;rw[e];rfl
     . have c2:¬ V.int (ws.length:Int)=V.int 0:=B8 (Bool.eq_false_iff.mpr c);have c3:ws.length≠0:=fun z=>c2 (congrArg V.int om);obtain⟨rw0,er⟩:∃ r0,rws=[r0]:=List.length_eq_one_iff.mp om;subst er;obtain⟨v,ew,hv⟩:∃ v,ws=[v]/\iM H' rw0 v:=by
        cases ra with
        | cons r1 t1=>cases t1;exact⟨_,U,r1⟩
       subst ew;exact Aa U (Aa U ⟨a,_,0,Aa U ⟨U,gy.of ha,BK (j:=0) rfl,(Cd),fun p hp=>fin p v hp hv⟩⟩)
 . rintro σ H' Q1 Q2 hq ⟨v,e1,a,w2,e2,e3,i,j,e4,e5,c,e6,z⟩;exact⟨v,e1,a,w2,e2,e3,i,j,e4,e5,c,e6,hq _ _ z⟩
def VW (K:W.Frag)(mg:gj):Sp:=fun vs H Q _=>∃ (S:Sl)(f a:Addr)(ws:List V)(D:Nat)(ac:List Rw)(k:Int),vs=[.ref f,.ref a,.int D,.int k]/\gx K mg AU S H f/\H a=some (.lst ws)/\ia H ac ws/\ac.length<=1000/\jO D ac/\D<=16/\
 iJ S H (DB D ac k)/\∀ p r H',Gr S (DB D ac k) H H'->H p=none->H r=none->jb S H' p r (Bd D ac k)->Q (.ref p) H'
theorem scLW:AA [Bo,E5,BO,DA,"_law_others",Hx,HU] [Bo,E5,BO,DA] (Ah IG):=AD
theorem WJ (F:gp K mg Iu IG)(Ft:hU P w K mg base 19 Iy [Bo,E5,Hx] (IN K mg))(ml:mg B0=none) :
 hU P w K mg base 20 Iu [Bo,E5,BO,DA] (VW K mg):=by
 refine F.ok scLW (fun _ _ _ _ _ _=>Ho fun _ _ _ _=>rfl) (fun _ _ _ _ h=>Fx h fun _ _ _ _ _ _ _=>rfl) (fun f0 ad A outer s H vs Q E hr h=>?_);refine EY h fun S f a0 ws0 D ac k hZ=>Qz hZ fun eQ hS ha0 ra0 hlen0 ok0 hD hc q=>?_;clear hZ h;subst eQ;have nd:=scLW.nd;have hun:=hr.un;refine' ⟨_,Ae (Ax 4 nd (Ci CP)) <|
  Ae (Ax 5 nd (pv 2)) <|
  Ae (MD PassesOwn.never (Au Fg (AW ml (pv 1)) Ac) <|
   Ae (Ax 5 nd (Ao CC (pv 5) Ac)) <|
   Ae (GY (i:=6) nd rfl (Or.inr rfl) (Ao Li Ac (pv 5))) <|
   Ae (BT (Cv Ec DX DZ DM (pv 4) (Ar (Ai Ft hr (An (pv 0) (JK (ys:=[HU,DA]) (js:=[6,3]) ?ok1 (EB (pv 1)) (fun _ _ _=>L8 ?ht1) (fun _ _ _=>pv 0)) (pv 5)))))) <|
   Ba (GP (iz:=1) (ys:=[HU,DA]) (js:=[6,3]) ?ok2 (EB (pv 1)) (fun _ _ _=>L8 ?ht2) (fun _ _ _=>pv 0) nd rfl (Or.inl rfl) (Or.inl rfl) rfl)) <|
  Ae (Az (Au Xp (pv 1) (Ci CP)) (Aj (Bp (AG (pv 4) Db))) AB) <|
  Aj (Bp (AG (pv 4) (Bw BP (pv 1) Ac))),?rd⟩
 case ok1=>
  refine⟨U,U,U,by decide +kernel,by decide +kernel,U,by decide +kernel,fun _ _ h=>SD (by decide +kernel) h,U,fun i y h=>?_,U⟩
  match i,h with
  | 0,h=>simp at h;subst h;exact⟨6,U,U,U,U⟩
  | 1,h=>simp at h;subst h;exact⟨3,U,U,U,U⟩
  | i+2,h=>simp at h
 case ok2=>
  refine⟨U,U,U,by decide +kernel,by decide +kernel,U,by decide +kernel,fun _ _ h=>SD (by decide +kernel) h,U,fun i y h=>?_,U⟩
  match i,h with
  | 0,h=>simp at h;subst h;exact⟨6,U,U,U,U⟩
  | 1,h=>simp at h;subst h;exact⟨3,U,U,U,U⟩
  | i+2,h=>simp at h
 case ht1=>exact Au Qx (Ao De (Ao Gi (As (pv 0)) (pv 1)) Ac) (Ao De (Ao Gi (pv 2) (pv 1)) Ac)
 case ht2=>exact Au AL (Ao De (Ao Gi (As (pv 0)) (pv 1)) Ac) (Ao De (Ao Gi (pv 2) (pv 1)) Ac)
 case rd=>
 refine⟨(Dk),fun r hr0=>?_⟩;have g1:Gr S 0 H (Ab H r (.lst [])):=.new hS.told hr0;have nrl:a0≠r:=Aq ha0 hr0;refine Aa U ?_;refine NP (fun σ H'=>∃ (b n:Nat) (a:Addr) (ws:List V) (rws:List Rw) (ts:List Tm) (os:List V) (o6:Option V),σ=[some (.ref f),some (.ref a),some (.int D),some (.int k),some (.ref r),some (.int b),o6]/\b<=D/\Gr S n H H'/\n+DB b rws k<=DB D ac k/\
  H' a=some (.lst ws)/\a≠r/\ia H' rws ws/\jO b rws/\rws.length<=1000/\H' r=some (.lst os)/\Bs S H' ts os/\ts++(Bd b rws k).1=(Bd D ac k).1/\(Bd b rws k).2=(Bd D ac k).2)
  (fun σ _=>match σ with | [_,_,_,_,_,some (.int b),_]=>b.toNat | _=>0) ⟨D,0,a0,ws0,ac,[],[],none,U,Ay _,g1,om,g1.lst ha0,nrl,ia.up ra0 g1.gn,ok0,hlen0,Ad,.nil,U,U⟩ ?_ ?_
 . rintro σ H' ⟨b,n,a,ws,rws,ts,os,o6,rfl,hb,g,hn,ha,nar,ra,ok,ah,hro,it,e1,e2⟩;have hl:=Bq ra;refine Aa U ⟨a,ws,U,.inl (gy.of ha),_,Aa U ⟨U,Aa U ?_⟩⟩;refine AN (fun c=>?_) (fun c=>?_)
   . have c':(1:Int)<(ws.length:Int):=Bm c;have h2':2<=rws.length:=by exact om
     obtain⟨b',rfl⟩:∃ b',b=b'+1:=by
      cases b with
      | zero=>have:=ok.zero;exact om
      | succ b'=>exact⟨b',U⟩
     rw[PP h2'] at hn;rw[FL h2'] at e1 e2;have eb:(((b'+1:Nat):Int) - 1)=((b':Nat):Int):=by exact om
     have hW:=TW (b:=b') om;refine Aa U ⟨_,Aa U ⟨U,?_⟩⟩;dsimp only;rw[eb];refine Aa U ⟨_,Aa U ⟨U,⟨om,om,om⟩,?_⟩⟩;dsimp only;rw[show(1:Int) * 2 ^ ((b':Nat):Int).toNat=2 ^ b' by rw[Km];rfl];have hS':=hS.up g.gn;have ls:∀ sd,(prt rws b' sd).length<=1000:=fun sd=>Bu (IS _ _) ah;refine Aa U ⟨.inl ⟨U,_,gy.of hro⟩,Aa U (Aa U ⟨a,U,⟨_,gy.of ha⟩,?_⟩)⟩;refine Ko (fun r=>!decide (AV r.1 b'=AV k b')) g.gn.gu (gy.of ha) ra om (fun p r H' Qb hp hQ=>?_) fun D1 H1 ws1 g1 n1 l1 r1=>?_
     . refine Aa U ⟨p,_,Aa U ⟨U,hp,U,Aa U ⟨_,Aa U ⟨U,hW,_,Aa U ⟨U,(by show(0:Int)<2;decide),Aa U (Aa U ⟨_,Aa U ⟨U,hW,_,Aa U ⟨U,(by show(0:Int)<2;decide),U,Aa U ?_⟩⟩⟩)⟩⟩⟩⟩⟩;rw[Ml];exact hQ
     rw[dq] at r1;have gg1:=g.trans g1;refine Aa U ⟨b',om,S,f,D1,ws1,prt rws b' (1 - AV k b'),U,hS.up gg1.gn,gy.of l1,r1,ls _,ok.prt _,hc.go gg1.gn om,fun v2 H2 g2 i2=>?_⟩;have gg2:=gg1.trans g2;have g12':=g1.trans g2;have hro2:=g12'.lst hro;have los:=Bq it;have lts:ts.length<=16:=by
      have z:=congrArg List.length e1;rw[Cf] at z;have:=Hv D ac k;exact om
     refine⟨r,os,v2,U,U,hro2,by rw[Bf];exact om,?_⟩;have g3:Gn S 0 H2 (Ab H2 r (.lst (os++[v2]))):=Gn.chg g2.gn.gu hro2 rfl (fun _ e=>nomatch e);have gg3:Gr S _ H (Ab H2 r (.lst (os++[v2]))):=gg2.own hr0;have ha3:Ab H2 r (.lst (os++[v2])) a=some (.lst ws):=by rw[Af nar];exact g12'.lst ha
     refine Aa U ⟨a,U,⟨_,gy.of ha3⟩,?_⟩;refine Ko (fun r=>decide (AV r.1 b'=AV k b')) gg3.gn.gu (gy.of ha3) (ia.up (ia.up ra g12'.gn) g3) om (fun p r H' Qb hp hQ=>?_) fun D4 H4 ws4 g4 n4 l4 r4=>?_
     . refine Aa U ⟨p,_,Aa U ⟨U,hp,U,Aa U ⟨_,Aa U ⟨U,hW,_,Aa U ⟨U,(by show(0:Int)<2;decide),Aa U (Aa U ⟨_,Aa U ⟨U,hW,_,Aa U ⟨U,(by show(0:Int)<2;decide),U,Aa U ?_⟩⟩⟩)⟩⟩⟩⟩⟩;rw[Ml];exact hQ
     have gg4:=gg3.trans g4;refine⟨⟨b',_,D4,ws4,prt rws b' (AV k b'),ts++[BQ b' (prt rws b' (1 - AV k b'))],os++[v2],Aa U ⟨om,gg4,om,l4,?_,r4,ok.prt _,ls _,g4.lst Ad,?_,?_,e2⟩⟩,?_⟩
     . rintro rfl;rw[Ad] at n4;cases n4
     . exact AQ g4.gn (Dy (AQ g3 (AQ g12'.gn it)) (.cons (AO g3 i2) .nil))
     . rw[JO];exact e1
     . show((b':Nat):Int).toNat<(((b'+1:Nat)):Int).toNat;exact om
   . have c':¬ (1:Int)<(ws.length:Int):=B8 (Bool.eq_false_iff.mpr c);rw[FC (show rws.length<=1 by exact om)] at e1 e2;have e1:ts=(Bd D ac k).1:=by simpa using e1
     have e2:rws=(Bd D ac k).2:=e2;refine Aa U ⟨(Dk),fun p0 hp0=>?_⟩;have g6:Gr S 0 H' (Ab H' p0 (.lst [])):=.new g.gn.gu hp0;have fin:∀ (p:Addr) (ev:V),Ab H' p0 (.lst []) p=none->jt H' rws ev->Q (.ref p) (Ab (Ab H' p0 (.lst [])) p (.tup [.ref r,ev])):=fun p ev hp he=>by
      have g5:Gr S 0 _ (Ab (Ab H' p0 (.lst [])) p (.tup [.ref r,ev])):=.new g6.gn.gu hp;have g56:=g6.trans g5;refine q p r _ ((g.trans g56).up om) ((g.trans g6).free hp) hr0 ⟨os,ev,Ad,g56.lst hro,?_,?_⟩
      . rw[<- e1];exact AQ g56.gn it
      . rw[<- e2];exact he.up g56.gn
     refine⟨a,p0,ws,[],U,U,gy.of (g6.lst ha),gy.of Ad,?_,?_⟩
     . show(A.deeper (PyProof.Rows.envOfC Iu (Ah IG) s.heap.objs.size f0 ad)).units+1<cLine;exact om
     match ws,ra with
     | [],.nil=>
      refine .inr ⟨0,U,fun i u v h=>by simp at h,?_,Aa U ?_⟩
      . show(A.deeper (PyProof.Rows.envOfC Iu (Ah IG) s.heap.objs.size f0 ad)).units+0+1<cLine;exact om
      refine AC ?_;exact Aa U ⟨(Cd),fun p hp=>fin p .non hp rfl⟩
     | v :: t,.cons hv ht=>
      refine .inl ⟨by simp,Aa U ?_⟩;refine AK ?_;exact Aa U (Aa U ⟨a,_,0,Aa U ⟨U,gy.of (g6.lst ha),BK (j:=0) rfl,(Cd),fun p hp=>fin p v hp hv⟩⟩)
 . rintro σ H' Q1 Q2 hq ⟨v,e1,a,w2,e2,e3,i,j,e4,e5,c,e6,z⟩;exact⟨v,e1,a,w2,e2,e3,i,j,e4,e5,c,e6,hq _ _ z⟩
theorem S5 {X:Cx}:CY X (.type "dict") (fun xs H Q=>∃ a kvs,xs=[.ref a]/\H a=some (.dK kvs)/\∀ p,H p=none->Q (.ref p) (Ab H p (.dK kvs))):=by
 intro aa s σ H xs us Q I r h;obtain⟨a,kvs,rfl,ha,q⟩:=h;obtain⟨u,rfl,ru⟩:=CT r;obtain rfl:u=Value.ref a:=ru;exact Xg I (.inl ha) fun p s' hp I'=>⟨.ref p,_,I',U,q p hp⟩
theorem bJ (f:Addr)(D:Nat)(d e:Addr):AR El (.ref e) (fl f D d)=fl f D e:=by
 show(if (Ag:Str)=El then _ else((Ag:Str),V.ref f) :: (if (At:Str)=El then _ else((At:Str),V.int D) :: (if (El:Str)=El then((El:Str),V.ref e) :: [] else _)))=_;rw[if_neg (by decide +kernel),if_neg (by decide +kernel),if_pos rfl];rfl
theorem Yc:AA [Ag,At,DO] [Ag,At,DO] (Ah Mo):=AD
theorem bY (F:gp K mg Ku Mo)(Fl:CV P w K mg base Bh 1 (DK K mg AU)):hU P w K mg base 2 Ku [Ag,At,DO] (Dz K mg Cy):=by
 refine F.ok Yc (fun _ _ _ _ _ _=>Bx fun _ _ _=>rfl) (fun _ _ _ _ h=>Do h fun _ _ _ _ _ _=>rfl) (fun f ad A outer s H vs Q E hr h=>?_);refine Df h fun S f t1 t2 v1 v2 hZ=>G9 hZ fun eQ hS hc i1 i2 q=>?_;clear hZ h;subst eQ;refine⟨_,Aj (C2 (i:=0) Fl hr BD rfl (Or.inl rfl) (An AT (pv 1) (pv 2))),?_⟩;exact⟨f,U,hS.iK,Aa U (Aa U ⟨hS.iK,S,_,t1,t2,_,_,hS,hc,U,i1,i2,q⟩)⟩
noncomputable abbrev CQ (D:Nat) (ac:List Rw):Tm:=.nd Cy (.int (D:Int)) (BQ D ac)
def QE (K:W.Frag)(mg:gj)(C:Addr):Sp:=fun vs H Q _=>∃ (S:Sl)(x d f:Addr)(D:Nat)(kvs:List (Al×V))(ac:List Rw),vs=[.ref x]/\io C H x d f D kvs/\gx K mg AU S H f/\jf D kvs/\kvs.length<64/\iw kvs ac/\D<=16/\iJ S H (C1 D ac+1)/\
 ∀ v H',Gr S (C1 D ac+1) H H'->AE S H' (CQ D ac) v->Q v H'
theorem bf:AA [Ak] [Ak] (Ah Jn):=AD
theorem bz (F:gq K C Br "Table.head" Jn)(T:Txt K mg C)(Fs:hU P w K mg base 2 Ku [Ag,At,DO] (Dz K mg Cy))(Ft:hU P w K mg base 19 IJ [Ag,Dl,JC] (IN K mg))(Mr:AF P w K mg base C 1 Dl [Ak] (Rc C)):AF P w K mg base C 20 Br [Ak] (QE K mg C):=by
 refine F.ok bf (fun _ _ _ _ _ _=>CM fun _=>rfl) (fun _ _ _ _ h=>Fx h fun _ _ _ _ _ _ _=>rfl) (fun f0 ad A outer s H vs Q E hr h=>?_);refine EY h fun S x d f D kvs ac hZ=>Qz hZ fun eQ hT hS hw hz hs D16 hc q=>?_;clear hZ h;subst eQ;obtain⟨⟨dx,h1⟩,h2⟩:=id hT;refine⟨_,Aj (Ai Fs hr.m (An (Bi (pv 0) rfl) (Bi (pv 0) rfl) (Ai Ft hr (An (Bi (pv 0) rfl) (Ky Mr (pv 0) T.cl hr.m) (Bi (pv 0) rfl))))),?_⟩;refine Aa U ⟨x,C,dx,_,Aa U ⟨h1,T.cl,T.nS,OC _ _ _,Aa U ⟨x,C,dx,_,Aa U ⟨h1,T.cl,T.nD,JX _ _ _,Aa U ⟨x,C,dx,_,Aa U ⟨h1,T.cl,T.nS,OC _ _ _,Aa U ⟨x,dx,Aa U ⟨h1,U,?_⟩⟩⟩⟩⟩⟩⟩⟩;refine⟨S,x,d,f,D,kvs,ac,U,hT,hS.told,hw,hz,hs,fun l ws H1 g1 nl el rl=>?_⟩;have h11:=g1.same h1;refine Aa U ⟨x,C,dx,_,Aa U ⟨h11,T.cl,T.nD,JX _ _ _,D,D16,S,f,l,ws,ac,U,hS.up g1.gn,gy.of el,rl,?_,hs.kM hw,hc.go g1.gn om,fun v H2 g2 i2=>?_⟩⟩
 . have:=hs.len;exact om
 have g12:=g1.trans g2;exact⟨S,f,.int (D:Int),_,_,Aa U ⟨hS.up g12.gn,hc.go g12.gn om,U,i2,fun v3 H3 g3 i3=>q v3 H3 ((g12.trans g3).up om) i3⟩⟩
def Tz (C:Addr):Sp:=fun vs H Q _=>∃ (x d f:Addr)(D:Nat)(kvs:List (Al×V)),vs=[.ref x]/\io C H x d f D kvs/\∀ y e H',io C H' y e f D kvs->(∀ b o,H b=some o->H' b=some o)->H y=none->H e=none->Q (.ref y) H'
theorem scTw:AA [Ak,F9] [Ak] (Ah Ir):=AD
theorem Y8 (F:gq K C "twin" "Table.twin" Ir)(T:Txt K mg C)(M:Mk K C fI)(GI:iC P w K mg base Bh 1 fI fdI [Ak,Ag,At] (Qc C))(bI:iq K fdI [Ak,Ag,At] [])(md:mg "dict" = none):AF P w K mg base C 3 "twin" [Ak] (Tz C):=by
 refine F.ok scTw (fun _ _ _ _ _ _=>CM fun _=>rfl) (fun _ _ _ _ h=>DS h fun _ _ _ _ _=>rfl) (fun f0 ad A outer s H vs Q E hr h=>?_);refine DQ h fun x d f D kvs hZ=>Ez hZ fun eQ gg1 q=>?_;clear hZ h;subst eQ;obtain⟨⟨dx,h1⟩,h2⟩:=gg1;have nd:=scTw.nd;refine⟨_,Ae (Ax 1 nd (P9 M GI hr rfl T.j6 bI .nil BD (AG (Bi (pv 0) rfl) (Bi (pv 0) rfl)))) <|
  Ae (Cs (pv 1) (Gf S5 rfl md P0 (Ar (Bi (pv 0) rfl))) rfl) <|
  Aj (pv 1),?_⟩
 refine Aa U ⟨x,C,dx,_,Aa U ⟨h1,T.cl,T.nS,OC _ _ _,Aa U ⟨x,C,dx,_,Aa U ⟨h1,T.cl,T.nD,JX _ _ _,fun y dy ny ndy ney=>⟨y,dy,f,D,U,Ad,fun e0 H1 ne0 T1 k1=>⟨U,?_⟩⟩⟩⟩⟩⟩;have all1:∀ b o,H b=some o->H1 b=some o:=fun b o h=>k1 b o (by rw[Af (Aq h ny),Af (Aq h ndy)];exact h) (Aq h ny);obtain⟨⟨dy1,hy1⟩,he1⟩:=T1;refine Aa U ⟨x,C,dx,_,Aa U ⟨all1 _ _ h1,T.cl,T.nH,Lq _ _ _,d,kvs,U,all1 _ _ h2,fun e he=>?_⟩⟩;have nye:y≠e:=Aq hy1 he;have hy2:Ab H1 e (.dK kvs) y=some (.ins C dy1 (fl f D e0)):=by rw[Af nye];exact hy1
 refine Aa U ⟨y,C,dy1,Aa U ⟨hy2,T.cl,T.nH,(by show 3<1000;decide),?_⟩⟩;have hHe:H e=none:=by
  cases z:H e with
  | none=>rfl
  | some o=>rw[all1 _ _ z] at he;cases he
 refine Aa U (q y e _ ⟨⟨dy1,?_⟩,?_⟩ (fun b o hb=>?_) ny hHe)
 . rw[Ad,bJ]
 . rw[Af nye.symm,Ad]
 . rw[Af (Aq hb ny),Af (Aq hb hHe)];exact all1 _ _ hb
def HQ:Sp:=fun vs H Q _=>∃ c k m:Int,vs=[.int c,.int k,.int m]/\0<=k/\0<m/\∀ (v:Int) H',0<=v->v<m->(∀ b o,H b=some o->H' b=some o)->Q (.int v) H'
theorem scDr:AA [BB,Cz,Ed,"_law_primes"] [BB,Cz,Ed] (Ah GU):=AD
noncomputable def primes:List Int:=[1000003,1000033,1000037,1000039,1000081,1000099,1000117,1000121,1000133,1000151,1000159,1000171,1000183,1000187,1000193,1000199]
theorem Tb {p:Int}(h:primes[j]? = some p):0<p:=by
 have key:∀ p∈primes,0<p:=by decide
 exact key p (CK h)
noncomputable def U3:Stmt:=(By GU).getD 0 (.Pass ⟨0,0,0,0⟩)
noncomputable def WP:Stmt:=(By GU).getD 1 (.Pass ⟨0,0,0,0⟩)
theorem Te:By GU=[U3,WP]:=rfl
theorem U5:∃ es x1 p1 p2 p3,U3 = .Assign [.Name "_law_primes" p1] (.Tuple es x1 p2) p3/\Kc es primes:=
 ⟨_,_,_,_,_,U,.cons (.cons (.cons (.cons (.cons (.cons (.cons (.cons (.cons (.cons (.cons (.cons (.cons (.cons (.cons (.cons .nil)))))))))))))))⟩
theorem Xm (F:gp K mg Eu GU):hU P w K mg base 1 Eu [BB,Cz,Ed] HQ:=by
 refine F.ok scDr (fun _ _ _ _ _ _=>Bx fun _ _ _=>rfl) (fun _ _ _ _ h=>HN h fun _ _ _=>rfl) (fun f0 ad A outer s H vs Q E hr h=>?_);refine HM h fun c k m hZ=>Ej hZ fun eQ hk hm q=>?_;clear hZ h;subst eQ;have nd:=scDr.nd;obtain⟨es,x1,p1,p2,p3,eA,hes⟩:=U5;rw[Te,eA];refine⟨_,Ae (Ax 3 nd (Bp (VH hes))) <|
  Aj (Ao De (Ao De (Ao CI (Ao ET (pv 0) Ac) (Ao ET (pv 1) Ac)) (Bw FE (pv 3) (Ao De (pv 1) Ac))) (pv 2)),?_⟩
 refine⟨(by show 16<=sizeLine;decide),fun p hp=>?_⟩;have hj:(k % 16).toNat<primes.length:=by show(k % 16).toNat<16;exact om
 obtain⟨pr,epr⟩:∃ pr,primes[(k % 16).toNat]? = some pr:=⟨_,Bc hj⟩
 have hpr:=Tb epr;have eat:BF (primes.map V.int) (k % 16)=some (.int pr):=by
  have z:BF (primes.map V.int) (((k % 16).toNat:Nat):Int)=some (.int pr):=BK (by rw[BG,epr];rfl);rw[show(((k % 16).toNat:Nat):Int)=k % 16 by exact om] at z;exact z
 refine⟨_,U,_,_,U,U,.inr ⟨by decide,om⟩,_,U,_,_,U,U,.inr ⟨by decide,om⟩,_,_,U,U,_,U,_,U,_,_,U,U,(by show(0:Int)<16;decide),p,primes.map V.int,_,_,U,U,.inl (.inl Ad),eat,_,_,U,U,hpr,_,U,_,_,U,U,hm,?_⟩;exact q _ _ (NX _ om) (Int.emod_lt_of_pos _ hm) fun b o e=>by rw[Af (Aq e hp)];exact e
def j9 (K:W.Frag)(H:Hp)(a:Addr)(xs:List V):Prop:=(∃ o,H a=some (.frz o (.lst xs)))\/∀ H',gy K H' a xs
theorem j9.sq {K:W.Frag}{xs:List V}(h:j9 K H a xs):gy K H a xs:=by
 rcases h with⟨o,h⟩ | h
 . exact .inl (.inr ⟨o,h⟩)
 . exact h H
theorem j9.up {K:W.Frag}{xs:List V}(h:j9 K H a xs)(g:Gn S n H H'):j9 K H' a xs:=by
 rcases h with⟨o,h⟩ | h
 . exact .inl ⟨o,g.keep _ _ h rfl⟩
 . exact .inr h
theorem ZS {K:W.Frag}{xs:List V}(h:gy K H a xs)(s:ND K H a xs):j9 K H a xs:=by
 rcases h with(h | ⟨o,h⟩) | h
 . obtain⟨its,n,r,z,⟨u,e⟩ | e⟩:=s
   . rw[h] at e;cases e
   . have hl:=r.length;exact .inr fun H'=>.inr ⟨_,its.toArray,n,e,U,U,U,by simp;exact om,by simpa using r⟩
 . exact .inl ⟨o,h⟩
 . exact .inr fun H'=>.inr h
def Sg (x:Str):Prop:=x.length=1/\∀ c∈x.cps.toList,32<=c/\c<=126
def OD:Sp:=fun vs H Q _=>∃ c:Int,vs=[.int c]/\∀ (ys:List Str) H',ys.length<=5->(∀ y∈ys,Sg y)->(∀ b o,H b=some o->H' b=some o)->Q (.str (Txt.join "" ys)) H'
theorem scWd:AA [BB,"_law_some",Ed,"_law_kept"] [BB] (Ah GW):=AD
noncomputable def UF:Stmt:=(By GW).getD 0 (.Pass ⟨0,0,0,0⟩)
theorem WN:∃ z j p1 p2 p3,UF = .Assign [.Name "_law_some" p1] (.Constant (.str z) j p2) p3/\z.length=94/\∀ c∈z.cps.toList,32<=c/\c<=126:=⟨_,_,_,_,_,U,by decide +kernel,by decide +kernel⟩
theorem XB:By GW=UF :: (By GW).drop 1:=rfl
theorem U2 (h:∀ c∈z.cps.toList,32<=c/\c<=126)(hz:z.length=94){v:Int}(h0:0<=v)(h1:v<94):∃ c,BF z.cps.toList v=some c/\Sg ⟨#[c]⟩:=by
 have hl:z.cps.toList.length=94:=by rw[<- hz];simp[Str.length]
 have hv:v.toNat<z.cps.toList.length:=by exact om
 refine⟨z.cps.toList[v.toNat],?_,U,fun c hc=>?_⟩
 . have q:=BK (Bc hv);rw[show((v.toNat:Nat):Int)=v by exact om] at q;exact q
 . have e:c=z.cps.toList[v.toNat]:=by simpa using hc
   rw[e];exact h _ (D3 hv)
theorem SY:∀ {ys:List Str},(∀ y∈ys,Sg y)->(ys.map (·.length)).sum=ys.length
 | [],_=>rfl
 | y :: ys,h=>by
  rw[CJ,List.sum_cons,SY (fun z hz=>h z (CH _ hz)),(h y CO).1,C5,Nat.add_comm]
theorem cW (F:gp K mg IW GW)(Fd:hU P w K mg base 1 Eu [BB,Cz,Ed] HQ)(ml:mg B0=none)(mr:mg "range" = none):hU P w K mg base 2 IW [BB] OD:=by
 refine F.ok scWd (fun _ _ _ _ _ _=>CM fun _=>rfl) (fun _ _ _ _ h=>GO h fun _=>rfl) (fun f0 ad A outer s H vs Q E hr h=>?_);refine Ha h fun c hZ=>?_;clear h;obtain⟨rfl,q⟩:=hZ;have nd:=scWd.nd;have hun:=hr.un;obtain⟨z,j,p1,p2,p3,eA,hz,hzc⟩:=WN;rw[XB,eA];refine' ⟨_,Ae (GY (i:=1) nd rfl (Or.inr rfl) AT) <|
  Ae (GY (i:=2) nd rfl (Or.inr rfl) (B7 N8 rfl ml boot_len (Ar (pv 1)))) <|
  Ae (GP (iz:=3) (ys:=[BB,"_law_some",Ed]) (js:=[0,1,2]) ?ok (Ke rfl mr (Ar (Ai Fd hr (An (pv 0) Ac Ac)))) (fun _ _ _=>Gz) ?he nd rfl (Or.inl rfl) (Or.inl rfl) rfl) <|
  Ae (Az (PW.pt (O5 (Au Ry (pv 3) (Ci CP)) (NF (Au AL (Ai Fd hr (An (pv 0) Ac Ac)) Ac))))
   (Ae (GP (iz:=3) (ys:=[]) (js:=[]) ?ok2 (EB (pv 3)) (fun _ _ _=>Gz) (fun _ _ _=>AT) nd rfl (Or.inl rfl) (Or.inl rfl) rfl) <|
    Ba (ay (Bw Us (pv 1) (Ai Fd hr (An (pv 0) Ac (pv 2)))) (eR (pv 3) (Ai Fd hr (An (pv 0) Ac (AW ml (pv 3)))) X9)))
   AB) <|
  Aj (Cv FX PySem.F.slot_str_join PySem.F.type_str_join Tr AT (Ar (pv 3))),?rd⟩
 case ok=>
  refine⟨U,U,U,by decide +kernel,by decide +kernel,U,by decide +kernel,JE (fun p hp=>?_),U,fun i y h=>?_,U⟩
  . simp only[Dc,CW,or_false] at hp;rcases hp with rfl | rfl | rfl <;> rfl
  . match i,h with
    | 0,h=>simp at h;subst h;exact⟨0,U,U,U,U⟩
    | 1,h=>simp at h;subst h;exact⟨1,U,U,U,U⟩
    | 2,h=>simp at h;subst h;exact⟨2,U,U,U,U⟩
    | i+3,h=>simp at h
 case he=>
  exact fun _ _ _=>Bw Us (pv 2) (Ai Fd hr (An (pv 1) (Ao CI Ac (Ao De (pv 0) Ac)) (pv 3)))
 case ok2=>
  exact⟨U,U,U,by decide +kernel,by decide +kernel,U,by decide +kernel,fun _ _ h=>(nomatch h),U,fun i y h=>by simp at h,U⟩
 case rd=>
 refine Aa U ⟨z,U,by rw[hz,Bf];decide,?_⟩;rw[hz];refine Aa U ⟨c,13,6,U,om,om,fun v1 H1 a1 b1 x1=>⟨v1,U,om,om,?_⟩⟩;have fin:∀ (D:Addr) (ys:List Str) (H':Hp),ys.length<=5->(∀ y∈ys,Sg y)->H' D=some (.lst (ys.map V.str))->(∀ b o,H b=some o->H' b=some o)->
  Mv (Uv K "str" (fun x vs H Q=>∃ (z:Str) (p:Addr) (ys:List Str),x = .str z/\vs=[.ref p]/\gy K H p (ys.map V.str)/\(ys.map (·.length)).sum+ys.length * z.length<=16777216/\Q (.str (Txt.join z ys)) H) (tC (.str "")) (Cu (Eh 3) D7)) { nx:=fun _ H'=>Q .non H',rt:=Q } [some (.int c),some (.str z),some (.int 94),some (.ref D)] H':=fun D ys H' hl hs hD hx=>by
  refine⟨U,Aa U ⟨"",D,ys,U,U,gy.of hD,?_,q ys H' hl hs hx⟩⟩;rw[SY hs];show ys.length+ys.length * 0<=_;exact om
 refine RT (fun D i ys H'=>(∀ b o,H b=some o->H' b=some o)/\H' D=some (.lst ys)/\∃ zs:List Str,ys=zs.map V.str/\zs.length=i/\∀ y∈zs,Sg y) (fun D hD=>⟨fun b o e=>?_,Ad,[],U,U,by simp⟩) ?_ ?_
 . rw[Af (Aq (x1 _ _ e) hD)];exact x1 _ _ e
 . rintro D i ys H' Qb hD hi ⟨hx,hD',zs,rfl,hzl,hzs⟩ hq;have r0:0<=((0:Int)+(i:Nat)) % 4:=NX _ (by decide);refine Aa U (Aa U (Aa U ⟨_,Aa U ⟨U,(by show(0:Int)<4;decide),_,Aa U ⟨U,Aa U ⟨c,_,94,U,om,om,fun v2 H2 a2 b2 x2=>?_⟩⟩⟩⟩));obtain⟨ch,e1,e2⟩:=U2 hzc hz a2 b2;refine⟨z,v2,ch,U,U,by rw[hz,Bf];decide,e1,hq _ H2 (x2 _ _ hD') (by rw[Bf];simp;exact om) ⟨fun b o e=>?_,Ad,zs++[⟨#[ch]⟩],by simp,by simp;exact om,fun y hy=>?_⟩⟩
   . have:=x2 _ _ (hx _ _ e);rw[Af (by rintro rfl;rw[x1 _ _ e] at hD;cases hD)];exact this
   . rcases List.mem_append.mp hy with w | w
     . exact hzs y w
     . rw[List.mem_singleton.mp w];exact e2
 . rintro D ys H' hD ⟨hx,hD',zs,rfl,hzl,hzs⟩;have hz5:zs.length<=5:=by exact om
   refine Aa U ⟨Dk,fun p hp=>?_⟩;have hx':∀ b o,H b=some o->Ab H' p (.lst []) b=some o:=fun b o e=>by rw[Af (Aq (hx _ _ e) hp)];exact hx _ _ e
   have hD2:Ab H' p (.lst []) D=some (.lst (zs.map V.str)):=by rw[Af (Aq hD' hp)];exact hD'
   refine⟨1,_,W5 hD2 Ad,by show(A.deeper (PyProof.Rows.envOfC IW (Ah GW) s.heap.objs.size f0 ad)).units+1+1<cLine;exact om,Aa U ?_⟩;refine AN (fun cn=>?_) (fun _=>AK (fin D zs _ hz5 hzs hD2 hx'));have zne:zs≠[]:=by rintro rfl;simp at cn
   have zpos:0<zs.length:=List.length_pos_iff.mpr zne;refine Aa U ⟨c,14,3,U,om,om,fun v2 H2 a2 b2 x2=>⟨U,Aa U ?_⟩⟩;have hx2:∀ b o,H b=some o->H2 b=some o:=fun b o e=>x2 _ _ (hx' _ _ e);have hD3:=x2 _ _ hD2;refine AN (fun _=>?_) (fun _=>fin D zs _ hz5 hzs hD3 hx2);refine Aa U ⟨D,U,⟨_,gy.of hD3⟩,?_⟩;refine OI (K:=K) (xs:=zs.map V.str) (fun D2 i ys H'=>(∀ b o,H2 b=some o->H' b=some o)/\H' D2=some (.lst ys)/\∃ us:List Str,ys=us.map V.str/\us.length=i/\∀ y∈us,Sg y) (fun D2 h2=>⟨fun b o e=>?_,Ad,[],U,U,by simp⟩) (fun D2 i ys H' h2 h=>gy.of (h.1 _ _ hD3)) ?_ ?_
   . rw[Af (Aq e h2)];exact e
   . rintro D2 i x ys H3 Qb h2 hx3 ⟨hxx,hD2',us,rfl,hul,hus⟩ hq;have hi:i<zs.length:=by have:=(List.getElem?_eq_some_iff.mp hx3).1;simpa using this
     refine hq _ H3 hD2' (by rw[Bf];simp;exact om) ⟨fun b o e=>?_,Ad,us++[("a" : Str)],by simp,by simp;exact om,fun y hy=>?_⟩
     . rw[Af (by rintro rfl;rw[e] at h2;cases h2)];exact hxx _ _ e
     . rcases List.mem_append.mp hy with w | w
       . exact hus y w
       . rw[List.mem_singleton.mp w];exact⟨by decide +kernel,by decide +kernel⟩
   . rintro D2 ys H3 h2 ⟨hxx,hD2',us,rfl,hul,hus⟩;rw[AS] at hul;refine Aa U (Aa U (Aa U ⟨c,12,94,U,om,om,fun v4 H4 a4 b4 x4=>?_⟩));obtain⟨ch,e1,e2⟩:=U2 hzc hz a4 b4;refine⟨z,v4,ch,U,U,by rw[hz,Bf];decide,e1,?_⟩;have hD4:=x4 _ _ hD2';refine Aa U (Aa U (Aa U ⟨D2,Aa U ⟨.inl (gy.of hD4),?_⟩⟩));refine⟨c,15,Aa U ⟨om,by rw[AS];exact om,fun v5 H5 a5 b5 x5=>?_⟩⟩;rw[AS] at b5;have hD5:=x5 _ _ hD4;refine⟨D2,us.map V.str,v5,v5.toNat,U,U,hD5,?_,?_⟩
     . rw[AS];unfold Gu;rw[if_pos a5,if_pos b5]
     . have es:(us.map V.str).set v5.toNat (.str ⟨#[ch]⟩)=(us.set v5.toNat ⟨#[ch]⟩).map V.str:=by rw[List.map_set]
       rw[es];refine fin D2 _ _ (by rw[List.length_set];exact om) (fun y hy=>?_) Ad fun b o e=>?_
       . rcases List.mem_or_eq_of_mem_set hy with w | w
         . exact hus y w
         . rw[w];exact e2
       . have h6:=x5 _ _ (x4 _ _ (hxx _ _ (hx2 _ _ e)));rw[Af (by rintro rfl;rw[hx2 _ _ e] at h2;cases h2)];exact h6
def Gd (lf:iG)(B:Nat)(t:Tm):Prop:=t.dep<=B/\BW lf t
def jY (lf:iG)(S:Sl)(H:Hp)(B:Nat)(pv:V):Option (List Tm)->Prop
 | some os=>∃ b ws,pv = .ref b/\H b=some (.lst ws)/\Bs S H os ws/\∀ t∈os,Gd lf B t
 | none=>CD pv=true\/∃ b ws os,pv = .ref b/\H b=some (.tup ws)/\Bs S H os ws/\∀ t∈os,Gd lf B t
theorem jY.up {pv:V}(h:jY lf S H B pv po)(g:Gr S n H H'):jY lf S H' B pv po:=by
 cases po with
 | some os=>
  obtain⟨b,ws,rfl,hb,it,hg⟩:=h;exact⟨b,ws,U,g.lst hb,AQ g.gn it,hg⟩
 | none=>
  rcases h with h | ⟨b,ws,os,rfl,hb,it,hg⟩
  . exact .inl h
  . exact .inr ⟨b,ws,os,U,g.gn.keep _ _ hb rfl,AQ g.gn it,hg⟩
def Lr:Sp:=fun vs H Q _=>∃ x y n b,vs=[x,y]/\ik H n x y b/\n<=400/\Q (.bl b) H
theorem Zl:AA ["one",F9] ["one",F9] (Ah JT):=AD
theorem Z5 (F:gp K mg GH JT)(mb:mg "bool" = none):hU P w K mg base 20 GH ["one",F9] Lr:=by
 refine F.ok Zl (fun _ _ _ _ _ _=>CB fun _ _=>rfl) (fun _ _ _ _ h=>KL h fun _ _ _ _=>rfl) (fun f0 ad A outer s H vs Q E hr h=>?_);refine KP h fun x y n b hZ=>Ej hZ fun eQ he hn q=>?_;clear hZ h;subst eQ;have hun:=hr.un;refine⟨_,Aj (Gf WZ rfl mb QK (Ar (CL PQ (pv 0) (pv 1)))),?_⟩;exact Aa U (Aa U ⟨n,b,he,by show(A.deeper (PyProof.Rows.envOfC GH (Ah JT) s.heap.objs.size f0 ad)).units+n+1<cLine;exact om,.inr ⟨b,U,q⟩⟩)
noncomputable def GB (po:Option (List Tm)) (size place:Int) (th tl:Tm):Bool:=match po with
 | none=>false
 | some os=>decide (0<=place/\place<size/\os.length=(Gb.turnsT size.toNat place.toNat).length/\Tm.nd Di (.int size) (Gb.rise AJ (Gb.turnsT size.toNat place.toNat).reverse os tl)=th)
def Sx (K:W.Frag)(mg:gj)(lf:iG)(B:Nat):Sp:=fun vs H Q _=>∃ S f th vh tl vl pv po,∃ size place:Int,vs=[.ref f,.int size,vh,.int place,vl,pv]/\gx K mg AU S H f/\iJ S H 50/\AE S H th vh/\AE S H tl vl/\Gd lf B th/\Gd lf B tl/\jY lf S H B pv po/\size<=2 ^ 40/\B<=300/\
 ∀ H',Gr S 50 H H'->Q (.bl (GB po size place th tl)) H'
theorem jY.notL {pv:V}(h:jY lf S H B pv none):jR H pv:=by
 rcases h with h | ⟨b,ws,os,rfl,hb,_⟩
 . exact .inl h
 . exact .inr ⟨b,ws,U,hb⟩
theorem scLS:AA [Ag,AI,Br,Aw,Dm,Ek,DO] [Ag,AI,Br,Aw,Dm,Ek] (Ah NZ):=AD
theorem eh {cP:Addr}(F:gp K mg LN NZ)(Fr:Nv P w K mg base 3 "risen" [Ag,Dm,Aw,AI,Ek] (UD K mg cP))(Fb:hU P w K mg base 2 Jx [Ag,AI,DO] (Dz K mg Di))(Fs:hU P w K mg base 20 GH ["one",F9] Lr)
 (xc:Ei K cP)(hP:mg "BadPaper" = some (.ref cP))(lf:iG)(B:Nat):hU P w K mg base 21 LN [Ag,AI,Br,Aw,Dm,Ek] (Sx K mg lf B):=by
 refine F.ok scLS (fun _ _ _ _ _ _=>Nx fun _ _ _ _ _ _=>rfl) (fun _ _ _ _ h=>QU h fun _ _ _ _ _ _ _ _ _ _=>rfl) (fun f0 ad A outer s H vs Q E hr h=>?_);refine OZ h fun S f th vh tl vl pvv po size place hZ=>Gw hZ fun eQ hS hc ih il gh gl hp hsz hB q=>?_;clear hZ h;subst eQ;have nd:=scLS.nd;refine⟨_,Ae (Az (PW.pt (Ge (Au Dj (pv 3) Ac) (Gs (Au Pl (pv 3) (pv 1))))) (Aj Dx) AB) <|
  Ae (SG rfl ⟨U,U⟩ xc rfl hP
   (ba (dR (i:=6) nd rfl (Or.inl rfl) (bQ Fr hr.m rfl (BR (pv 0) (BH (pv 4) (pv 3) (pv 1) (pv 5))))) Yl)
   (fun e=>Aj Dx)) <|
  Aj (Ai Fs hr (AG (Ai Fb hr.m (An (pv 0) (pv 1) (pv 6))) (pv 2))),?_⟩
 have no:¬ (0<=place/\place<size)->∀ H',Gr S 50 H H'->Q (.bl false) H':=fun hn H' g=>by
  have z:=q H' g;have e:GB po size place th tl=false:=by
   cases po with
   | none=>rfl
   | some os=>exact Bj fun y=>hn ⟨y.1,y.2.1⟩
  rw[e] at z;exact z
 refine Aa U ⟨_,Aa U ⟨U,Aa U ?_⟩⟩;refine AN (fun c=>?_) (fun c=>?_)
 . have c':place<0:=Bm c;exact AC (no om H ((Gr.refl hS.told).up om))
 have c0:¬ place<0:=B8 (Bool.eq_false_iff.mpr c);refine Aa U (Aa U ⟨_,Aa U ⟨U,Aa U ?_⟩⟩);refine AN (fun c=>?_) (fun c=>?_)
 . have c':place>=size:=Bm c;exact no om H ((Gr.refl hS.told).up om)
 have c1:¬ place>=size:=B8 (Bool.eq_false_iff.mpr c);obtain⟨pl,rfl⟩:∃ pl:Nat,place=(pl:Int):=⟨place.toNat,om⟩
 obtain⟨sz,rfl⟩:∃ sz:Nat,size=(sz:Int):=⟨size.toNat,om⟩
 have hps:pl<sz:=by exact om
 have hs40:sz<=2 ^ 40:=by
  have e:((2 ^ 40:Nat):Int)=(2:Int) ^ 40:=by norm_cast
  exact om
 have tl40:=Gb.turns_len 40 sz pl hs40;refine Aa U (Aa U (Aa U (Aa U (Aa U ⟨S,f,tl,vl,pl,sz,pvv,U,hS,il,hps,hs40,?_⟩))));have bad:∀ H1,Gr S 0 H H1->GB po (sz:Int) (pl:Int) th tl=false->Q (.bl false) H1:=fun H1 g e=>by
  have z:=q H1 (g.up om);rw[e] at z;exact z
 cases po with
 | none=>exact .inr ⟨.inr hp.notL,fun H1 g=>⟨cP,U,U,bad H1 g rfl⟩⟩
 | some os=>
  obtain⟨b,ws,rfl,hb,it,hg⟩:=hp;have wl:=Bq it;by_cases ah:ws.length=(Gb.turnsT sz pl).length
  . refine .inl ⟨b,ws,os,U,hb,it,ah,hc.dn om,fun v H1 g1 i1=>?_⟩;refine Aa U (Aa U (Aa U ⟨S,f,.int sz,_,_,Aa U ⟨hS.up g1.gn,hc.go g1.gn om,U,i1,fun v2 H2 g2 i2=>?_⟩⟩));have g12:=g1.trans g2;have hS2:=hS.up g12.gn;have hw:BW lf (.nd Di (.int sz) (Gb.rise AJ (Gb.turnsT sz pl).reverse os tl)):=LZ (fD (fun t ht=>(hg t ht).2) gl.2);have rd:=SW (B:=B) (Gb.turnsT sz pl).reverse os tl 0 (fun t ht=>(hg t ht).1) (by have:=gl.1;exact om);rw[Ht] at rd;refine Aa U ⟨_,_,_,Aa U ⟨JY (g:=gS lf) (s:=.nd) (fun d e=>⟨hw,gh.2,hS2.ints d e⟩) i2 (AO g12.gn ih),?_,?_⟩⟩
    . show max 0 (Gb.rise AJ (Gb.turnsT sz pl).reverse os tl).dep+1<=400;exact om
    . have z:=q H2 (g12.up om);have e:GB (some os) (sz:Int) (pl:Int) th tl=decide (Tm.nd Di (.int sz) (Gb.rise AJ (Gb.turnsT sz pl).reverse os tl)=th):=by
       show decide _=decide _;rw[decide_eq_decide];exact⟨fun y=>y.2.2.2,fun y=>⟨om,om,by rw[<- Bq it] at ah;exact ah,y⟩⟩
      rw[e] at z;exact z
  . refine .inr ⟨.inl ⟨b,ws,U,hb,ah⟩,fun H1 g=>⟨cP,U,U,bad H1 g ?_⟩⟩;exact Bj fun y=>ah (by rw[<- wl];exact y.2.2.1)
theorem Vq {size place:Nat}{t0:Tm}(hp:place<size)(hs:size<=ts.length)(ht:ts[place]? = some t0) :
 GB (some os) (size:Int) (place:Int) (.nd Di (.int (held:Int)) (DC (ts.take held))) tl=decide (held=size/\tl=t0/\os=CG (ts.take size) place):=by
 have hl:(ts.take size).length=size:=by rw[Cc];exact om
 have ht':(ts.take size)[place]? = some t0:=by rw[Po,if_pos hp];exact ht
 obtain⟨p1,p2⟩:=Gb.path_turns AM AJ size (ts.take size) place hl hp;have p2:=p2 t0 ht';show decide _=decide _;rw[decide_eq_decide]
 constructor
 . rintro⟨_,_,h1,h2⟩;have h1:os.length=(Gb.turnsT size place).length:=h1;have h2:Tm.nd Di (.int (size:Int)) (Gb.rise AJ (Gb.turnsT size place).reverse os tl) = .nd Di (.int (held:Int)) (DC (ts.take held)):=h2;injection h2 with _ e1 e2
   injection e1 with e1
   have e:held=size:=by exact om
   subst e;have e2:Gb.rise AJ (Gb.turnsT held place).reverse os tl=Gb.topT AM AJ (ts.take held):=e2;rw[<- p2] at e2;obtain⟨q1,q2⟩:=Gb.rise_inj AJ fq (by rw[Ht];exact om) (by rw[Ht];exact om) e2;exact⟨U,q2,q1⟩
 . rintro⟨rfl,rfl,rfl⟩;refine⟨om,om,p1,?_⟩;show Tm.nd Di (.int (held:Int)) (Gb.rise AJ (Gb.turnsT held place).reverse (Gb.pathT AM AJ (ts.take held) place) tl)=_;rw[p2]
theorem X8 (h:¬ (0<=place/\place<size)):GB po size place th tl=false:=by
 cases po with
 | none=>rfl
 | some os=>exact Bj fun y=>h ⟨y.1,y.2.1⟩
theorem gD {held:Int}{t:Tm}(h:held≠size):GB po size place (.nd Di (.int held) t) tl=false:=by
 cases po with
 | none=>rfl
 | some os=>
  refine Bj fun y=>h ?_;obtain⟨_,_,_,z⟩:=y;injection z with _ z _
  injection z with z
  exact z.symm
noncomputable def Ce:Option (Int×Str)->Tm
 | none=>AM
 | some e=>.nd Dq (.int e.1) (.str e.2)
noncomputable def BL (key:Int):Nat->List Tm->Tm->Tm
 | _,[],e=>e
 | 0,_ :: _,e=>e
 | D+1,o :: os,e=>if AV key D=0 then Fv (BL key D os e) o else Fv o (BL key D os e)
theorem Xs:∀ {e e':Option (Int×Str)},Ce e=Ce e'->e=e'
 | none,none,_=>rfl
 | none,some e,h=>by
  have h:Tm.nd "none" (.int 0) (.int 0) = .nd Dq (.int e.1) (.str e.2):=h;injection h with h;exact absurd h (by decide +kernel)
 | some e,none,h=>by
  have h:Tm.nd Dq (.int e.1) (.str e.2) = .nd "none" (.int 0) (.int 0):=h;injection h with h;exact absurd h (by decide +kernel)
 | some (k,x),some (k',x'),h=>by
  have h:Tm.nd Dq (.int k) (.str x) = .nd Dq (.int k') (.str x'):=h;injection h with _ h1 h2
  injection h1 with h1
  injection h2 with h2
  rw[h1,h2]
theorem Nj {a b:Tm}:Ce e≠Fv a b:=fun h=>by
 cases e with
 | none=>
  have h:Tm.nd "none" (.int 0) (.int 0) = .nd Je a b:=h;injection h with h;exact absurd h (by decide +kernel)
 | some e=>
  have h:Tm.nd Dq (.int e.1) (.str e.2) = .nd Je a b:=h;injection h with h;exact absurd h (by decide +kernel)
theorem HL {o:Tm}{e:Tm}:BL key (D+1) (o :: os) e=if AV key D=0 then Fv (BL key D os e) o else Fv o (BL key D os e):=by rw[BL]
theorem GJ {e:Tm}:BL key D [] e=e:=by cases D <;> rw[BL]
theorem Pu {key:Int}:∀ (D:Nat)(os os':List Tm)(e e':Option (Int×Str)),os.length<=D->os'.length<=D->BL key D os (Ce e)=BL key D os' (Ce e')->os=os'/\e=e'
 | D,[],[],e,e',_,_,h=>by rw[GJ,GJ] at h;exact⟨U,Xs h⟩
 | 0,o :: os,_,e,e',h1,_,_=>by simp at h1
 | 0,_,o :: os,e,e',_,h1,_=>by simp at h1
 | D+1,[],o :: os,e,e',_,_,h=>by
  rw[GJ,HL] at h;split at h
  . exact absurd h Nj
  . exact absurd h Nj
 | D+1,o :: os,[],e,e',_,_,h=>by
  rw[GJ,HL] at h;split at h
  . exact absurd h.symm Nj
  . exact absurd h.symm Nj
 | D+1,o :: os,o' :: os',e,e',h1,h2,h=>by
  rw[HL,HL] at h;have l1:os.length<=D:=by simp at h1;exact om
  have l2:os'.length<=D:=by simp at h2;exact om
  split at h
  . injection h with _ z1 z2
    obtain⟨r1,r2⟩:=Pu D os os' e e' l1 l2 z1;exact⟨by rw[z2,r1],r2⟩
  . injection h with _ z1 z2
    obtain⟨r1,r2⟩:=Pu D os os' e e' l1 l2 z2;exact⟨by rw[z1,r1],r2⟩
noncomputable def Gp (key:Int) (D n:Nat) (en:Option (Int×Str)):Bool:=decide (0<=key/\key<2 ^ D) && decide (n<=D) && (match en with | none=>true | some e=>decide (e.1 / 2 ^ (D - n)=key / 2 ^ (D - n)))
noncomputable abbrev FU (D:Nat) (t:Tm):Tm:=.nd Cy (.int (D:Int)) t
noncomputable def FP (po:Option (List Tm)) (size place:Int) (th:Tm) (key:Int) (D:Nat) (z:Str) (tt:Tm) (os:List Tm) (en:Option (Int×Str)):Bool:=
 Gp key D os.length en && (decide (FU D (BL key D os (Ce en))=tt) && GB po size place th (.nd Dm (.str z) (FU D (BL key D os (Ce en)))))
noncomputable def Pj (po:Option (List Tm)) (size place:Int) (th:Tm) (key:Int) (x:Str) (D:Nat) (z:Str) (tt:Tm) (os:List Tm) (en:Option (Int×Str)):Bool:=
 decide (en=some (key,x)) && FP po size place th key D z tt os en
noncomputable def K0 (po:Option (List Tm)) (size place:Int) (th:Tm) (key:Int) (D:Nat) (z:Str) (tt:Tm) (os:List Tm) (en:Option (Int×Str)):Bool:=
 (match en with | none=>true | some e=>!decide (e.1=key)) && FP po size place th key D z tt os en
theorem Yy (h:Gp key D n en=true):n<=D:=by
 unfold Gp at h;simp only[Gc,decide_eq_true_eq] at h;exact h.1.2
theorem R8 (lf:iG):gS lf Dq=(.int,.str):=by unfold gS;rw[if_neg (by decide),if_neg (by decide),if_neg (by decide),if_pos rfl]
theorem We (lf:iG):gS lf Je=(.nd,.nd):=by unfold gS;rw[if_neg (by decide),if_neg (by decide),if_neg (by decide),if_neg (by decide),if_pos rfl]
theorem Vb (lf:iG):gS lf Cy=(.int,.nd):=by unfold gS;rw[if_neg (by decide),if_neg (by decide),if_neg (by decide),if_neg (by decide),if_neg (by decide),if_pos rfl]
theorem PN {k:Int}{x:Str}:BW lf (.nd Dq (.int k) (.str x)):=⟨U,by rw[R8];rfl,by rw[R8];rfl⟩
theorem Pw {a b:Tm}(h:BW lf a)(h':BW lf b):BW lf (Fv a b):=⟨U,by rw[We];exact h,by rw[We];exact h'⟩
theorem Oi {a:Tm}(h:BW lf a):BW lf (FU n a):=⟨U,by rw[Vb];rfl,by rw[Vb];exact h⟩
theorem VL:BW lf (Ce e):=by
 cases e with
 | none=>exact Gx
 | some e=>exact PN
theorem TN {lf:iG}{B:Nat}(hB:1<=B){key:Int}{e:Option (Int×Str)}:∀ (D:Nat)(os:List Tm),(∀ t∈os,Gd lf B t)->Gd lf (B+D) (BL key D os (Ce e))
 | D,[],_=>by
  rw[GJ];refine⟨?_,VL⟩;cases e <;> (show(1:Nat)<=_;exact om)
 | 0,o :: os,_=>by
  rw[BL];refine⟨?_,VL⟩;cases e <;> (show(1:Nat)<=_;exact om)
 | D+1,o :: os,h=>by
  have z:=TN hB (key:=key) (e:=e) D os fun t ht=>h t (CH _ ht);have y:=h o CO;rw[HL];split
  . exact⟨by show max _ _+1<=_;have:=z.1;have:=y.1;exact om,Pw z.2 y.2⟩
  . exact⟨by show max _ _+1<=_;have:=z.1;have:=y.1;exact om,Pw y.2 z.2⟩
theorem Gd.mono {t:Tm}(h:Gd lf B t)(hb:B<=B'):Gd lf B' t:=⟨Bu h.1 hb,h.2⟩
theorem jY.mono {pv:V}(h:jY lf S H B pv po)(hb:B<=B'):jY lf S H B' pv po:=by
 cases po with
 | some os=>
  obtain⟨b,ws,rfl,hb',it,hg⟩:=h;exact⟨b,ws,U,hb',it,fun t ht=>(hg t ht).mono hb⟩
 | none=>
  rcases h with h | ⟨b,ws,os,rfl,hb',it,hg⟩
  . exact .inl h
  . exact .inr ⟨b,ws,os,U,hb',it,fun t ht=>(hg t ht).mono hb⟩
def jh (H:Hp)(v:V):Option (Int×Str)->Prop
 | none=>v = .non
 | some e=>∃ p,v = .ref p/\H p=some (.tup [.int e.1,.str e.2])
def ja (S:Sl)(H:Hp)(v:V)(os:List Tm)(en:Option (Int×Str)):Prop:=∃ p a ws ve,v = .ref p/\H p=some (.tup [.ref a,ve])/\H a=some (.lst ws)/\Bs S H os ws/\jh H ve en
def jg (lf:iG)(S:Sl)(H:Hp)(B:Nat)(v:V)(z:Str)(tt:Tm)(po:Option (List Tm))(os:List Tm)(en:Option (Int×Str)):Prop:=
 ∃ p vt vp vw,v = .ref p/\H p=some (.tup [.str z,vt,vp,vw])/\AE S H tt vt/\Gd lf B tt/\jY lf S H B vp po/\ja S H vw os en/\∀ t∈os,Gd lf B t
theorem jh.up (h:jh H v en)(g:Gn S n H H'):jh H' v en:=by
 cases en with
 | none=>exact h
 | some e=>obtain⟨p,e1,e2⟩:=h;exact⟨p,e1,g.keep _ _ e2 rfl⟩
theorem ja.up (h:ja S H v os en)(g:Gr S n H H'):ja S H' v os en:=by
 obtain⟨p,a,ws,ve,h1,h2,h3,h4,h5⟩:=h;exact⟨p,a,ws,ve,h1,g.gn.keep _ _ h2 rfl,g.lst h3,AQ g.gn h4,h5.up g.gn⟩
theorem jg.up (h:jg lf S H B v z tt po os en)(g:Gr S n H H'):jg lf S H' B v z tt po os en:=by
 obtain⟨p,vt,vp,vw,h1,h2,h3,h4,h5,h6,h7⟩:=h;exact⟨p,vt,vp,vw,h1,g.gn.keep _ _ h2 rfl,AO g.gn h3,h4,h5.up g,h6.up g,h7⟩
theorem Dv {K:W.Frag}{T:String}:W.kitOne K (.type T) (.type T)=some true:=by unfold W.kitOne;rw[if_pos (by simp)]
theorem dC {K:W.Frag}:W.kitOne K (.type "int") (.type "bool")=some false:=by unfold W.kitOne;rw[if_neg (by simp)];kernel_rfl
def US:Sp:=fun vs H Q _=>∃ i:Int,vs=[.int i]/\Q (.bl true) H
theorem eC:AA [Cb] [Cb] (Ah NJ):=AD
theorem aU (F:gp K mg NQ NJ)(mi:mg DY=none)(mn:mg "int" = none)(mb:mg "bool" = none):hU P w K mg base 1 NQ [Cb] US:=by
 refine F.ok eC (fun _ _ _ _ _ _=>CM fun _=>rfl) (fun _ _ _ _ h=>GO h fun _=>rfl) (fun f0 ad A outer s H vs Q E hr h=>?_);refine Ha h fun i hZ=>?_;clear h;obtain⟨rfl,q⟩:=hZ;refine⟨_,Aj (BV (B7 Dp rfl mi CZ (AG (pv 0) (Dn rfl mn PyProof.Rows.boot_int))) (EF (ce (B7 Dp rfl mi CZ (AG (pv 0) (Dn rfl mb QK)))))),?_⟩;refine Aa U ⟨_,_,_,true,U,.int i,Dv,Aa U (AC ?_)⟩;exact Aa U ⟨_,_,_,false,U,.int i,dC,Aa U q⟩
def U9:Sp:=fun vs H Q _=>∃ v en,vs=[v]/\jh H v en/\Q (.bl true) H
theorem VR:AA [Cb] [Cb] (Ah JL):=AD
theorem c9 (F:gp K mg Hg JL)(Fn:hU P w K mg base 1 NQ [Cb] US)(ml:mg B0=none)(mi:mg DY=none)(mt:mg "tuple" = none)(ms:mg "str" = none):hU P w K mg base 2 Hg [Cb] U9:=by
 refine F.ok VR (fun _ _ _ _ _ _=>CM fun _=>rfl) (fun _ _ _ _ h=>HJ h fun _ _=>rfl) (fun f0 ad A outer s H vs Q E hr h=>?_);refine HD h fun v en hZ=>Ez hZ fun eQ he q=>?_;clear hZ h;subst eQ;refine⟨_,Ae (Az (Au GS (pv 0) Db) (Aj Dx) AB) <|
  Aj (BV (B7 Dp rfl mi CZ (AG (pv 0) (Dn rfl mt HR))) (BV (CL AL (AW ml (pv 0)) Ac) (BV (Ai Fn hr (Ar (As (pv 0)))) (EF (B7 Dp rfl mi CZ (AG (As (pv 0)) (Dn rfl ms KI))))))),?_⟩
 cases en with
 | none=>
  obtain rfl:v=V.non:=he;refine Aa U ⟨U,Aa U ?_⟩;rw[Be rfl];exact AC q
 | some e=>
  obtain⟨p,rfl,hp⟩:=he;refine Aa U ⟨U,Aa U ?_⟩;rw[Bj (fun h=>nomatch h)];refine AK ?_;refine Aa U ⟨_,_,_,true,U,.tup hp,Dv,Aa U (AC ?_)⟩;refine Aa U ⟨p,Aa U ⟨.inr (.inl (.inl hp)),U,Aa U ?_⟩⟩;refine AC ?_;refine Aa U ⟨p,_,Aa U ⟨U,hp,U,e.1,U,Aa U (AC ?_)⟩⟩;exact Aa U ⟨p,_,Aa U ⟨U,hp,U,_,_,_,true,U,.str e.2,Dv,q⟩⟩
def VB (S:Sl):Sp:=fun vs H Q _=>∃ v os en,vs=[v]/\ja S H v os en/\Q (.bl true) H
theorem S8:AA [Cb] [Cb] (Ah Lz):=AD
theorem X7 (S:Sl)(F:gp K mg Hz Lz)(Fe:hU P w K mg base 2 Hg [Cb] U9)(ml:mg B0=none)(mi:mg DY=none)(mt:mg "tuple" = none)(mli:mg "list" = none):hU P w K mg base 3 Hz [Cb] (VB S):=by
 refine F.ok S8 (fun _ _ _ _ _ _=>CM fun _=>rfl) (fun _ _ _ _ h=>HN h fun _ _ _=>rfl) (fun f0 ad A outer s H vs Q E hr h=>?_);refine HM h fun v os en hZ=>Ez hZ fun eQ gg1 q=>?_;clear hZ h;subst eQ;obtain⟨p,a,ws,ve,rfl,hp,ha,it,he⟩:=gg1;refine⟨_,Aj (BV (B7 Dp rfl mi CZ (AG (pv 0) (Dn rfl mt HR))) (BV (CL AL (AW ml (pv 0)) Ac) (BV (B7 Dp rfl mi CZ (AG (As (pv 0)) (Dn rfl mli Jt))) (EF (Ai Fe hr (Ar (As (pv 0)))))))),?_⟩;refine Aa U ⟨_,_,_,true,U,.tup hp,Dv,Aa U (AC ?_)⟩;refine Aa U ⟨p,Aa U ⟨.inr (.inl (.inl hp)),U,Aa U ?_⟩⟩;refine AC ?_;refine Aa U ⟨p,_,Aa U ⟨U,hp,U,_,_,_,true,U,.lst ha,Dv,Aa U (AC ?_)⟩⟩;exact Aa U ⟨p,_,Aa U ⟨U,hp,U,ve,en,U,he,q⟩⟩
def Ol (lf:iG)(S:Sl)(B:Nat):Sp:=fun vs H Q _=>∃ v z tt po os en,vs=[v]/\jg lf S H B v z tt po os en/\Q (.bl true) H
theorem VX:AA [Cb] [Cb] (Ah La):=AD
theorem WT (lf:iG)(S:Sl)(B:Nat)(F:gp K mg FM La)(Fw:hU P w K mg base 3 Hz [Cb] (VB S))(ml:mg B0=none)(mi:mg DY=none)(mt:mg "tuple" = none)(ms:mg "str" = none):hU P w K mg base 4 FM [Cb] (Ol lf S B):=by
 refine F.ok VX (fun _ _ _ _ _ _=>CM fun _=>rfl) (fun _ _ _ _ h=>Do h fun _ _ _ _ _ _=>rfl) (fun f0 ad A outer s H vs Q E hr h=>?_);refine Df h fun v z tt po os en hZ=>Ez hZ fun eQ gg1 q=>?_;clear hZ h;subst eQ;obtain⟨p,vt,vp,vw,rfl,hp,it,gt,hpp,hw,hg⟩:=gg1;refine⟨_,Aj (BV (B7 Dp rfl mi CZ (AG (pv 0) (Dn rfl mt HR))) (BV (CL AL (AW ml (pv 0)) Ac) (BV (B7 Dp rfl mi CZ (AG (As (pv 0)) (Dn rfl ms KI))) (EF (Ai Fw hr (Ar (As (pv 0)))))))),?_⟩;refine Aa U ⟨_,_,_,true,U,.tup hp,Dv,Aa U (AC ?_)⟩;refine Aa U ⟨p,Aa U ⟨.inr (.inl (.inl hp)),U,Aa U ?_⟩⟩;refine AC ?_;refine Aa U ⟨p,_,Aa U ⟨U,hp,U,_,_,_,true,U,.str z,Dv,Aa U (AC ?_)⟩⟩;exact Aa U ⟨p,_,Aa U ⟨U,hp,U,vw,os,en,U,hw,q⟩⟩
def UY (S:Sl):Sp:=fun vs H Q _=>∃ (key:Int)(D:Nat),∃ v os en,vs=[.int key,.int D,v]/\ja S H v os en/\os.length<=1000/\Q (.bl (Gp key D os.length en)) H
theorem scFt:AA [AH,At,Dt,"steps","left"] [AH,At,Dt] (Ah LW):=AD
theorem Zg (S:Sl)(F:gp K mg N5 LW)(Fi:hU P w K mg base 1 Ix [AH,At] NY)(ml:mg B0=none):hU P w K mg base 2 N5 [AH,At,Dt] (UY S):=by
 refine F.ok scFt (fun _ _ _ _ _ _=>Bx fun _ _ _=>rfl) (fun _ _ _ _ h=>DS h fun _ _ _ _ _=>rfl) (fun f0 ad A outer s H vs Q E hr h=>?_);refine DQ h fun key D v os en hZ=>Ej hZ fun eQ gg1 hl q=>?_;clear hZ h;subst eQ;obtain⟨p,a,ws,ve,rfl,hp,ha,it,he⟩:=gg1;have nd:=scFt.nd;have wl:=Bq it;refine⟨_,Ae (Ax 3 nd (AW ml (As (pv 2)))) <|
  Ae (Az (PW.pt (Ge (Dg (Ca (Ai Fi hr (AG (pv 0) (pv 1))))) (Gs (Au Fg (pv 3) (pv 1))))) (Aj Dx) AB) <|
  Ae (Az (Au GS (As (pv 2)) Db) (Aj Dx) AB) <|
  Ae (Ax 4 nd (Ao CC (pv 1) (pv 3))) <|
  Aj (CL AL (Ao K8 (As (As (pv 2))) (pv 4)) (Ao K8 (pv 0) (pv 4))),?_⟩
 refine Aa U ⟨p,_,Aa U ⟨U,hp,U,a,ws,U,.inl (gy.of ha),?_⟩⟩;rw[<- wl];refine Aa U (Aa U ⟨key,D,U,Aa U ?_⟩);unfold Gp at q;refine AN (fun c=>?_) (fun c=>?_)
 . have c':decide (0<=key/\key<2 ^ D)=false:=by simpa only[Bool.not_eq_true'] using c
   rw[c'] at q;exact AC q
 have c0:decide (0<=key/\key<2 ^ D)=true:=by
  cases hd:decide (0<=key/\key<2 ^ D) with
  | true=>rfl
  | false=>exact absurd (by rw[hd];rfl) c
 rw[c0,EH] at q;refine Aa U (Aa U ⟨_,Aa U ⟨U,Aa U ?_⟩⟩);refine AN (fun c=>?_) (fun c=>?_)
 . have c':(D:Int)<(os.length:Int):=Bm c;rw[Bj (show ¬ os.length<=D by exact om)] at q;exact q
 have c1:¬ (D:Int)<(os.length:Int):=B8 (Bool.eq_false_iff.mpr c);rw[Be (show os.length<=D by exact om),EH] at q;refine Aa U ⟨p,_,Aa U ⟨U,hp,U,U,Aa U ?_⟩⟩;cases en with
 | none=>
  obtain rfl:ve=V.non:=he;rw[Be rfl];exact AC q
 | some e=>
  obtain⟨pe,rfl,hpe⟩:=he;rw[Bj (fun h=>nomatch h)];refine AK ?_;have el:(D:Int) - (os.length:Int)=((D - os.length:Nat):Int):=by exact om
  refine Aa U (Aa U ⟨_,Aa U ⟨U,?_⟩⟩);dsimp only[AZ];rw[el];refine Aa U ⟨p,_,Aa U ⟨U,hp,U,pe,_,Aa U ⟨U,hpe,U,Aa U ⟨_,Aa U ⟨U,om,Aa U (Aa U ⟨_,Aa U ⟨U,om,U,?_⟩⟩)⟩⟩⟩⟩⟩;have e2:decide (V.int (e.1 / 2 ^ (D - os.length))=V.int (key / 2 ^ (D - os.length)))=decide (e.1 / 2 ^ (D - os.length)=key / 2 ^ (D - os.length)):=by
   rw[decide_eq_decide];exact⟨fun h=>by injection h,fun h=>by rw[h]⟩
  have q':Q (.bl (decide (e.1 / 2 ^ (D - os.length)=key / 2 ^ (D - os.length)))) H:=q;rw[<- e2] at q';exact q'
def RU (K:W.Frag)(mg:gj):Sp:=fun vs H Q _=>∃ (S:Sl)(f:Addr)(key:Int)(D:Nat)(v:V)(os:List Tm)(en:Option (Int×Str)),vs=[.ref f,.int key,.int D,v]/\gx K mg AU S H f/\ja S H v os en/\os.length<=D/\D<=20/\iJ S H 25/\
 ∀ v' H',Gr S 25 H H'->AE S H' (BL key D os (Ce en)) v'->Q v' H'
theorem scTWk:AA [Ag,AH,At,Dt,DO,FV,F9] [Ag,AH,At,Dt] (Ah NV):=AD
theorem bt (F:gp K mg Nq NV)(Fn:hU P w K mg base 2 G0 [Ag] (Ic K mg))(Fr:hU P w K mg base 2 K7 [Ag,AH,Eo] (Dz K mg Dq))(Ff:hU P w K mg base 2 JN [Ag,"low",Jw] (Dz K mg Je))(ml:mg B0=none)(mre:mg "reversed" = none):hU P w K mg base 3 Nq [Ag,AH,At,Dt] (RU K mg):=by
 refine F.ok scTWk (fun _ _ _ _ _ _=>Ho fun _ _ _ _=>rfl) (fun _ _ _ _ h=>Fx h fun _ _ _ _ _ _ _=>rfl) (fun f0 ad A outer s H vs Q E hr h=>?_);refine EY h fun S f key D v os en hZ=>Ey hZ fun eQ hS hw hl hD hc q=>?_;clear hZ h;subst eQ;have nd:=scTWk.nd;refine⟨_,Ae (Az (Au GS (As (pv 3)) Db) (Ba (Ax 4 nd (Ai Fn hr (Ar (pv 0))))) (Ba (Ax 4 nd (Ai Fr hr (An (pv 0) (As (As (pv 3))) (As (As (pv 3)))))))) <|
  Ae (Ax 5 nd (Ao CC (pv 2) (AW ml (As (pv 3))))) <|
  Ae (Gv PassesOwn.never rfl (fZ rfl mre (Ar (As (pv 3)))) (Fm (i:=6) nd rfl (Or.inl rfl)) <|
   Ae (Az (Au AL (Ao P5 (Ao K8 (pv 1) (pv 5)) Ac) Ac) (Ba (Ax 4 nd (Ai Ff hr (An (pv 0) (pv 4) (pv 6))))) (Ba (Ax 4 nd (Ai Ff hr (An (pv 0) (pv 6) (pv 4)))))) <|
   Ba (Ax 5 nd (Ao CI (pv 5) Ac))) <|
  Aj (pv 4),?_⟩
 obtain⟨p,a,ws,ve,e1,hp,ha,it,he⟩:=id hw;subst e1;have wl:=Bq it;refine MR (fun σ' H'=>Gr S 1 H H'/\∃ v4,AE S H' (Ce en) v4/\σ'=[some (.ref f),some (.int key),some (.int D),some (.ref p),some v4,none,none]) (fun D' hD'=>?_) ?_
 . refine Aa U ⟨p,_,Aa U ⟨U,hp,U,U,Aa U ?_⟩⟩;cases en with
   | none=>
    obtain rfl:ve=V.non:=he;rw[Be rfl];exact AC (Aa U ⟨S,f,U,hS,hc.dn om,fun v1 H1 g1 i1=>hD' _ _ ⟨g1,v1,i1,U⟩⟩)
   | some e=>
    obtain⟨pe,rfl,hpe⟩:=he;rw[Bj (fun h=>nomatch h)];refine AK (Aa U (Aa U ⟨p,_,Aa U ⟨U,hp,U,pe,_,Aa U ⟨U,hpe,U,Aa U ⟨p,_,Aa U ⟨U,hp,U,pe,_,Aa U ⟨U,hpe,U,?_⟩⟩⟩⟩⟩⟩));exact⟨S,f,.int e.1,.str e.2,_,Aa U ⟨hS,hc.dn om,U,U,fun v1 H1 g1 i1=>hD' _ _ ⟨g1,v1,i1,U⟩⟩⟩
 rintro σ' H1 ⟨g1,v4,i4,rfl⟩;have hw1:=hw.up g1;have ha1:=g1.lst ha;have hp1:=g1.gn.keep _ _ hp rfl;have it1:=AQ g1.gn it;refine Aa U (Aa U ⟨p,_,Aa U ⟨U,hp1,U,a,ws,U,.inl (gy.of ha1),_,Aa U ⟨U,?_⟩⟩⟩);dsimp only[AZ];rw[<- wl,show(D:Int) - (os.length:Int)=((D - os.length:Nat):Int) by exact om];refine Aa U ⟨p,_,Aa U ⟨U,hp1,U,a,ws,U,gy.of ha1,?_⟩⟩;refine aM (xs:=ws) (fun i σ H'=>Gr S i H1 H'/\i<=os.length/\∃ v4 o6,AE S H' (BL key (D - os.length+i) (os.drop (os.length - i)) (Ce en)) v4/\σ=[some (.ref f),some (.int key),some (.int D),some (.ref p),some v4,some (.int ((D - os.length+i:Nat):Int)),o6]) ⟨.refl g1.gn.gu,Es _,v4,none,?_,U⟩ (fun i σ H' _ h=>gy.of (h.1.lst ha1)) ?_ ?_
 . rw[Nat.sub_zero,OR,GJ];exact i4
 . rintro i x σ H2 hi hx ⟨g2,hi2,v5,o6,i5,rfl⟩;have hio:i<os.length:=by exact om
   have ex:ws[os.length - 1 - i]? = some x:=by rw[wl];exact hx
   obtain⟨t,et,ixt⟩:=JP it1 ex;have hS2:=hS.up (g1.trans g2).gn;have ed:os.drop (os.length - (i+1))=t :: os.drop (os.length - i):=by
    rw[show os.length - (i+1)=os.length - 1 - i by exact om];rw[PU om];rw[Bc om] at et;rw[Option.some.inj et,show os.length - 1 - i+1=os.length - i by exact om]
   have et2:BL key (D - os.length+(i+1)) (os.drop (os.length - (i+1))) (Ce en)=if AV key (D - os.length+i)=0 then Fv (BL key (D - os.length+i) (os.drop (os.length - i)) (Ce en)) t else Fv t (BL key (D - os.length+i) (os.drop (os.length - i)) (Ce en)):=by
    rw[ed,show D - os.length+(i+1)=D - os.length+i+1 by exact om,HL]
   dsimp only[AZ];refine MR (fun σ' H3=>Gr S (i+1) H1 H3/\∃ v3,AE S H3 (BL key (D - os.length+(i+1)) (os.drop (os.length - (i+1))) (Ce en)) v3/\σ'=[some (.ref f),some (.int key),some (.int D),some (.ref p),some v3,some (.int ((D - os.length+i:Nat):Int)),some x]) (fun D' hD'=>?_) ?_
   . refine Aa U (Aa U ⟨_,Aa U ⟨U,om,_,Aa U ⟨U,U,Aa U ?_⟩⟩⟩);rw[et2] at hD';refine AN (fun c=>?_) (fun c=>?_)
     . have c':AV key (D - os.length+i)=0:=by
        have z:V.int (Builtin.bitAnd (key / 2 ^ (((D - os.length+i:Nat):Int)).toNat) 1)=V.int 0:=Bm c;rw[MY] at z;injection z
       rw[if_pos c'] at hD';exact Aa U (Aa U (Aa U ⟨S,f,_,_,_,Aa U ⟨hS2,hc.go (g1.trans g2).gn om,i5,AO g2.gn ixt,fun v3 H3 g3 i3=>hD' _ _ ⟨g2.trans g3,v3,i3,U⟩⟩⟩))
     . have c':¬ AV key (D - os.length+i)=0:=fun z=>c (Be (show V.int (Builtin.bitAnd (key / 2 ^ (((D - os.length+i:Nat):Int)).toNat) 1)=V.int 0 by rw[MY,z]));rw[if_neg c'] at hD';exact Aa U (Aa U (Aa U ⟨S,f,_,_,_,Aa U ⟨hS2,hc.go (g1.trans g2).gn om,AO g2.gn ixt,i5,fun v3 H3 g3 i3=>hD' _ _ ⟨g2.trans g3,v3,i3,U⟩⟩⟩))
   . rintro σ' H3 ⟨g3,v3,i3,rfl⟩;refine Aa U ⟨_,Aa U ⟨U,g3,hio,v3,some x,i3,?_⟩⟩;rw[show((D - os.length+(i+1):Nat):Int)=((D - os.length+i:Nat):Int)+1 by exact om]
     rfl
 . rintro σ H2 ⟨g2,_,v5,o6,i5,rfl⟩;rw[<- wl] at g2 i5;rw[Nat.sub_self,List.drop_zero,show D - os.length+os.length=D by exact om] at i5;exact Aa U (q v5 H2 ((g1.trans g2).up om) i5)
theorem IR {k:Str}{v:V}:∀ {l:List (Str×V)},(∀ q∈l.map (·.1),q≠k)->AR k v l=l++[(k,v)]
 | [],_=>rfl
 | (g,x) :: r,h=>by
  show(if g=k then _ else(g,x) :: AR k v r)=_;rw[if_neg (h g CO),IR fun q hq=>h q (CH _ hq)];rfl
theorem SS {x:Str}(he:jh H v en)(hp:H p=some (.tup [.int key,.str x])):ik H 1 v (.ref p) (decide (en=some (key,x))):=by
 cases en with
 | none=>
  obtain rfl:v=V.non:=he;rw[Bj (by simp)];exact ik.jd (.inr ⟨U,.inl ⟨U,.inl ⟨p,Aa U hp⟩⟩⟩) _
 | some e=>
  obtain⟨pe,rfl,hpe⟩:=he;obtain⟨k',x'⟩:=e;refine .inr (.inl ⟨pe,p,_,_,fun i=>match i with | 0=>decide (k'=key) | _=>decide (x'=x),U,U,hpe,hp,fun i u w h1 h2=>?_,?_⟩)
  . match i,h1,h2 with
    | 0,h1,h2=>
     simp at h1 h2;subst h1 h2;have z:ik H 0 (V.int k') (V.int key) (Du (V.int k') (V.int key)):=Nn rfl rfl;have e:Du (V.int k') (V.int key)=decide (k'=key):=by rw[Cw];simp[Du]
     rw[e] at z;exact z
    | 1,h1,h2=>
     simp at h1 h2;subst h1 h2;have z:ik H 0 (V.str x') (V.str x) (Du (V.str x') (V.str x)):=Nn rfl rfl;have e:Du (V.str x') (V.str x)=decide (x'=x):=by rw[Cw];simp[Du]
     rw[e] at z;exact z
    | i+2,h1,h2=>simp at h1
  . show decide _=((decide (k'=key) && (decide (x'=x) && true)) && true);rw[Cw];simp
def L9 (K:W.Frag)(mg:gj)(lf:iG)(S:Sl)(B:Nat):Sp:=fun vs H Q _=>∃ (f:Addr)(size place key:Int)(D:Nat)(th:Tm)(vh v:V)(z:Str)(tt:Tm)(po:Option (List Tm))(os:List Tm)(en:Option (Int×Str)),vs=[.ref f,.int size,vh,.int place,.int key,.int D,v]/\gx K mg AU S H f/\iJ S H 100/\AE S H th vh/\Gd lf B th/\jg lf S H B v z tt po os en/\os.length<=1000/\D<=20/\size<=2 ^ 40/\
 ∀ H',Gr S 100 H H'->Q (.bl (FP po size place th key D z tt os en)) H'
theorem scWS:AA [Ag,AI,Br,Aw,AH,At,Bt,Cy,Dm] [Ag,AI,Br,Aw,AH,At,Bt] (Ah LG):=AD
theorem Y3 (lf:iG)(S:Sl)(B:Nat)(hB1:1<=B)(hB:B+25<=300)(hlf:lf = .nd)(F:gp K mg IU LG)(Ff:hU P w K mg base 2 N5 [AH,At,Dt] (UY S))(Ft:hU P w K mg base 2 Ku [Ag,At,DO] (Dz K mg Cy))(Fw:hU P w K mg base 3 Nq [Ag,AH,At,Dt] (RU K mg))(Fs:hU P w K mg base 20 GH ["one",F9] Lr)(Fl:hU P w K mg base 2 JQ [Ag,Dh,Cy] (Dz K mg Dm))
 (Fst:hU P w K mg base 21 LN [Ag,AI,Br,Aw,Dm,Ek] (Sx K mg lf (B+25))):hU P w K mg base 22 IU [Ag,AI,Br,Aw,AH,At,Bt] (L9 K mg lf S B):=by
 refine F.ok scWS (fun _ _ _ _ _ _=>gT fun _ _ _ _ _ _ _=>rfl) (fun _ _ _ _ h=>Ue h fun _ _ _ _ _ _ _ _ _ _ _ _ _=>rfl) (fun f0 ad A outer s H vs Q E hr h=>?_);refine TX h fun f size place key D th vh v z tt po os en hZ=>bL hZ fun eQ hS hc ih gh hK hol hD hsz q=>?_;clear hZ h;subst eQ;have nd:=scWS.nd;refine⟨_,Ae (Az (Dg (Ca (Ai Ff hr.m (An (pv 4) (pv 5) (As (pv 6)))))) (Aj Dx) AB) <|
  Ae (Ax 7 nd (Ai Ft hr.m (An (pv 0) (pv 5) (Ai Fw hr.m (BH (pv 0) (pv 4) (pv 5) (As (pv 6))))))) <|
  Ae (Az (Dg (Ca (Ai Fs hr.m (AG (pv 7) (As (pv 6)))))) (Aj Dx) AB) <|
  Ae (Ax 8 nd (Ai Fl hr.m (An (pv 0) (As (pv 6)) (pv 7)))) <|
  Aj (Ai Fst hr (BR (pv 0) (BR (pv 1) (BH (pv 2) (pv 3) (pv 8) (As (pv 6)))))),?_⟩
 obtain⟨p,vt,vp,vw,rfl,hp,it,gt,hpp,hw,hg⟩:=hK;unfold FP at q;refine Aa U (Aa U (Aa U ⟨p,_,Aa U ⟨U,hp,U,key,D,vw,os,en,U,hw,hol,Aa U ?_⟩⟩));cases hfit:Gp key D os.length en with
 | false=>
  refine AC ?_;have z1:=q H ((Gr.refl hS.told).up om);rw[hfit] at z1;exact z1
 | true=>
  refine AK ?_;rw[hfit,EH] at q;have hn:=Yy hfit;refine Aa U (Aa U (Aa U (Aa U (Aa U (Aa U ⟨p,_,Aa U ⟨U,hp,U,S,f,key,D,vw,os,en,U,hS,hw,hn,hD,hc.dn om,fun v1 H1 g1 i1=>?_⟩⟩)))));have hS1:=hS.up g1.gn;refine⟨S,f,.int (D:Int),_,_,Aa U ⟨hS1,hc.go g1.gn om,U,i1,fun v2 H2 g2 i2=>?_⟩⟩;have g12:=g1.trans g2;have hS2:=hS.up g12.gn;have hp2:=g12.gn.keep _ _ hp rfl;have gw:=TN hB1 (key:=key) (e:=en) D os hg;have gtb:Gd lf (B+22) (FU D (BL key D os (Ce en))):=⟨by show max 0 _+1<=_;have:=gw.1;exact om,Oi gw.2⟩
  refine⟨_,U,_,U,p,_,_,U,U,hp2,U,_,_,_,_,U,JY (g:=gS lf) (s:=.nd) (fun d e=>⟨gtb.2,gt.2,hS2.ints d e⟩) i2 (AO g12.gn it),by have:=gtb.1;exact om,_,U,?_⟩;cases heq:decide (FU D (BL key D os (Ce en))=tt) with
  | false=>
   refine AC ?_;have z1:=q H2 (g12.up om);rw[heq] at z1;exact z1
  | true=>
   refine AK ?_;rw[heq,EH] at q;refine Aa U (Aa U ⟨p,_,Aa U ⟨U,hp2,U,Aa U ⟨S,f,.str z,_,_,Aa U ⟨hS2,hc.go g12.gn om,U,i2,fun v3 H3 g3 i3=>?_⟩⟩⟩⟩);have g13:=g12.trans g3;have hp3:=g13.gn.keep _ _ hp rfl;have glf:Gd lf (B+25) (.nd Dm (.str z) (FU D (BL key D os (Ce en)))):=⟨by show max 0 _+1<=_;have:=gtb.1;exact om,R4 (by subst hlf;exact gtb.2)⟩
   refine Aa U (Aa U (Aa U (Aa U (Aa U (Aa U ⟨p,_,Aa U ⟨U,hp3,U,?_⟩⟩)))));exact⟨S,f,th,vh,_,_,vp,po,size,place,U,hS.up g13.gn,hc.go g13.gn om,AO g13.gn ih,i3,gh.mono om,glf,(hpp.up g13).mono om,hsz,hB,fun H4 g4=>q H4 ((g13.trans g4).up om)⟩
structure Jy (K:W.Frag)(mg:gj)(C:Addr):Prop where
 cl:jk K C
 n1:ig K C Aw
 n2:ig K C AH
 n3:ig K C KK
 n4:ig K C At
 j6:mg "Holds" = some (.ref C)
structure IE (K:W.Frag)(mg:gj)(C:Addr):Prop where
 cl:jk K C
 n1:ig K C Aw
 n2:ig K C AH
 n4:ig K C At
 j6:mg "Lacks" = some (.ref C)
noncomputable def T6 (p k:Int) (x:Str) (D:Nat):List (Str×V):=[(Aw,.int p),(AH,.int k),(KK,.str x),(At,.int D)]
noncomputable def Vm (p k:Int) (D:Nat):List (Str×V):=[(Aw,.int p),(AH,.int k),(At,.int D)]
def jF (C:Addr)(H:Hp)(x:Addr)(p k:Int)(z:Str)(D:Nat):Prop:=∃ dx,H x=some (.ins C dx (T6 p k z D))
def jD (C:Addr)(H:Hp)(x:Addr)(p k:Int)(D:Nat):Prop:=∃ dx,H x=some (.ins C dx (Vm p k D))
theorem jF.up {p k:Int}(h:jF C H x p k z D)(g:Gr S n H H'):jF C H' x p k z D:=by
 obtain⟨dx,h⟩:=h;exact⟨dx,g.same h⟩
theorem jD.up {p k:Int}(h:jD C H x p k D)(g:Gr S n H H'):jD C H' x p k D:=by
 obtain⟨dx,h⟩:=h;exact⟨dx,g.same h⟩
def UK (C:Addr):Sp:=fun vs H Q _=>∃ (p dx:Addr)(pl k:Int)(z:Str)(D:Nat),vs=[.ref p,.int pl,.int k,.str z,.int D]/\H p=some (.ins C dx [])/\∀ H',jF C H' p pl k z D->(∀ b o,H b=some o->b≠p->H' b=some o)->Q .non H'
theorem YI:AA [Ak,Aw,AH,Eo,At] [Ak,Aw,AH,Eo,At] (Ah Jz):=AD
theorem WO (F:gq K C Cj "Holds.__init__" Jz)(T:Jy K mg C):AF P w K mg base C 1 Cj [Ak,Aw,AH,Eo,At] (UK C):=by
 refine F.ok YI (fun _ _ _ _ _ _=>FJ fun _ _ _ _ _=>rfl) (fun _ _ _ _ h=>Do h fun _ _ _ _ _ _=>rfl) (fun f0 ad A outer s H vs Q E hr h=>?_);refine Df h fun p dx pl k z D hZ=>Ez hZ fun eQ hp q=>?_;clear hZ h;subst eQ;refine⟨_,Ae (Cs (pv 0) (pv 1) rfl) <| Ae (Cs (pv 0) (pv 2) rfl) <| Ae (Cs (pv 0) (pv 3) rfl) <| Ba (Cs (pv 0) (pv 4) rfl),?_⟩;have e1:AR Aw (V.int pl) []=([(Aw,.int pl)]:List (Str×V)):=rfl;have e2:AR AH (V.int k) ([(Aw,.int pl)]:List (Str×V))=([(Aw,.int pl),(AH,.int k)]:List (Str×V)):=IR (by simp only[CJ,FB];decide +kernel);have e3:AR KK (V.str z) ([(Aw,.int pl),(AH,.int k)]:List (Str×V))=([(Aw,.int pl),(AH,.int k),(KK,.str z)]:List (Str×V)):=IR (by simp only[CJ,FB];decide +kernel);have e4:AR At (V.int D) ([(Aw,.int pl),(AH,.int k),(KK,.str z)]:List (Str×V))=T6 pl k z D:=IR (by simp only[CJ,FB];decide +kernel);refine Aa U (Aa U ⟨p,C,dx,[],U,hp,T.cl,T.n1,(by show 0<1000;decide),?_⟩);rw[e1];refine Aa U (Aa U ⟨p,C,dx,Aa U ⟨Ad,T.cl,T.n2,(by show 1<1000;decide),?_⟩⟩);rw[e2,GG];refine Aa U (Aa U ⟨p,C,dx,Aa U ⟨Ad,T.cl,T.n3,(by show 2<1000;decide),?_⟩⟩);rw[e3,GG];refine Aa U (Aa U ⟨p,C,dx,Aa U ⟨Ad,T.cl,T.n4,(by show 3<1000;decide),?_⟩⟩);rw[e4,GG];exact q _ ⟨dx,Ad⟩ fun b o e hb=>by rw[Af hb];exact e
def Wl (C:Addr):Sp:=fun vs H Q _=>∃ (p dx:Addr)(pl k:Int)(D:Nat),vs=[.ref p,.int pl,.int k,.int D]/\H p=some (.ins C dx [])/\∀ H',jD C H' p pl k D->(∀ b o,H b=some o->b≠p->H' b=some o)->Q .non H'
theorem Yj:AA [Ak,Aw,AH,At] [Ak,Aw,AH,At] (Ah IC):=AD
theorem XY (F:gq K C Cj "Lacks.__init__" IC)(T:IE K mg C):AF P w K mg base C 1 Cj [Ak,Aw,AH,At] (Wl C):=by
 refine F.ok Yj (fun _ _ _ _ _ _=>Ho fun _ _ _ _=>rfl) (fun _ _ _ _ h=>DS h fun _ _ _ _ _=>rfl) (fun f0 ad A outer s H vs Q E hr h=>?_);refine DQ h fun p dx pl k D hZ=>Ez hZ fun eQ hp q=>?_;clear hZ h;subst eQ;refine⟨_,Ae (Cs (pv 0) (pv 1) rfl) <| Ae (Cs (pv 0) (pv 2) rfl) <| Ba (Cs (pv 0) (pv 3) rfl),?_⟩;have e1:AR Aw (V.int pl) []=([(Aw,.int pl)]:List (Str×V)):=rfl;have e2:AR AH (V.int k) ([(Aw,.int pl)]:List (Str×V))=([(Aw,.int pl),(AH,.int k)]:List (Str×V)):=IR (by simp only[CJ,FB];decide +kernel);have e4:AR At (V.int D) ([(Aw,.int pl),(AH,.int k)]:List (Str×V))=Vm pl k D:=IR (by simp only[CJ,FB];decide +kernel);refine Aa U (Aa U ⟨p,C,dx,[],U,hp,T.cl,T.n1,(by show 0<1000;decide),?_⟩);rw[e1];refine Aa U (Aa U ⟨p,C,dx,Aa U ⟨Ad,T.cl,T.n2,(by show 1<1000;decide),?_⟩⟩);rw[e2,GG];refine Aa U (Aa U ⟨p,C,dx,Aa U ⟨Ad,T.cl,T.n4,(by show 2<1000;decide),?_⟩⟩);rw[e4,GG];exact q _ ⟨dx,Ad⟩ fun b o e hb=>by rw[Af hb];exact e
def KO (K:W.Frag)(mg:gj)(C:Addr)(lf:iG)(S:Sl)(B:Nat):Sp:=fun vs H Q _=>∃ (x f:Addr)(size place key:Int)(wx:Str)(D:Nat)(th:Tm)(vh v:V)(z:Str)(tt:Tm)(po:Option (List Tm))(os:List Tm)(en:Option (Int×Str)),vs=[.ref x,.ref f,.int size,vh,v]/\jF C H x place key wx D/\gx K mg AU S H f/\iJ S H 100/\AE S H th vh/\Gd lf B th/\jg lf S H B v z tt po os en/\os.length<=1000/\D<=20/\size<=2 ^ 40/\
 ∀ H',Gr S 100 H H'->Q (.bl (Pj po size place th key wx D z tt os en)) H'
theorem Sw:AA [Ak,Ag,AI,Br,Bt] [Ak,Ag,AI,Br,Bt] (Ah Hf):=AD
theorem aj (lf:iG)(S:Sl)(B:Nat)(F:gq K C B1 PY Hf)(T:Jy K mg C)(Fk:hU P w K mg base 4 FM [Cb] (Ol lf S B))(Fs:hU P w K mg base 20 GH ["one",F9] Lr)(Fw:hU P w K mg base 22 IU [Ag,AI,Br,Aw,AH,At,Bt] (L9 K mg lf S B)):AF P w K mg base C 23 B1 [Ak,Ag,AI,Br,Bt] (KO K mg C lf S B):=by
 refine F.ok Sw (fun _ _ _ _ _ _=>FJ fun _ _ _ _ _=>rfl) (fun _ _ _ _ h=>b9 h fun _ _ _ _ _ _ _ _ _ _ _ _ _ _ _=>rfl) (fun f0 ad A outer s H vs Q E hr h=>?_);refine dD h fun x f size place key wx D th vh v z tt po os en hZ=>Gw hZ fun eQ gg1 hS hc ih gh hK hol hD hsz q=>?_;clear hZ h;subst eQ;obtain⟨dx,hx⟩:=gg1;refine⟨_,Ae (Az (Dg (Ca (Ai Fk hr.m (Ar (pv 4))))) (Aj Dx) AB) <|
  Ae (Az (Dg (Ca (Ai Fs hr.m (AG (As (As (pv 4))) (Bp (AG (Bi (pv 0) rfl) (Bi (pv 0) rfl))))))) (Aj Dx) AB) <|
  Aj (Ai Fw hr (BR (pv 1) (BR (pv 2) (BR (pv 3) (BH (Bi (pv 0) rfl) (Bi (pv 0) rfl) (Bi (pv 0) rfl) (pv 4)))))),?_⟩
 refine Aa U ⟨v,z,tt,po,os,en,U,hK,Aa U (AK ?_)⟩;obtain⟨p,vt,vp,vw,rfl,hp,it,gt,hpp,hw,hg⟩:=id hK;obtain⟨pw,a,ws,ve,rfl,hpw,ha,itw,he⟩:=id hw;refine Aa U ⟨p,_,Aa U ⟨U,hp,U,pw,_,Aa U ⟨U,hpw,U,Aa U ⟨x,C,dx,_,Aa U ⟨hx,T.cl,T.n2,U,Aa U ⟨x,C,dx,_,Aa U ⟨hx,T.cl,T.n3,U,(Cd),fun p1 hp1=>?_⟩⟩⟩⟩⟩⟩⟩;have g1:Gr S 0 H (Ab H p1 (.tup [.int key,.str wx])):=.new hS.told hp1;refine⟨_,_,1,Aa U ⟨SS (he.up g1.gn) Ad,om,Aa U ?_⟩⟩;unfold Pj at q;cases heq:decide (en=some (key,wx)) with
 | false=>
  refine AC ?_;have z1:=q _ (g1.up om);rw[heq] at z1;exact z1
 | true=>
  refine AK ?_;rw[heq,EH] at q;have hx1:=g1.same hx;refine Aa U (Aa U (Aa U (Aa U ⟨x,C,dx,_,Aa U ⟨hx1,T.cl,T.n1,U,Aa U ⟨x,C,dx,_,Aa U ⟨hx1,T.cl,T.n2,U,Aa U ⟨x,C,dx,_,Aa U ⟨hx1,T.cl,T.n4,U,Aa U ?_⟩⟩⟩⟩⟩⟩)));exact⟨f,size,place,key,D,th,vh,_,z,tt,po,os,en,U,hS.up g1.gn,hc.go g1.gn om,AO g1.gn ih,gh,hK.up g1,hol,hD,hsz,fun H2 g2=>q H2 ((g1.trans g2).up om)⟩
def L7 (K:W.Frag)(mg:gj)(C:Addr)(lf:iG)(S:Sl)(B:Nat):Sp:=fun vs H Q _=>∃ (x f:Addr)(size place key:Int)(D:Nat)(th:Tm)(vh v:V)(z:Str)(tt:Tm)(po:Option (List Tm))(os:List Tm)(en:Option (Int×Str)),vs=[.ref x,.ref f,.int size,vh,v]/\jD C H x place key D/\gx K mg AU S H f/\iJ S H 100/\AE S H th vh/\Gd lf B th/\jg lf S H B v z tt po os en/\os.length<=1000/\D<=20/\size<=2 ^ 40/\
 ∀ H',Gr S 100 H H'->Q (.bl (K0 po size place th key D z tt os en)) H'
theorem scLJ:AA [Ak,Ag,AI,Br,Bt,"end"] [Ak,Ag,AI,Br,Bt] (Ah Hk):=AD
theorem YE (lf:iG)(S:Sl)(B:Nat)(F:gq K C B1 QX Hk)(T:IE K mg C)(Fk:hU P w K mg base 4 FM [Cb] (Ol lf S B))(Fw:hU P w K mg base 22 IU [Ag,AI,Br,Aw,AH,At,Bt] (L9 K mg lf S B)):AF P w K mg base C 23 B1 [Ak,Ag,AI,Br,Bt] (L7 K mg C lf S B):=by
 refine F.ok scLJ (fun _ _ _ _ _ _=>FJ fun _ _ _ _ _=>rfl) (fun _ _ _ _ h=>bK h fun _ _ _ _ _ _ _ _ _ _ _ _ _ _=>rfl) (fun f0 ad A outer s H vs Q E hr h=>?_);refine gH h fun x f size place key D th vh v z tt po os en hZ=>Gw hZ fun eQ gg1 hS hc ih gh hK hol hD hsz q=>?_;clear hZ h;subst eQ;obtain⟨dx,hx⟩:=gg1;have nd:=scLJ.nd;refine⟨_,Ae (Az (Dg (Ca (Ai Fk hr.m (Ar (pv 4))))) (Aj Dx) AB) <|
  Ae (Ax 5 nd (As (As (pv 4)))) <|
  Ae (Az (PW.pt (O5 (Au QV (pv 5) Db) (NF (Au AL (As (pv 5)) (Bi (pv 0) rfl))))) (Aj Dx) AB) <|
  Aj (Ai Fw hr (BR (pv 1) (BR (pv 2) (BR (pv 3) (BH (Bi (pv 0) rfl) (Bi (pv 0) rfl) (Bi (pv 0) rfl) (pv 4)))))),?_⟩
 refine Aa U ⟨v,z,tt,po,os,en,U,hK,Aa U (AK ?_)⟩;obtain⟨p,vt,vp,vw,rfl,hp,it,gt,hpp,hw,hg⟩:=id hK;obtain⟨pw,a,ws,ve,rfl,hpw,ha,itw,he⟩:=id hw;refine Aa U ⟨p,_,Aa U ⟨U,hp,U,pw,_,Aa U ⟨U,hpw,U,?_⟩⟩⟩;have go:∀ t,(∀ H',Gr S 100 H H'->Q (.bl (FP po size place th key D z tt os en)) H')->Mv (Hs (L9 K mg lf S B) [] E0 (Cu (Eh 1) (Cu (Eh 2) (Cu (Eh 3) (Cu (LF K (Eh 0) Aw) (Cu (LF K (Eh 0) AH) (Cu (LF K (Eh 0) At) (Cu (Eh 4) D7)))))))) { nx:=fun _ H'=>Q .non H',rt:=Q } [some (.ref x),some (.ref f),some (.int size),some vh,some (.ref p),t] H:=fun t q=>by
  refine Aa U (Aa U (Aa U (Aa U ⟨x,C,dx,_,Aa U ⟨hx,T.cl,T.n1,U,Aa U ⟨x,C,dx,_,Aa U ⟨hx,T.cl,T.n2,U,Aa U ⟨x,C,dx,_,Aa U ⟨hx,T.cl,T.n4,U,Aa U ?_⟩⟩⟩⟩⟩⟩)));exact⟨f,size,place,key,D,th,vh,_,z,tt,po,os,en,U,hS,hc,ih,gh,hK,hol,hD,hsz,q⟩
 unfold K0 at q;cases en with
 | none=>
  obtain rfl:ve=V.non:=he;refine Aa U ⟨U,Aa U ?_⟩;rw[Be rfl];exact AK (go _ q)
 | some e=>
  obtain⟨pe,rfl,hpe⟩:=he;refine Aa U ⟨U,Aa U ?_⟩;rw[Bj (fun h=>nomatch h)];refine AC ?_;refine Aa U ⟨pe,_,Aa U ⟨U,hpe,U,Aa U ⟨x,C,dx,_,Aa U ⟨hx,T.cl,T.n2,U,U,Aa U ?_⟩⟩⟩⟩;have q':∀ H',Gr S 100 H H'->Q (.bl ((!decide (e.1=key)) && FP po size place th key D z tt os (some e))) H':=q;refine AN (fun c=>?_) (fun c=>?_)
  . have c':V.int e.1=V.int key:=Bm c;have c2:e.1=key:=by injection c'
    have z1:=q' H ((Gr.refl hS.told).up om);rw[Be c2] at z1;exact z1
  . have c2:¬ e.1=key:=fun h=>c (Be (by rw[h]));rw[Bj c2] at q';exact go _ q'
abbrev En:=Str×List (Al×V)×List Rw
noncomputable abbrev Bv (D:Nat) (e:En):Tm:=.nd Dm (.str e.1) (CQ D e.2.2)
noncomputable abbrev FA (D:Nat) (es:List En):Tm:=.nd Di (.int (es.length:Int)) (DC (es.map (Bv D)))
abbrev Of (k:Int)(D:Nat):Prop:=0<=k/\k<2 ^ D
noncomputable def Ew:List Rw->Option (Int×Str)
 | []=>none
 | r :: _=>some (r.1,r.2)
theorem S4 {b:Nat}(h:ac.length<=1):BQ b ac=Ce (Ew ac):=by
 match ac,h with
 | [],_=>exact HA b
 | [r],_=>exact Hj b r
theorem LC:∀ (D:Nat)(ac:List Rw)(k:Int),jO D ac->BQ D ac=BL k D (Bd D ac k).1 (Ce (Ew (Bd D ac k).2))
 | 0,ac,k,h=>by
  show BQ 0 ac=BL k 0 [] (Ce (Ew ac));rw[GJ];exact S4 h.zero
 | D+1,ac,k,h=>by
  by_cases h2:2<=ac.length
  . rw[FL h2,LI h2];have ih:=LC D (prt ac D (AV k D)) k (h.prt _);show _=BL k (D+1) (_ :: _) _;rw[HL,<- ih];rcases K9 k D with e | e
    . rw[if_pos e,e];rfl
    . rw[if_neg (by rw[e];decide),e];rfl
  . rw[FC om,GJ];exact S4 om
theorem VA (x:Int)(D:Nat):x / 2 ^ D=2 * (x / 2 ^ (D+1))+AV x D:=by
 have e:(2:Int) ^ (D+1)=2 ^ D * 2:=Int.pow_succ 2 D;unfold AV;rw[e,<- Sa (Int.pow_nonneg (by decide))];exact om
theorem U1:∀ (D:Nat)(ac:List Rw)(k:Int),(∀ r∈ac,r.1 / 2 ^ D=k / 2 ^ D)->∀ r∈(Bd D ac k).2,r.1 / 2 ^ (D - (Bd D ac k).1.length)=k / 2 ^ (D - (Bd D ac k).1.length)
 | 0,ac,k,h,r,hr=>h r hr
 | D+1,ac,k,h,r,hr=>by
  by_cases h2:2<=ac.length
  . rw[FL h2] at hr ⊢;have ih:=U1 D (prt ac D (AV k D)) k (fun r hr=>by
     have hm:=List.mem_filter.mp hr;have e1:AV r.1 D=AV k D:=Bm hm.2;rw[VA,VA k,h r hm.1,e1]) r hr
    rw[C5,Nat.add_sub_add_right];exact ih
  . rw[FC om] at hr ⊢;exact h r hr
theorem VP:∀ (D:Nat)(ac:List Rw)(k:Int),∀ r∈(Bd D ac k).2,r∈ac
 | 0,ac,k,r,hr=>hr
 | D+1,ac,k,r,hr=>by
  by_cases h2:2<=ac.length
  . rw[FL h2] at hr;exact(List.mem_filter.mp (VP D _ k r hr)).1
  . rw[FC om] at hr;exact hr
theorem Wf:∀ (D:Nat)(ac:List Rw)(k:Int),∀ r∈ac,r.1=k->r∈(Bd D ac k).2
 | 0,ac,k,r,hr,_=>hr
 | D+1,ac,k,r,hr,e=>by
  by_cases h2:2<=ac.length
  . rw[FL h2];exact Wf D _ k r (List.mem_filter.mpr ⟨hr,Be (by rw[e])⟩) e
  . rw[FC om];exact hr
theorem fu {k:Int}(h:jO D ac){x:Str}:Ew (Bd D ac k).2=some (k,x)↔(k,x)∈ac:=by
 have l:=RM D ac k h
 constructor
 . intro e;cases z:(Bd D ac k).2 with
   | nil=>rw[z] at e;cases e
   | cons r t=>
    rw[z] at e;have e:some (r.1,r.2)=some (k,x):=e;injection e with e
    have:=VP D ac k r (by rw[z];exact CO);rw[show r=(k,x) from e] at this;exact this
 . intro m;have m2:=Wf D ac k (k,x) m rfl;cases z:(Bd D ac k).2 with
   | nil=>rw[z] at m2;cases m2
   | cons r t=>
    rw[z] at m2 l;cases t with
    | nil=>rw[List.mem_singleton.mp m2];rfl
    | cons _ _=>simp at l
theorem cr {k:Int}(hk:Of k D)(hr:∀ r∈ac,Of r.1 D):Gp k D (Bd D ac k).1.length (Ew (Bd D ac k).2)=true:=by
 have z:∀ x:Int,Of x D->x / 2 ^ D=0:=fun x hx=>Qv hx.1 hx.2;unfold Gp;simp only[Gc,decide_eq_true_eq];refine⟨⟨hk,Hv D ac k⟩,?_⟩;cases e:(Bd D ac k).2 with
 | nil=>rfl
 | cons r t=>
  exact Be (U1 D ac k (fun r hr'=>by rw[z _ (hr r hr'),z _ hk]) r (by rw[e];exact CO))
structure ZD (D:Nat)(es:List En)(held:Nat)(po:Option (List Tm))(size place key:Int)(deep:Nat)(z:Str)(tt:Tm)(os:List Tm)(en:Option (Int×Str)):Prop where
 sz:size=(held:Int)
 p0:0<=place
 p1:place<size
 dp:deep=D
 ky:Of key D
 pp:∃ e,es[place.toNat]? = some e/\z=e.1/\tt=CQ D e.2.2/\po=some (CG ((es.take held).map (Bv D)) place.toNat)/\os=(Bd D e.2.2 key).1/\en=Ew (Bd D e.2.2 key).2
theorem YB (ok:∀ e∈es,jO D e.2.2/\∀ r∈e.2.2,Of r.1 D)(hh:held<=es.length) :
 FP po size place (FA D (es.take held)) key deep z tt os en=true↔ZD D es held po size place key deep z tt os en:=by
 have eb:FA D (es.take held) = .nd Di (.int (held:Int)) (DC ((es.map (Bv D)).take held)):=by
  show Tm.nd Di (.int ((es.take held).length:Int)) (DC ((es.take held).map (Bv D)))=_;rw[Cc,HW hh,PJ]
 have ms:(es.map (Bv D)).take held=(es.take held).map (Bv D):=by rw[PJ]
 unfold FP;simp only[Gc,decide_eq_true_eq];rw[eb]
 constructor
 . rintro⟨f,e1,e2⟩;by_cases hs':¬ (held:Int)=size
   . rw[gD hs'] at e2;cases e2
   have hs:=Classical.not_not.mp hs';by_cases hp':¬ (0<=place/\place<size)
   . rw[X8 hp'] at e2;cases e2
   have hp:=Classical.not_not.mp hp';cases po with
   | none=>cases e2
   | some pa=>
   have hi:place.toNat<es.length:=by exact om
   have ee:es[place.toNat]? = some es[place.toNat]:=Bc hi;have hm:=Vq (ts:=es.map (Bv D)) (size:=held) (held:=held) (place:=place.toNat) (os:=pa) (tl:=.nd Dm (.str z) (FU deep (BL key deep os (Ce en)))) (t0:=Bv D es[place.toNat]) om (by rw[AS];exact hh) (by rw[BG,ee];rfl);rw[show((place.toNat:Nat):Int)=place by exact om,hs] at hm;rw[<- hs] at e2;rw[hs,hm,decide_eq_true_eq] at e2;obtain⟨_,z1,z2⟩:=e2;injection z1 with _ z3 z4
   injection z3 with z3
   injection z4 with _ z5 z6
   injection z5 with z5
   have ed:deep=D:=by exact om
   subst ed;have okE:=ok _ (D3 hi);unfold Gp at f;simp only[Gc,decide_eq_true_eq] at f;have z6:BL key deep os (Ce en)=BQ deep es[place.toNat].2.2:=z6;rw[LC deep _ key okE.1] at z6;obtain⟨w1,w2⟩:=Pu deep os _ en _ f.1.2 (Hv _ _ _) z6;refine⟨hs.symm,hp.1,hp.2,U,f.1.1,_,ee,z3,?_,?_,w1,w2⟩
   . rw[<- e1,w1,w2,<- LC deep _ key okE.1]
   . rw[z2,ms]
 . rintro⟨rfl,p0,p1,rfl,ky,e,ee,rfl,rfl,rfl,rfl,rfl⟩;have okE:=ok e (CK ee);refine⟨cr ky okE.2,by rw[<- LC deep _ key okE.1],?_⟩;rw[<- LC deep _ key okE.1];have hm:=Vq (ts:=es.map (Bv deep)) (size:=held) (held:=held) (place:=place.toNat) (os:=CG ((es.take held).map (Bv deep)) place.toNat) (tl:=Bv deep e) (t0:=Bv deep e) om (by rw[AS];exact hh) (by rw[BG,ee];rfl);rw[show((place.toNat:Nat):Int)=place by exact om] at hm;exact hm.trans (Be ⟨U,U,by rw[ms]⟩)
open Tx in
def Vs:Sp:=fun vs H Q _=>∃ z:Str,vs=[.str z]/\z.length<=1000/\z.cps.all (· < 128)=true/\∀ H',(∀ b o,H b=some o->H' b=some o)->Q (.bl (decide (0<(sg z).length/\(sg z).length<=9) && dg (sg z))) H'
section
open Tx
theorem fG:AA [GD] [GD] (Ah NE):=AD
theorem Yb {tf tm:Tok}(F:gp K mg "is_key" NE)(mf:mg "FIGURES" = some (.str "0123456789" tf))(mm:mg "MOST_FIGURES" = some (.int 9 tm))(ml:mg B0=none)(ma:mg "all" = none):hU P w K mg base 1 "is_key" [GD] Vs:=by
 refine F.ok fG (fun _ _ _ _ _ _=>CM fun _=>rfl) (fun _ _ _ _ h=>GO h fun _=>rfl) (fun f0 ad A outer s H vs Q E hr h=>?_);refine Ha h fun z hZ=>Ej hZ fun eQ hz ha q=>?_;clear hZ h;subst eQ;refine' ⟨_,Aj (BV (VN Dj QM Ac (B7 N8 rfl ml boot_len (Ar (pv 0))) (KC (v:=.int 9) rfl mm ⟨_,U⟩)) (EF (B7 (ff rfl) rfl ma PyProof.Rows.boot_all (Ar (JK (ys:=[]) (js:=[]) ?ok (d8 (pv 0)) (fun _ _ _=>Gz) ?he))))),?rd⟩
 case ok=>
  refine⟨U,U,U,by decide +kernel,by decide +kernel,U,by decide +kernel,JE (fun p hp=>?_),U,fun i y h=>?_,U⟩
  . simp at hp
  . simp at h
 case he=>
  exact fun _ _ _=>CL dk (pv 0) (KC (v:=.str "0123456789") rfl mf ⟨_,U⟩) rfl
 case rd=>
 have hl:=CA z;refine Aa U ⟨z,U,by rw[Bf];exact om,_,Aa U ⟨U,Aa U ?_⟩⟩;have no:¬ (0<(sg z).length/\(sg z).length<=9)->Q (.bl false) H:=fun n=>by
  have:=q H fun _ _ e=>e;rw[Bj n] at this;exact this
 refine AN (fun c1=>?_) (fun c1=>?_)
 . refine⟨_,Aa U ⟨U,Aa U (AN (fun c2=>?_) (fun c2=>?_))⟩⟩
   . have d1:(0:Int)<(z.length:Nat):=Bm c1;have d2:((z.length:Nat):Int)<=9:=Bm c2;rw[hl] at d1 d2;have q:∀ H',(∀ b o,H b=some o->H' b=some o)->Q (.bl (dg (sg z))) H':=fun H' x=>by
      have:=q H' x;rw[Be ⟨om,om⟩,EH] at this;exact this
     refine Aa U ⟨z,U,ha,?_⟩;refine dJ (fun D i ys H'=>(∀ b o,H b=some o->H' b=some o)/\H' D=some (.lst ys)/\ys=((sg z).take i).map fun c=>V.bl (decide (48<=c/\c<=57))) (fun D hD=>⟨fun b o e=>by rw[Af (Aq e hD)];exact e,Ad,U⟩) ?_ ?_
     . rintro D i c ys H1 Qb hD hc ⟨x1,hD1,rfl⟩ hQ;have hc:(sg z)[i]? = some c:=by simpa using hc
       refine Aa U ⟨_,Aa U ⟨U,?_⟩⟩;rw[bp];have hi:i<(sg z).length:=(List.getElem?_eq_some_iff.mp hc).1;refine hQ _ H1 hD1 (by rw[Bf,AS,Cc];exact om) ⟨fun b o e=>by rw[Af (Aq e hD)];exact x1 b o e,Ad,?_⟩;rw[J9,hc];simp
     . rintro D ys H1 hD ⟨x1,hD1,rfl⟩;have ez:z.cps.size=(sg z).length:=by simp
       rw[ez,O9] at hD1;refine⟨D,(sg z).map fun c=>decide (48<=c/\c<=57),U,gy.of (by rw[E4];exact hD1),?_⟩;have e:((sg z).map fun c=>decide (48<=c/\c<=57)).all id=dg (sg z):=by
        unfold dg;rw[List.all_map]
        rfl
       rw[e];exact q H1 x1
   . have d2:¬ ((z.length:Nat):Int)<=9:=B8 (Bool.eq_false_iff.mpr c2);exact no (by rw[<- hl];exact om)
 . have d1:¬ (0:Int)<(z.length:Nat):=B8 (Bool.eq_false_iff.mpr c1);exact Aa U (AK (no (by rw[<- hl];exact om)))
end
section
open Tx PySem.NumText
def Se:Sp:=fun vs H Q _=>∃ (z:Str)(D:Nat)(pl:Int),vs=[.str z,.int (D:Int),.int pl]/\z.length<=1000/\z.cps.all (· < 128)=true/\pl.natAbs.log2<1920/\
 match D5 (sg z) D with
 | some k=>∀ H',(∀ b o,H b=some o->H' b=some o)->Q (.int (k:Int)) H'
 | none=>False
theorem scRdK:AA [GD,At,Aw,AH] [GD,At,Aw] (Ah Mf):=AD
theorem Y6 (F:gp K mg Oe Mf)(Fk:hU P w K mg base 1 "is_key" [GD] Vs)(Fi:hU P w K mg base 1 Ix [AH,At] NY)(mi:mg "int" = none):hU P w K mg base 3 Oe [GD,At,Aw] Se:=by
 refine F.ok scRdK (fun _ _ _ _ _ _=>Bx fun _ _ _=>rfl) (fun _ _ _ _ h=>HN h fun _ _ _=>rfl) (fun f0 ad A outer s H vs Q E hr h=>?_);refine HM h fun z D pl hZ=>G6 hZ fun eQ hz ha hp q=>?_;clear hZ h;subst eQ;have nd:=scRdK.nd;refine⟨_,Ae (Az (Dg (Ca (Ai Fk hr.m (Ar (pv 0))))) BY AB) <|
  Ae (Ax 3 nd (Gf eM rfl mi PyProof.Rows.boot_int (Ar (pv 0)))) <|
  Ae (Az (Dg (Ca (Ai Fi hr.m (AG (pv 3) (pv 1))))) BY AB) <|
  Aj (pv 3),?_⟩
 refine Aa U ⟨z,U,hz,ha,fun H1 x1=>Aa U ?_⟩;unfold D5 at q;cases hb:(decide (0<(sg z).length/\(sg z).length<=9) && dg (sg z)) with
 | false=>
  rw[if_neg (fun c=>by rw[Be ⟨c.1,c.2.1⟩,c.2.2.1] at hb;cases hb)] at q;exact AC q
 | true=>
  refine AK ?_;rw[Gc] at hb;have c1:=Bm hb.1;have c2:=dg_iff.mp hb.2;have rd:=PySem.intText_digits (x:=z) c2 (fun e=>by have:=c1.1;rw[show sg z=[] from e] at this;simp at this) om;refine Aa U ⟨z,Aa U ⟨rd,by rw[CA];exact om,?_⟩⟩;refine Aa U (Aa U ⟨_,D,U,Aa U ?_⟩);by_cases c3:digitsVal (sg z)<2 ^ D
  . rw[if_pos ⟨c1.1,c1.2,hb.2,c3⟩] at q;have c4:(0:Int)<=((digitsVal z.cps.toList:Nat):Int)/\((digitsVal z.cps.toList:Nat):Int)<2 ^ D:=⟨om,by exact_mod_cast c3⟩
    rw[Be c4];exact AK (Aa U (q H1 x1))
  . rw[if_neg (fun z=>c3 z.2.2.2)] at q;have c4:¬ ((0:Int)<=((digitsVal z.cps.toList:Nat):Int)/\((digitsVal z.cps.toList:Nat):Int)<2 ^ D):=fun y=>c3 (by exact_mod_cast y.2);rw[Bj c4];exact AC q
end
section
open Tx PySem.NumText
def RB:Sp:=fun vs H Q _=>∃ (z:Str)(D:Nat)(pl:Int),vs=[.str z,.int (D:Int),.int pl]/\z.length<=1000/\z.cps.all (· < 128)=true/\pl.natAbs.log2<1920/\
 match BA z D with
 | none=>False
 | some none=>∀ H',(∀ b o,H b=some o->H' b=some o)->Q .non H'
 | some (some (.put k v))=>∀ H' p,(∀ b o,H b=some o->H' b=some o)->H' p=some (.tup [.str "put",.int (k:Int),.str v])->Q (.ref p) H'
 | some (some (.cut k))=>∀ H' p,(∀ b o,H b=some o->H' b=some o)->H' p=some (.tup [.str "cut",.int (k:Int)])->Q (.ref p) H'
theorem scRdA:AA [Dq,At,Aw,"bare","parts"] [Dq,At,Aw] (Ah Nt):=AD
theorem ZP (F:gp K mg N7 Nt)(Fk:hU P w K mg base 3 Oe [GD,At,Aw] Se)(ml:mg B0=none):hU P w K mg base 4 N7 [Dq,At,Aw] RB:=by
 refine F.ok scRdA (fun _ _ _ _ _ _=>Bx fun _ _ _=>rfl) (fun _ _ _ _ h=>HN h fun _ _ _=>rfl) (fun f0 ad A outer s H vs Q E hr h=>?_);refine HM h fun z D pl hZ=>G6 hZ fun eQ hz ha hp q=>?_;clear hZ h;subst eQ;have nd:=scRdA.nd;refine⟨_,Ae (Ax 3 nd (Cv FX PySem.F.slot_str_lstrip PySem.F.type_str_lstrip ZG (pv 0) (Ar AT))) <|
  Ae (Az (PW.pt (Ge (Au AL (pv 3) AT) (Gs (Ca (Cv FX PK Pq Qa (pv 3) (Ar AT)))))) (Aj Db) AB) <|
  Ae (Az (Ca (Cv FX PK Pq Qa (pv 3) (Ar AT)))
   (Ae (Ax 4 nd (Cv FX PySem.F.slot_str_partition PySem.F.type_str_partition dM (Cg Uj (pv 3) (Cm (B7 N8 rfl ml boot_len (Ar AT))) Co) (Ar AT))) <|
    Ae (Az (Au AL (As (pv 4)) AT) BY AB) <|
    Aj (Bp (An AT (Ai Fk hr (An (As (pv 4)) (pv 1) (pv 2))) (As (pv 4))))) AB) <|
  Ae (Az (Ca (Cv FX PK Pq Qa (pv 3) (Ar AT)))
   (Aj (Bp (AG AT (Ai Fk hr (An (Cv FX PySem.F.slot_str_rstrip PySem.F.type_str_rstrip fV (Cg Uj (pv 3) (Cm (B7 N8 rfl ml boot_len (Ar AT))) Co) (Ar AT)) (pv 1) (pv 2)))))) AB) <|
  BY,?_⟩
 refine Aa U ⟨U,z," ",U,U,by rw[Bf];exact om,?_⟩;have hb:sg (Txt.lstripChars z " ")=(sg z).dropWhile (· == 32):=YC z;unfold BA at q;rw[<- hb] at q;have sub:(sg (Txt.lstripChars z " ")).Sublist (sg z):=by rw[hb];exact OW _
 have lb:(Txt.lstripChars z " ").length<=1000:=by rw[CA];have:=sub.length_le;rw[<- CA z] at this;exact om
 have az:∀ c∈sg z,c<128:=fun c hc=>by
  have:=Array.all_eq_true_iff_forall_mem.mp ha c (by simpa using hc);simpa using this
 have ab:∀ c∈sg (Txt.lstripChars z " "),c<128:=fun c hc=>az c (sub.subset hc);clear hb sub;generalize Txt.lstripChars z " " = b at q lb ab ⊢;have asc:∀ y:Str,(∀ c∈sg y,c∈sg b)->y.cps.all (· < 128)=true:=fun y hy=>Array.all_eq_true_iff_forall_mem.mpr fun c hc=>by
  have:=ab c (hy c (by simpa using hc));simpa using this
 unfold FT at q;refine Aa U ⟨U,Aa U ?_⟩;refine AN (fun c=>?_) (fun c=>?_)
 . have c':V.str b=V.str "":=Bm c;have c2:b = "":=by injection c'
   rw[if_pos (Or.inl (by rw[c2];rfl))] at q;exact AC (q H fun _ _ e=>e)
 have nb:¬ sg b=[]:=fun e=>c (Be (by rw[show b = "" from Kg e]));refine Aa U ⟨U,b,"#",U,U,Aa U ?_⟩;rw[OL,show sg "#" = [35] by decide +kernel];cases h35:List.isPrefixOf [35] (sg b) with
 | true=>
  rw[if_pos (Or.inr h35)] at q;exact AC (q H fun _ _ e=>e)
 | false=>
 refine AK ?_;rw[if_neg (fun y=>y.elim nb (fun y=>by rw[h35] at y;cases y))] at q;refine Aa U ⟨U,b,EX,U,U,Aa U ?_⟩;rw[OL,T5];have l4:(EX:Str).length=4:=by decide +kernel
 have l4':(J4:Str).length=4:=by decide +kernel
 cases hput:putL.isPrefixOf (sg b) with
 | true=>
  rw[if_pos hput] at q;refine AC ?_;have hr4:sg (Txt.slice b (some (((EX:Str).length:Nat):Int)) none)=(sg b).drop 4:=by rw[l4];exact Wh b 4
  have ls:=J6 b (some (((EX:Str).length:Nat):Int)) none;refine Aa U ⟨EX,U,om,Aa U ⟨b,U,by rw[Bf];exact om,U,_," ",U,U,om,by rw[Bf];exact om,fun p np=>?_⟩⟩;have x1:∀ v b' o,H b'=some o->(Ab H p v) b'=some o:=fun v b' o e=>by rw[Af (Aq e np)];exact e
  refine Aa U ⟨p,_,Aa U ⟨U,Ad,U,U,Aa U ?_⟩⟩;by_cases c32:32∈(sg b).drop 4
  . rw[if_pos c32] at q;have cut:(sg b).drop 4=((sg b).drop 4).takeWhile (· != 32)++32 :: (((sg b).drop 4).dropWhile (· != 32)).drop 1/\32∉((sg b).drop 4).takeWhile (· != 32):=by
     generalize (sg b).drop 4=l at c32;obtain⟨a,r,rfl,na⟩:∃ a r,l=a++32 :: r/\32∉a:=by
      obtain⟨a,r,e,n⟩:=List.append_of_mem c32 |> fun _=>List.eq_append_cons_of_mem c32
      exact⟨a,r,e,n⟩
     obtain⟨t1,t2⟩:=tw_no (b:=r) na;rw[t1,t2];exact⟨U,na⟩
    obtain⟨p1,p2,p3⟩:=fS (hr4.trans cut.1) cut.2;rw[Bj (fun y=>by rw[p2] at y;injection y with y;exact absurd y (by decide +kernel))];refine AK ?_;refine Aa U ⟨p,_,Aa U ⟨U,Ad,U,Aa U (Aa U ⟨_,D,pl,U,?_,asc _ (fun c' hc'=>?_),hp,?_⟩)⟩⟩
    . rw[CA,p1];have:=(RL (p:=(· != 32)) (l:=(sg b).drop 4)).length_le;rw[FS,<- CA] at this;exact om
    . rw[p1] at hc';exact JW ((RL _).subset hc')
    . rw[p1];cases hk:D5 (((sg b).drop 4).takeWhile (· != 32)) D with
      | none=>rw[hk] at q;exact q
      | some k=>
       rw[hk] at q;intro H2 x2;refine Aa U ⟨p,_,Aa U ⟨U,(x2 _ _ Ad),U,Eg,fun p3' np3=>?_⟩⟩;have ev:(Txt.partition (Txt.slice b (some (((EX:Str).length:Nat):Int)) none) " ").2.2=⟨((((sg b).drop 4).dropWhile (· != 32)).drop 1).toArray⟩:=Kg (by rw[p3]);rw[ev];exact q _ p3' (fun b' o e=>by rw[Af (Aq (x2 _ _ (x1 _ b' o e)) np3)];exact x2 _ _ (x1 _ b' o e)) Ad
  . rw[if_neg c32] at q;rw[eT (by rw[hr4];exact c32)];exact AC q
 | false=>
 refine AK ?_;rw[if_neg (by rw[hput];simp)] at q;refine Aa U ⟨U,b,J4,U,U,Aa U ?_⟩;rw[OL,XI];cases hcut:cutL.isPrefixOf (sg b) with
 | true=>
  rw[if_pos hcut] at q;refine AC ?_;have hr4:sg (Txt.slice b (some (((J4:Str).length:Nat):Int)) none)=(sg b).drop 4:=by rw[l4'];exact Wh b 4
  have ls:=J6 b (some (((J4:Str).length:Nat):Int)) none;have er:sg (Txt.rstripChars (Txt.slice b (some (((J4:Str).length:Nat):Int)) none) " ")=(((sg b).drop 4).reverse.dropWhile (· == 32)).reverse:=by rw[<- hr4];exact aP _
  have sb:∀ c'∈(((sg b).drop 4).reverse.dropWhile (· == 32)).reverse,c'∈sg b:=fun c' hc'=>by
   have h1:=(OW _).subset (List.mem_reverse.mp hc');exact JW (List.mem_reverse.mp h1)
  have ll:((((sg b).drop 4).reverse.dropWhile (· == 32)).reverse).length<=1000:=by
   have h1:=(OW (p:=(· == 32)) (l:=((sg b).drop 4).reverse)).length_le;rw[Ht,FS,<- CA] at h1;rw[Ht];exact om
  refine Aa U ⟨J4,U,om,Aa U ⟨b,U,by rw[Bf];exact om,U,_," ",U,U,by rw[Bf];exact om,Aa U (Aa U ⟨_,D,pl,U,?_,asc _ (fun c' hc'=>?_),hp,?_⟩)⟩⟩
  . rw[CA,er];exact ll
  . rw[er] at hc';exact sb c' hc'
  . rw[er];cases hk:D5 (((sg b).drop 4).reverse.dropWhile (· == 32)).reverse D with
    | none=>rw[hk] at q;exact q
    | some k=>
     rw[hk] at q;intro H2 x2;refine⟨Cd,fun p np=>?_⟩;exact q _ p (fun b' o e=>by rw[Af (Aq (x2 _ _ e) np)];exact x2 _ _ e) Ad
 | false=>
  rw[if_neg (by rw[hcut];simp)] at q;exact AK q
end
section
open Tx PySem.NumText
structure ZK (K:W.Frag)(mg:gj)(cE:Addr):Prop where
 xc:Ei K cE
 hm:mg "NoPlace" = some (.ref cE)
def SK (C:Addr):Sp:=fun vs H Q _=>∃ (x d f:Addr)(D:Nat)(kvs:List (Al×V))(k:Int)(v:V),vs=[.ref x,.int k]/\io C H x d f D kvs/\Of k D/\AX kvs (.inl k)=some v/\Q .non (Ab H d (.dK (C4 kvs (.inl k))))
theorem Yp:AA [Ak,AH] [Ak,AH] (Ah Ih):=AD
theorem XW (F:gq K C "cut" "Table.cut" Ih)(T:Txt K mg C)(Fc:AF P w K mg base C 2 Jj [Ak,AH] (LL C)):AF P w K mg base C 3 "cut" [Ak,AH] (SK C):=by
 refine F.ok Yp (fun _ _ _ _ _ _=>CB fun _ _=>rfl) (fun _ _ _ _ h=>Fx h fun _ _ _ _ _ _ _=>rfl) (fun f0 ad A outer s H vs Q E hr h=>?_);refine EY h fun x d f D kvs k v hZ=>G6 hZ fun eQ hT c e q=>?_;clear hZ h;subst eQ;obtain⟨⟨dx,h1⟩,h2⟩:=id hT;have hu:=Hq hr;refine⟨_,Ae (BT (Ct Fc (pv 0) T.cl hr (Ar (pv 1)))) <|
  Ae (Az (PH (Sd hu (pv 1) (Bi (pv 0) rfl))) BY AB) <|
  Ba (BT (Si (Bi (pv 0) rfl) (pv 1) ⟨U,U,U,U⟩)),?_⟩
 refine Aa U ⟨x,dx,Aa U ⟨h1,U,Aa U ⟨x,d,f,D,kvs,k,U,hT,c.1,c.2,?_⟩⟩⟩;refine Aa U (Aa U ⟨x,C,dx,_,Aa U ⟨h1,T.cl,T.nH,Lq _ _ _,d,Aa U ⟨iN.k (k:=.inl k) h2,Aa U ?_⟩⟩⟩);rw[e];exact AK (Aa U ⟨x,C,dx,_,Aa U ⟨h1,T.cl,T.nH,Lq _ _ _,d,U,.inl ⟨_,.inl h2⟩,Aa U ⟨kvs,.inl k,v,h2,U,e,q⟩⟩⟩)
def Vz (C:Addr):Sp:=fun vs H Q _=>∃ (x d f p:Addr)(D:Nat)(kvs:List (Al×V))(pl:Int),vs=[.ref x,.ref p,.int pl]/\pl.natAbs.log2<1920/\io C H x d f D kvs/\kvs.length<sizeLine/\
 ((∃ (k:Int)(v:Str),H p=some (.tup [.str "put",.int k,.str v])/\Of k D/\Q .non (Ab H d (.dK (BS kvs (.inl k) (.str v)))))\/
  (∃ k:Int,H p=some (.tup [.str "cut",.int k])/\Of k D/\(∀ v,AX kvs (.inl k)=some v->Q .non (Ab H d (.dK (C4 kvs (.inl k)))))/\(AX kvs (.inl k)=none->False)))
theorem ZX:AA [Cy,"step",Aw] [Cy,"step",Aw] (Ah On):=AD
theorem ej (F:gp K mg OE On)(T:Txt K mg C)(N:ZK K mg cE)(Mp:AF P w K mg base C 3 "put" [Ak,AH,Eo] (TZ C))(Mc:AF P w K mg base C 3 "cut" [Ak,AH] (SK C)):hU P w K mg base 4 OE [Cy,"step",Aw] (Vz C):=by
 refine F.ok ZX (fun _ _ _ _ _ _=>Bx fun _ _ _=>rfl) (fun _ _ _ _ h=>Fx h fun _ _ _ _ _ _ _=>rfl) (fun f0 ad A outer s H vs Q E hr h=>?_);refine EY h fun x d f p D kvs pl hZ=>G6 hZ fun eQ hpl hT hz q=>?_;clear hZ h;subst eQ;obtain⟨⟨dx,h1⟩,h2⟩:=id hT;refine⟨_,Ba (SG rfl ⟨U,U⟩ N.xc rfl N.hm
  (aE rfl fun aa R=>Ba (Az (Au AL (As (pv 1)) AT) (Ba (BT (Ct Mp (pv 0) T.cl hr (AG (As (pv 1)) (As (pv 1)))))) (Ba (BT (Ct Mc (pv 0) T.cl hr (Ar (As (pv 1))))))))
  (fun _=>BY)),?_⟩
 refine⟨fun _ _=>False,fun _ _ _ _ z=>z.elim,?_⟩;rcases q with⟨k,v,hp,hO,q⟩ | ⟨k,hp,hO,q1,q2⟩
 . refine Aa U ⟨p,_,Aa U ⟨U,hp,U,U,Aa U ?_⟩⟩;rw[Be rfl];refine AC (Aa U ⟨x,dx,Aa U ⟨h1,U,Aa U ⟨p,_,Aa U ⟨U,hp,U,Aa U ⟨p,_,Aa U ⟨U,hp,U,?_⟩⟩⟩⟩⟩⟩);exact⟨x,d,f,D,kvs,k,.str v,U,hT,hO.1,hO.2,hz,q⟩
 . refine Aa U ⟨p,_,Aa U ⟨U,hp,U,U,Aa U ?_⟩⟩;rw[Bj (fun z=>absurd (V.str.inj z) (by decide +kernel))];cases e:AX kvs (.inl k) with
   | none=>exact(q2 e).elim
   | some v=>exact AK ⟨_,U,x,dx,_,U,h1,U,_,U,p,_,_,U,U,hp,U,x,d,f,D,kvs,k,v,U,hT,hO,e,q1 v e⟩
noncomputable def BI (D:Nat):Nat->List Str->List (Al×V)->Sum Nat (List (Al×V))
 | _,[],kvs=>.inr kvs
 | n,r :: l,kvs=>match BA r D with
  | none=>.inl n
  | some none=>BI D (n+1) l kvs
  | some (some (.put k v))=>BI D (n+1) l (BS kvs (.inl (k:Int)) (.str v))
  | some (some (.cut k))=>match AX kvs (.inl (k:Int)) with
   | none=>.inl n
   | some _=>BI D (n+1) l (C4 kvs (.inl (k:Int)))
theorem V4 {r:Str}:(∀ k v,BA r D=some (some (.put k v))->Of (k:Int) D)/\(∀ k,BA r D=some (some (.cut k))->Of (k:Int) D):=by
 have key:∀ w k,D5 w D=some k->Of (k:Int) D:=fun w k h=>by
  unfold D5 at h;split at h
  . next c=>
    cases h
    refine⟨om,?_⟩;have:=c.2.2.2;have e2:((2 ^ D:Nat):Int)=(2:Int) ^ D:=by norm_cast
    rw[<- e2];exact om
  . cases h
 have kk:∀ b st,FT b D=some (some st)->match st with | .put k _=>Of (k:Int) D | .cut k=>Of (k:Int) D:=fun b st h=>by
  unfold FT at h;split at h
  . cases h
  . split at h
    . split at h
      . cases e:D5 ((b.drop 4).takeWhile (· != 32)) D with
        | none=>rw[e] at h;cases h
        | some k=>rw[e] at h;cases h;exact key _ _ e
      . cases h
    . split at h
      . cases e:D5 ((b.drop 4).reverse.dropWhile (· == 32)).reverse D with
        | none=>rw[e] at h;cases h
        | some k=>rw[e] at h;cases h;exact key _ _ e
      . cases h
 exact⟨fun k v h=>kk _ _ h,fun k h=>kk _ _ h⟩
end
section
open Tx
def RF (C:Addr):Sp:=fun vs H Q _=>∃ (x d f:Addr)(t:Str)(D:Nat)(kvs:List (Al×V)),vs=[.ref x,.str t,.int (D:Int)]/\io C H x d f D kvs/\kvs.length<=5000/\t.length<=sizeLine/\(Txt.split t "\n").length<=1000/\(∀ r∈Txt.split t "\n",r.length<=1000/\r.cps.all (· < 128)=true)/\
 match BI D 0 (Txt.split t "\n") kvs with
 | .inl n=>False
 | .inr kvs'=>∀ y e H',io C H' y e f D kvs'->(∀ b o,H b=some o->H' b=some o)->H y=none->H e=none->Q (.ref y) H'
theorem scCd:AA [Cy,Dh,At,"after",Aw,Dq,"step"] [Cy,Dh,At] (Ah O7):=AD
theorem WR {ac:List Str}{r:Str}(h:ac[i]? = some r):BI D n (ac.drop i) kvs=BI D n (r :: ac.drop (i+1)) kvs:=by
 have hi:=(List.getElem?_eq_some_iff.mp h).1;rw[PU hi,(List.getElem?_eq_some_iff.mp h).2]
theorem Zh (F:gp K mg MW O7)(T:Txt K mg C)(Mt:AF P w K mg base C 3 "twin" [Ak] (Tz C))(Fa:hU P w K mg base 4 N7 [Dq,At,Aw] RB)(Fs:hU P w K mg base 4 OE [Cy,"step",Aw] (Vz C))(me:mg "enumerate" = none):hU P w K mg base 5 MW [Cy,Dh,At] (RF C):=by
 refine F.ok scCd (fun _ _ _ _ _ _=>Bx fun _ _ _=>rfl) (fun _ _ _ _ h=>Do h fun _ _ _ _ _ _=>rfl) (fun f0 ad A outer s H vs Q E hr h=>?_);refine Df h fun x d f t D kvs hZ=>Ey hZ fun eQ hT hkl ht ah hrow q=>?_;clear hZ h;subst eQ;obtain⟨⟨dx,h1⟩,h2⟩:=id hT;have nd:=scCd.nd;refine⟨_,Ae (Ax 3 nd (Ky Mt (pv 0) T.cl hr.m)) <|
  Ae (Gv PassesOwn.never rfl (fU rfl me (Ar (Cv FX PySem.F.slot_str_split PySem.F.type_str_split YY (pv 1) (Ar AT)))) (Sc rfl (MB (Fm (i:=4) nd rfl (Or.inl rfl)) (MB (Fm (i:=5) nd rfl (Or.inl rfl)) Ti))) <|
   Ae (Ax 6 nd (Ai Fa hr (An (pv 5) (pv 2) (pv 4)))) <|
   Ba (Az (Au QV (pv 6) Db) (Ba (BT (Ai Fs hr (An (pv 3) (pv 6) (pv 4))))) AB)) <|
  Aj (pv 3),?_⟩
 refine Aa U ⟨x,dx,Aa U ⟨h1,U,x,d,f,D,kvs,U,hT,fun y e H1 T1 k1 ny ne=>?_⟩⟩;dsimp only[AZ];refine Aa U ⟨U,t,"\n",U,U,by decide +kernel,ht,by rw[Bf];exact om,fun l nl'=>?_⟩;generalize Txt.split t "\n" = ac at ah hrow q ⊢;generalize hres:BI D 0 ac kvs=res at q;have k2:∀ b o,H1 b=some o->Ab H1 l (.lst (ac.map V.str)) b=some o:=fun b o e=>by rw[Af (Aq e nl')];exact e
 obtain⟨⟨dy,y1⟩,y2⟩:=T1;refine⟨l,ac.map V.str,U,gy.of Ad,?_⟩;refine eK (xs:=ac.map V.str) (fun i σ H'=>(∀ b o,H b=some o->H' b=some o)/\H' l=some (.lst (ac.map V.str))/\(∃ kvi,io C H' y e f D kvi/\res=BI D i (ac.drop i) kvi/\kvi.length<=kvs.length+i)/\∃ o4 o5 o6,σ=[some (.ref x),some (.str t),some (.int (D:Int)),some (.ref y),o4,o5,o6])
  ⟨fun b o e=>k2 _ _ (k1 _ _ e),Ad,⟨kvs,⟨⟨dy,k2 _ _ y1⟩,k2 _ _ y2⟩,hres.symm,om⟩,none,none,none,U⟩ (fun i σ H' _ h=>gy.of h.2.1) ?_ ?_
 . rintro i v p σ H2 hv np ⟨x2,hl2,⟨kvi,T2,hg,hkv⟩,o4,o5,o6,rfl⟩;obtain⟨r,er,rfl⟩:∃ r,ac[i]? = some r/\v = .str r:=by
    rw[BG] at hv;cases e:ac[i]? with
    | none=>rw[e] at hv;cases hv
    | some r=>rw[e] at hv;exact⟨r,U,by simpa using hv.symm⟩
   have hi:i<ac.length:=(List.getElem?_eq_some_iff.mp er).1;have mem:=CK er;rw[WR er] at hg;have k3:∀ b o,H2 b=some o->Ab H2 p (.tup [.int (i:Nat),.str r]) b=some o:=fun b o e=>by rw[Af (Aq e np)];exact e
   have sm:((i:Nat):Int).natAbs.log2<1920:=by
    have:((i:Nat):Int).natAbs=i:=rfl;rw[this];exact GK (Nat.log2_le_self i) om
   refine⟨p,Aa U ⟨.inl (.inl Ad),U,_,Aa U ⟨_,Aa U ⟨U,?_⟩⟩⟩⟩;refine Aa U (Aa U (Aa U ⟨r,D,(i:Int),U,(hrow r mem).1,(hrow r mem).2,sm,?_⟩));unfold BI at hg;obtain⟨⟨dy2,t1⟩,t2⟩:=T2;have ty:∀ {H':Hp},(∀ b o,H2 b=some o->H' b=some o)->io C H' y e f D kvi:=fun k=>⟨⟨dy2,k _ _ t1⟩,k _ _ t2⟩
   have nye:y≠e:=by rintro rfl;rw[t1] at t2;cases t2
   have nle:l≠e:=by rintro rfl;rw[t2] at hl2;cases hl2
   have nxt:∀ (H3:Hp) (kv:List (Al×V)) (o6:Option V),(∀ b o,H2 b=some o->H3 b=some o)->kv.length<=kvs.length+(i+1)->res=BI D (i+1) (ac.drop (i+1)) kv->
    (∀ b o,H b=some o->Ab H3 e (.dK kv) b=some o)/\Ab H3 e (.dK kv) l=some (.lst (ac.map V.str))/\(∃ kvi,io C (Ab H3 e (.dK kv)) y e f D kvi/\res=BI D (i+1) (ac.drop (i+1)) kvi/\kvi.length<=kvs.length+(i+1))/\∃ o4' o5' o6',[some (.ref x),some (.str t),some (.int (D:Int)),some (.ref y),some (.int (i:Nat)),some (.str r),o6]=[some (.ref x),some (.str t),some (.int (D:Int)),some (.ref y),o4',o5',o6']:=fun H3 kv o6 k hl hg=>by
    refine⟨fun b o z=>?_,?_,⟨kv,⟨⟨dy2,?_⟩,Ad⟩,hg,hl⟩,_,_,_,U⟩
    . rw[Af (Aq z ne)];exact k _ _ (x2 _ _ z)
    . rw[Af nle];exact k _ _ hl2
    . rw[Af nye];exact k _ _ t1
   have of:=V4 (r:=r) (D:=D);cases hr2:BA r D with
   | none=>
    rw[hr2] at hg;rw[hg] at q;exact q
   | some o=>
    rw[hr2] at hg of;cases o with
    | none=>
     intro H3 x3;refine Aa U ⟨U,Aa U ?_⟩;rw[Be rfl];have kk:∀ b o,H2 b=some o->H3 b=some o:=fun b o e=>x3 _ _ (k3 _ _ e);exact AK ⟨fun b o e=>kk _ _ (x2 b o e),kk _ _ hl2,⟨kvi,ty kk,hg,om⟩,_,_,_,U⟩
    | some st=>
     cases st with
     | put a v2=>
      intro H3 p3 x3 h3;have kk:∀ b o,H2 b=some o->H3 b=some o:=fun b o e=>x3 _ _ (k3 _ _ e);refine Aa U ⟨U,Aa U ?_⟩;rw[Bj (fun h=>nomatch h)];refine AC ⟨_,U,_,U,_,U,y,e,f,p3,D,kvi,(i:Int),U,sm,ty kk,by rw[Bf];exact om,.inl ⟨a,v2,h3,of.1 a v2 rfl,?_⟩⟩;exact nxt H3 _ _ kk (by have:=JZ kvi (.inl (a:Int):Al) (V.str v2);exact om) hg
     | cut a=>
      dsimp only at hg;intro H3 p3 x3 h3;have kk:∀ b o,H2 b=some o->H3 b=some o:=fun b o e=>x3 _ _ (k3 _ _ e);refine Aa U ⟨U,Aa U ?_⟩;rw[Bj (fun h=>nomatch h)];refine AC ⟨_,U,_,U,_,U,y,e,f,p3,D,kvi,(i:Int),U,sm,ty kk,by rw[Bf];exact om,.inr ⟨a,h3,of.2 a rfl,fun v hv=>?_,fun hv=>?_⟩⟩
      . rw[hv] at hg;exact nxt H3 _ _ kk (by have:=Oo kvi (.inl (a:Int):Al);exact om) hg
      . rw[hv] at hg;rw[hg] at q;exact q
 . rintro σ H2 ⟨x2,hl2,⟨kvi,T2,hg,hkv⟩,o4,o5,o6,rfl⟩;rw[AS,OR] at hg;unfold BI at hg;rw[hg] at q;exact Aa U (q y e H2 T2 x2 ny ne)
end
structure Er (D:Nat)(e:En):Prop where
 w:jf D e.2.1
 l:e.2.1.length<=63
 s:iw e.2.1 e.2.2
 z:e.1.length<=2000
structure DW (K:W.Frag)(mg:gj)(C:Addr):Prop where
 cl:jk K C
 n1:ig K C Ag
 n2:ig K C At
 n3:ig K C EC
 n4:ig K C D9
 n5:ig K C "tables"
 j6:mg "Keeper" = some (.ref C)
noncomputable def UL (f:Addr) (D:Nat) (aT aL aB:Addr):List (Str×V):=[(Ag,.ref f),(At,.int (D:Int)),(EC,.ref aT),(D9,.ref aL),("tables",.ref aB)]
theorem K6 {k:Str}{v:V}:∀ {l:List (Str×V)},(∀ q∈l.map (·.1),q≠k)->AR k v l=l++[(k,v)]
 | [],_=>rfl
 | (g,x) :: r,h=>by
  show(if g=k then _ else(g,x) :: AR k v r)=_;rw[if_neg (h g CO),K6 fun q hq=>h q (CH _ hq)];rfl
structure ib (S:Sl)(n:Nat)(l:List Addr)(H H':Hp):Prop where
 gn:Gn S n H H'
 all:∀ b o,H b=some o->b∉l->S.d≠some b->H' b=some o
theorem ib.trans {a b:Nat}(g:ib S a l H H1)(g2:ib S b l H1 H2):ib S (a+b) l H H2:=⟨g.gn.trans g2.gn,fun c o h n d=>g2.all c o (g.all c o h n d) n d⟩
theorem ib.of (g:Gr S n H H'):ib S n l H H':=⟨g.gn,fun b o h _ d=>g.all b o h d⟩
theorem ib.chg {xs:List V}(t:C3 S H)(h:H p=some (.lst xs))(hp:p∈l):ib S 0 l H (Ab H p o'):=⟨Gn.chg t h rfl (fun _ e=>nomatch e),fun b o e n _=>by rw[Af (by rintro rfl;exact n hp)];exact e⟩
theorem ib.up {a b:Nat}(g:ib S a l H H1)(h:a<=b):ib S b l H H1:=⟨g.gn.up h,g.all⟩
theorem ib.kh {o:HO}(k:ib S n l H H')(t:C3 S H)(hl:∀ a∈l,∃ xs,H a=some (.lst xs))(h:H b=some o)(n1:∀ xs,o≠.lst xs)(n2:∀ kvs,o≠.dT kvs):H' b=some o:=by
 refine k.all b o h (fun z=>?_) fun z=>?_
 . obtain⟨xs,e⟩:=hl b z;rw[h] at e;cases e;exact n1 _ rfl
 . obtain⟨kvs,e⟩:=t b z;rw[h] at e;cases e;exact n2 _ rfl
theorem ib.lst {xs:List V}(k:ib S n l H H')(t:C3 S H)(h:H b=some (.lst xs))(nb:b∉l):H' b=some (.lst xs):=
 k.all b _ h nb fun z=>by
  obtain⟨kvs,e⟩:=t b z;rw[h] at e;cases e
def i9 (cT:Addr)(H:Hp)(f:Addr)(D:Nat)(kvl:List (List (Al×V)))(ws:List V):Prop:=Paired (fun kv v=>∃ t d,v=V.ref t/\io cT H t d f D kv) kvl ws
theorem i9.up {cT:Addr}(h:i9 cT H f D kvl ws)(g:Gr S n H H'):i9 cT H' f D kvl ws:=
 L2.Paired.je (fun kv v ⟨t,d,e,T⟩=>⟨t,d,e,T.up g⟩) h
theorem i9.off {cT:Addr}(h:i9 cT H f D kvl ws)(k:ib S n l H H')(t:C3 S H)(hl:∀ a∈l,∃ xs,H a=some (.lst xs)):i9 cT H' f D kvl ws:=
 L2.Paired.je (fun kv v ⟨tt,d,e,⟨dx,T1⟩,T2⟩=>⟨tt,d,e,⟨dx,k.kh t hl T1 (fun _ e=>nomatch e) (fun _ e=>nomatch e)⟩,k.kh t hl T2 (fun _ e=>nomatch e) (fun _ e=>nomatch e)⟩) h
theorem Tf {cT:Addr}(h:i9 cT H f D kvl ws):∀ {i:Nat}{kv:List (Al×V)},kvl[i]? = some kv->∃ t d,ws[i]? = some (.ref t)/\io cT H t d f D kv:=by
 induction h with
 | nil=>intro i kv e;simp at e
 | cons r _ ih=>
  intro i kv e;cases i with
  | zero=>
   obtain⟨t,d,rfl,T⟩:=r;rw[OJ] at e;cases e
   exact⟨t,d,U,T⟩
  | succ i=>exact ih (by simpa using e)
structure iE (C cT:Addr)(S:Sl)(H:Hp)(x f aT aL aB:Addr)(D:Nat)(es:List En):Prop where
 ob:∃ dx,H x=some (.ins C dx (UL f D aT aL aB))
 tx:H aT=some (.lst (es.map fun e=>V.str e.1))
 lv:∃ wL,H aL=some (.lst wL)/\Bs S H (es.map (Bv D)) wL
 tb:∃ ws,H aB=some (.lst ws)/\i9 cT H f D ([] :: es.map (·.2.1)) ws
 n1:aT≠aL
 n2:aT≠aB
 n3:aL≠aB
 ok:∀ e∈es,Er D e
theorem iE.up (h:iE C cT S H x f aT aL aB D es)(g:Gr S n H H'):iE C cT S H' x f aT aL aB D es:=by
 obtain⟨⟨dx,h1⟩,h2,⟨wL,h3,h4⟩,⟨ws,h5,h7⟩,n1,n2,n3,ok⟩:=h;exact⟨⟨dx,g.same h1⟩,g.lst h2,⟨wL,g.lst h3,AQ g.gn h4⟩,⟨ws,g.lst h5,h7.up g⟩,n1,n2,n3,ok⟩
theorem iE.off (h:iE C cT S H x f aT aL aB D es)(k:ib S n l H H')(t:C3 S H)(hl:∀ a∈l,∃ xs,H a=some (.lst xs))(m1:aT∉l)(m2:aL∉l)(m3:aB∉l):iE C cT S H' x f aT aL aB D es:=by
 obtain⟨⟨dx,h1⟩,h2,⟨wL,h3,h4⟩,⟨ws,h5,h7⟩,n1,n2,n3,ok⟩:=h;exact⟨⟨dx,k.kh t hl h1 (fun _ e=>nomatch e) (fun _ e=>nomatch e)⟩,k.lst t h2 m1,⟨wL,k.lst t h3 m2,AQ k.gn h4⟩,⟨ws,k.lst t h5 m3,h7.off k t hl⟩,n1,n2,n3,ok⟩
def So (C cT:Addr):Sp:=fun vs H Q _=>∃ (S:Sl)(p dx f:Addr)(D:Nat),vs=[.ref p,.ref f,.int (D:Int)]/\C3 S H/\H p=some (.ins C dx [])/\∀ aT aL aB H',iE C cT S H' p f aT aL aB D []->(∀ b o,H b=some o->b≠p->H' b=some o)->H aT=none->H aL=none->H aB=none->Q .non H'
theorem gM:AA [Ak,Ag,At] [Ak,Ag,At] (Ah IV):=AD
theorem eF (F:iB K C Cj "Keeper.__init__" IV (.int 8))(T:DW K mg C)(TT:Txt K mg cT)(M:Mk K cT fI)(GI:iC P w K mg base Bh 1 fI fdI [Ak,Ag,At] (Qc cT))(bI:iq K fdI [Ak,Ag,At] []):ke P w K mg base C 3 Cj [Ak,Ag,At] (So C cT) (.int 8):=by
 refine F.ok gM (fun _ _ _ _ _ _ _ _=>Bx fun _ _ _=>Aa U rfl) (fun _ _ _ _ _ _ _ _=>Wk fun _ _=>Aa U rfl) (fun vs H Q E h=>?_) (fun f0 ad A outer s H vs Q E hr h=>?_)
 . obtain⟨S,p,dx,f,D,rfl,_⟩:=h;rfl
 obtain⟨S,p,dx,f,D,rfl,tld,hp,k⟩:=h;refine⟨_,Ae (Cs (pv 0) (pv 1) rfl) <| Ae (Cs (pv 0) (pv 2) rfl) <| Ae (Cs (pv 0) (Ci CP) rfl) <| Ae (Cs (pv 0) (Ci CP) rfl) <|
  Ba (Cs (pv 0) (Ci (Ar (P9 M GI hr rfl TT.j6 bI .nil BD (AG (pv 1) (pv 2))))) rfl),?_⟩
 have e1:AR Ag (V.ref f) []=([(Ag,.ref f)]:List (Str×V)):=rfl;have e2:AR At (V.int (D:Int)) ([(Ag,.ref f)]:List (Str×V))=([(Ag,.ref f),(At,.int (D:Int))]:List (Str×V)):=K6 (by simp only[CJ,FB];decide +kernel);refine Aa U (Aa U ⟨p,C,dx,[],U,hp,T.cl,T.n1,(by show 0<1000;decide),?_⟩);rw[e1];refine Aa U (Aa U ⟨p,C,dx,Aa U ⟨Ad,T.cl,T.n2,(by show 1<1000;decide),?_⟩⟩);rw[e2,GG];refine⟨Dk,fun aT hT=>?_⟩;have npT:p≠aT:=Aq Ad hT;have hT0:H aT=none:=by rw[Af npT.symm] at hT;exact hT
 refine Aa U ⟨p,C,dx,Aa U ⟨(by rw[Af npT,Ad]),T.cl,T.n3,(by show 2<1000;decide),?_⟩⟩;have e3:AR EC (V.ref aT) ([(Ag,.ref f),(At,.int (D:Int))]:List (Str×V))=([(Ag,.ref f),(At,.int (D:Int)),(EC,.ref aT)]:List (Str×V)):=K6 (by simp only[CJ,FB];decide +kernel);rw[e3];generalize hH1:Ab (Ab (Ab H p (.ins C dx [(Ag,.ref f),(At,.int (D:Int))])) aT (.lst [])) p (.ins C dx [(Ag,.ref f),(At,.int (D:Int)),(EC,.ref aT)])=H1;have p1:H1 p=some (.ins C dx [(Ag,.ref f),(At,.int (D:Int)),(EC,.ref aT)]):=by rw[<- hH1,Ad]
 have t1:H1 aT=some (.lst []):=by rw[<- hH1,Af npT.symm,Ad]
 have k1:∀ b o,H b=some o->b≠p->H1 b=some o:=fun b o hb hn=>by rw[<- hH1,Af hn,Af (Aq hb hT0),Af hn];exact hb
 refine⟨Dk,fun aL hL=>?_⟩;have npL:p≠aL:=Aq p1 hL;have nTL:aT≠aL:=Aq t1 hL;have hL0:H aL=none:=by
  cases z:H aL with
  | none=>rfl
  | some o=>rw[k1 _ _ z npL.symm] at hL;cases hL
 refine Aa U ⟨p,C,dx,Aa U ⟨(by rw[Af npL];exact p1),T.cl,T.n4,(by show 3<1000;decide),?_⟩⟩;have e4:AR D9 (V.ref aL) ([(Ag,.ref f),(At,.int (D:Int)),(EC,.ref aT)]:List (Str×V))=([(Ag,.ref f),(At,.int (D:Int)),(EC,.ref aT),(D9,.ref aL)]:List (Str×V)):=K6 (by simp only[CJ,FB];decide +kernel);rw[e4];generalize hH2:Ab (Ab H1 aL (.lst [])) p (.ins C dx [(Ag,.ref f),(At,.int (D:Int)),(EC,.ref aT),(D9,.ref aL)])=H2;have p2:H2 p=some (.ins C dx [(Ag,.ref f),(At,.int (D:Int)),(EC,.ref aT),(D9,.ref aL)]):=by rw[<- hH2,Ad]
 have t2:H2 aT=some (.lst []):=by rw[<- hH2,Af npT.symm,Af nTL];exact t1
 have l2:H2 aL=some (.lst []):=by rw[<- hH2,Af npL.symm,Ad]
 have k2:∀ b o,H b=some o->b≠p->H2 b=some o:=fun b o hb hn=>by rw[<- hH2,Af hn,Af (Aq hb hL0)];exact k1 _ _ hb hn
 refine Aa U (Aa U (fun y dy ny ndy ney=>⟨y,dy,f,D,U,Ad,fun d H3 nd3 T3 k3=>⟨U,?_⟩⟩));have Gj:∀ b o,H2 b=some o->H3 b=some o:=fun b o h=>k3 b o (by rw[Af (Aq h ny),Af (Aq h ndy)];exact h) (Aq h ny);refine⟨EJ,fun aB hB=>?_⟩;have p3:=Gj _ _ p2;have npB:p≠aB:=Aq p3 hB;have nTB:aT≠aB:=Aq (Gj _ _ t2) hB;have nLB:aL≠aB:=Aq (Gj _ _ l2) hB;have hB0:H aB=none:=by
  cases z:H aB with
  | none=>rfl
  | some o=>rw[Gj _ _ (k2 _ _ z npB.symm)] at hB;cases hB
 refine Aa U ⟨p,C,dx,Aa U ⟨(by rw[Af npB];exact p3),T.cl,T.n5,(by show 4<1000;decide),?_⟩⟩;have e5:AR "tables" (V.ref aB) ([(Ag,.ref f),(At,.int (D:Int)),(EC,.ref aT),(D9,.ref aL)]:List (Str×V))=UL f D aT aL aB:=K6 (by simp only[CJ,FB];decide +kernel);rw[e5];obtain⟨⟨dy3,y3⟩,d3⟩:=T3;have nyB:y≠aB:=Aq y3 hB;have ndB:d≠aB:=Aq d3 hB;have nyp:y≠p:=Ne.symm (Aq p2 ny);have ndp:d≠p:=by rintro rfl;rw[p3] at d3;cases d3
 refine k aT aL aB _ ⟨⟨dx,Ad⟩,?_,⟨[],?_,.nil⟩,⟨[.ref y],?_,.cons ⟨y,d,U,⟨dy3,?_⟩,?_⟩ .nil⟩,nTL,nTB,nLB,by simp⟩ (fun b o hb hn=>?_) hT0 hL0 hB0
 . rw[Af npT.symm,Af nTB];exact Gj _ _ t2
 . rw[Af npL.symm,Af nLB];exact Gj _ _ l2
 . rw[Af npB.symm,Ad]
 . rw[Af nyp,Af nyB];exact y3
 . rw[Af ndp,Af ndB];exact d3
 . rw[Af hn,Af (Aq hb hB0)];exact Gj _ _ (k2 _ _ hb hn)
noncomputable def FN (sz:V) (n:Nat):Option Nat:=match sz with
 | .int i=>if 0<=i/\i<=(n:Int) then some i.toNat else none
 | _=>some n
def Q8 (sz:V):Prop:=sz = .non\/∃ i,sz = .int i
def TQ (C cT:Addr):Sp:=fun vs H Q _=>∃ (S:Sl)(x f aT aL aB:Addr)(D:Nat)(es:List En)(sz:V),vs=[.ref x,sz]/\iE C cT S H x f aT aL aB D es/\Q8 sz/\match FN sz es.length with
 | some n=>Q (.int (n:Int)) H
 | none=>False
theorem bi:AA [Ak,AI] [Ak,AI] (Ah Js):=AD
theorem aq (F:gq K C Nw Wm Js)(T:DW K mg C)(ml:mg B0=none):AF P w K mg base C 1 Nw [Ak,AI] (TQ C cT):=by
 refine F.ok bi (fun _ _ _ _ _ _=>CB fun _ _=>rfl) (fun _ _ _ _ h=>Iz h fun _ _ _ _ _ _ _ _ _=>rfl) (fun f0 ad A outer s H vs Q E hr h=>?_);refine Ig h fun S x f aT aL aB D es sz hZ=>Ej hZ fun eQ hK hz q=>?_;clear hZ h;subst eQ;obtain⟨dx,h1⟩:=hK.ob;refine⟨_,Ae (Az (Au GS (pv 1) Db) (Aj (AW ml (Bi (pv 0) rfl))) AB) <|
  Ae (Az (PW.pt (Ge (Au Dj (pv 1) Ac) (Gs (Au Fg (pv 1) (AW ml (Bi (pv 0) rfl)))))) BY AB) <|
  Aj (pv 1),?_⟩
 rcases hz with rfl | ⟨i,rfl⟩
 . refine Aa U ⟨U,Aa U (AC ?_)⟩;refine Aa U ⟨x,C,dx,_,Aa U ⟨h1,T.cl,T.n3,U,aT,Aa U ⟨.inl (gy.of hK.tx),?_⟩⟩⟩;rw[AS];exact q
 . refine Aa U ⟨U,Aa U (AK ?_)⟩;refine Aa U ⟨_,Aa U ⟨U,Aa U ?_⟩⟩;unfold FN at q;dsimp only at q;by_cases c1:i<0
   . rw[Be c1];rw[if_neg om] at q;exact AC (AC q)
   rw[Bj c1];refine AK ?_;refine Aa U (Aa U ⟨x,C,dx,_,Aa U ⟨h1,T.cl,T.n3,U,aT,Aa U ⟨.inl (gy.of hK.tx),_,Aa U ⟨U,Aa U ?_⟩⟩⟩⟩);rw[AS];by_cases c2:i > (es.length:Int)
   . rw[Be c2];rw[if_neg om] at q;exact AC q
   . rw[Bj c2];rw[if_pos ⟨om,om⟩] at q;have e:((i.toNat:Nat):Int)=i:=by exact om
     dsimp only at q;rw[e] at q;exact AK (Aa U q)
def NL:Sp:=fun vs H Q _=>∃ p n:Int,vs=[.int p,.int n]/\if 0<=p/\p<n then Q .non H else False
theorem Xn:AA [Aw,AI] [Aw,AI] (Ah Ny):=AD
theorem bW (F:gp K mg IA Ny):hU P w K mg base 1 IA [Aw,AI] NL:=by
 refine F.ok Xn (fun _ _ _ _ _ _=>CB fun _ _=>rfl) (fun _ _ _ _ h=>HJ h fun _ _=>rfl) (fun f0 ad A outer s H vs Q E hr h=>?_);refine HD h fun p n hZ=>?_;clear h;obtain⟨rfl,q⟩:=hZ;refine⟨_,Ba (Az (PW.pt (Ge (Au Dj (pv 0) Ac) (Gs (Au Pl (pv 0) (pv 1))))) BY AB),?_⟩;refine Aa U ⟨_,Aa U ⟨U,Aa U ?_⟩⟩;by_cases c1:p<0
 . rw[Be c1];rw[if_neg om] at q;exact AC (AC q)
 rw[Bj c1];refine AK ?_;refine Aa U (Aa U ⟨_,Aa U ⟨U,Aa U ?_⟩⟩);by_cases c2:p>=n
 . rw[Be c2];rw[if_neg om] at q;exact AC q
 . rw[Bj c2];rw[if_pos ⟨om,om⟩] at q;exact AK q
def PZ (C cT:Addr):Sp:=fun vs H Q _=>∃ (S:Sl)(x f aT aL aB:Addr)(D:Nat)(es:List En)(p:Int),vs=[.ref x,.int p]/\iE C cT S H x f aT aL aB D es/\
 ((0<=p/\p<(es.length:Int))->∀ e t d,es[p.toNat]? = some e->io cT H t d f D e.2.1->Q (.ref t) H)/\(¬ (0<=p/\p<(es.length:Int))->False)
theorem fR:AA [Ak,Aw] [Ak,Aw] (Ah Jb):=AD
theorem aY (F:gq K C KR V1 Jb)(T:DW K mg C)(Fc:hU P w K mg base 1 IA [Aw,AI] NL)(ml:mg B0=none):AF P w K mg base C 2 KR [Ak,Aw] (PZ C cT):=by
 refine F.ok fR (fun _ _ _ _ _ _=>CB fun _ _=>rfl) (fun _ _ _ _ h=>Iz h fun _ _ _ _ _ _ _ _ _=>rfl) (fun f0 ad A outer s H vs Q E hr h=>?_);refine Ig h fun S x f aT aL aB D es p hZ=>Ej hZ fun eQ hK q1 q2=>?_;clear hZ h;subst eQ;obtain⟨dx,h1⟩:=hK.ob;obtain⟨ws,h5,h7⟩:=hK.tb;refine⟨_,Ae (BT (Ai Fc hr (AG (pv 1) (AW ml (Bi (pv 0) rfl))))) <|
  Aj (Bw BP (Bi (pv 0) rfl) (Ao CI (pv 1) Ac)),?_⟩
 refine Aa U (Aa U ⟨x,C,dx,_,Aa U ⟨h1,T.cl,T.n3,U,aT,Aa U ⟨.inl (gy.of hK.tx),p,Aa U ?_⟩⟩⟩);rw[AS];by_cases c:0<=p/\p<(es.length:Int)
 . rw[if_pos c];have hi:p.toNat<es.length:=by exact om
   have e1:([] :: es.map (·.2.1))[p.toNat+1]? = some es[p.toNat].2.1:=by rw[NS,BG,Bc hi];rfl
   obtain⟨t,d,et,Tt⟩:=Tf h7 e1;have ei:BF ws (p+1)=some (.ref t):=by
    have z:=BK et;rw[show((p.toNat+1:Nat):Int)=p+1 by exact om] at z;exact z
   exact Aa U ⟨x,C,dx,_,Aa U ⟨h1,T.cl,T.n5,U,Aa U ⟨_,Aa U ⟨U,aB,_,_,Aa U ⟨U,gy.of h5,ei,q1 c _ t d (Bc hi) Tt⟩⟩⟩⟩⟩
 . rw[if_neg c];exact q2 c
def UO (C cT:Addr):Sp:=fun vs H Q _=>∃ (S:Sl)(x f aT aL aB:Addr)(D:Nat)(es:List En)(p:Int),vs=[.ref x,.int p]/\iE C cT S H x f aT aL aB D es/\
 ((0<=p/\p<(es.length:Int))->∀ e,es[p.toNat]? = some e->Q (.str e.1) H)/\(¬ (0<=p/\p<(es.length:Int))->False)
theorem YF:AA [Ak,Aw] [Ak,Aw] (Ah Jl):=AD
theorem cg (F:gq K C Dh "Keeper.text" Jl)(T:DW K mg C)(Fc:hU P w K mg base 1 IA [Aw,AI] NL)(ml:mg B0=none):AF P w K mg base C 2 Dh [Ak,Aw] (UO C cT):=by
 refine F.ok YF (fun _ _ _ _ _ _=>CB fun _ _=>rfl) (fun _ _ _ _ h=>Iz h fun _ _ _ _ _ _ _ _ _=>rfl) (fun f0 ad A outer s H vs Q E hr h=>?_);refine Ig h fun S x f aT aL aB D es p hZ=>Ej hZ fun eQ hK q1 q2=>?_;clear hZ h;subst eQ;obtain⟨dx,h1⟩:=hK.ob;refine⟨_,Ae (BT (Ai Fc hr (AG (pv 1) (AW ml (Bi (pv 0) rfl))))) <|
  Aj (Bw BP (Bi (pv 0) rfl) (pv 1)),?_⟩
 refine Aa U (Aa U ⟨x,C,dx,_,Aa U ⟨h1,T.cl,T.n3,U,aT,Aa U ⟨.inl (gy.of hK.tx),p,Aa U ?_⟩⟩⟩);rw[AS];by_cases c:0<=p/\p<(es.length:Int)
 . rw[if_pos c];have hi:p.toNat<es.length:=by exact om
   have ei:BF (es.map fun e=>V.str e.1) p=some (.str es[p.toNat].1):=by
    have z:BF (es.map fun e=>V.str e.1) ((p.toNat:Nat):Int)=some (.str es[p.toNat].1):=BK (by rw[BG,Bc hi];rfl);rw[show((p.toNat:Nat):Int)=p by exact om] at z;exact z
   exact Aa U ⟨x,C,dx,_,Aa U ⟨h1,T.cl,T.n3,U,Aa U ⟨aT,_,_,Aa U ⟨U,gy.of hK.tx,ei,q1 c _ (Bc hi)⟩⟩⟩⟩
 . rw[if_neg c];exact q2 c
theorem LM {e:En}(h:Er D e)(D16:D<=16):C1 D e.2.2+1<=3000:=by
 have cl:=NO D e.2.2;have rl:=h.s.len;have h8:=h.l;have:D * e.2.2.length<=16 * 63:=JF D16 om;exact om
def T8 (K:W.Frag)(mg:gj)(C cT:Addr):Sp:=fun vs H Q _=>∃ (S:Sl)(x f aT aL aB:Addr)(D:Nat)(es:List En)(p:Int),vs=[.ref x,.int p]/\iE C cT S H x f aT aL aB D es/\gx K mg AU S H f/\D<=16/\iJ S H 3000/\
 ((0<=p/\p<(es.length:Int))->∀ e v H',es[p.toNat]? = some e->Gr S 3000 H H'->AE S H' (CQ D e.2.2) v->Q v H')/\(¬ (0<=p/\p<(es.length:Int))->False)
theorem W0:AA [Ak,Aw] [Ak,Aw] (Ah Jh):=AD
theorem fM (F:gq K C O2 "Keeper.table_head" Jh)(T:DW K mg C)(TT:Txt K mg cT)(Mb:AF P w K mg base C 2 KR [Ak,Aw] (PZ C cT))(Mh:AF P w K mg base cT 20 Br [Ak] (QE K mg cT)):AF P w K mg base C 21 O2 [Ak,Aw] (T8 K mg C cT):=by
 refine F.ok W0 (fun _ _ _ _ _ _=>CB fun _ _=>rfl) (fun _ _ _ _ h=>Iz h fun _ _ _ _ _ _ _ _ _=>rfl) (fun f0 ad A outer s H vs Q E hr h=>?_);refine Ig h fun S x f aT aL aB D es p hZ=>Ey hZ fun eQ hK hS D16 hc q1 q2=>?_;clear hZ h;subst eQ;obtain⟨dx,h1⟩:=hK.ob;refine⟨_,Aj (Ky Mh (Ct Mb (pv 0) T.cl hr.m (Ar (pv 1))) TT.cl hr),?_⟩;refine Aa U ⟨x,dx,Aa U ⟨h1,U,Aa U ⟨S,x,f,aT,aL,aB,D,es,p,U,hK,fun c e t d ee Tt=>?_,q2⟩⟩⟩;obtain⟨⟨dt,t1⟩,t2⟩:=id Tt;have eo:=hK.ok e (CK ee);have ct:=LM eo D16;have h8:=eo.l;exact⟨t,dt,Aa U ⟨t1,U,S,t,d,f,D,e.2.1,e.2.2,U,Tt,hS,eo.w,om,eo.s,D16,hc.dn ct,fun v H' g i=>q1 c e v H' ee (g.up ct) i⟩⟩
theorem TU {sz:V}{len:Nat}(h:FN sz len=some n):n<=len:=by
 unfold FN at h;split at h
 . split at h
   . next i c=>cases h;exact om
   . cases h
 . cases h;exact Ay _
def Vj (K:W.Frag)(mg:gj)(C cT:Addr):Sp:=fun vs H Q _=>∃ (S:Sl)(x f aT aL aB:Addr)(D:Nat)(es:List En)(p:Int)(sz:V),vs=[.ref x,.int p,sz]/\iE C cT S H x f aT aL aB D es/\gx K mg AU S H f/\Q8 sz/\es.length<=300/\iJ S H 310/\match FN sz es.length with
 | some n=>((0<=p/\p<(n:Int))->∀ r rs H',Gr S 310 H H'->H' r=some (.lst rs)->Bs S H' (CG ((es.take n).map (Bv D)) p.toNat) rs->Q (.ref r) H')/\(¬ (0<=p/\p<(n:Int))->False)
 | none=>False
theorem scKP:AA [Ak,Aw,AI,Cr] [Ak,Aw,AI] (Ah Il):=AD
theorem aH (F:iB K C Ek "Keeper.path" Il .non)(T:DW K mg C)(Ms:AF P w K mg base C 1 Nw [Ak,AI] (TQ C cT))(Fc:hU P w K mg base 1 IA [Aw,AI] NL)(Fp:hU P w K mg base 13 Oj [Ag,D9,Aw] (Og K mg 9)):ke P w K mg base C 14 Ek [Ak,Aw,AI] (Vj K mg C cT) .non:=by
 refine F.ok scKP (fun _ _ _ _ _ _ _ _=>Bx fun _ _ _=>Aa U rfl) (fun _ _ _ _ _ _ _ _=>Wk fun _ _=>Aa U rfl) (fun vs H Q E h=>?_) (fun f0 ad A outer s H vs Q E hr h=>?_)
 . obtain⟨S,x,f,aT,aL,aB,D,es,p,sz,rfl,_⟩:=h;rfl
 obtain⟨S,x,f,aT,aL,aB,D,es,p,sz,rfl,hK,hS,hz,hl,hc,q⟩:=h;have nd:=scKP.nd;obtain⟨dx,h1⟩:=hK.ob;obtain⟨wL,h3,h4⟩:=hK.lv;refine⟨_,Ae (Ax 3 nd (Ct Ms (pv 0) T.cl hr.m (Ar (pv 2)))) <|
  Ae (BT (Ai Fc hr.m (AG (pv 1) (pv 3)))) <|
  Aj (Ai Fp hr (An (Bi (pv 0) rfl) (Cg C9 (Bi (pv 0) rfl) Co (Cm (pv 3))) (pv 1))),?_⟩
 refine Aa U ⟨x,dx,Aa U ⟨h1,U,Aa U ⟨S,x,f,aT,aL,aB,D,es,sz,U,hK,hz,?_⟩⟩⟩;cases hn':FN sz es.length with
 | none=>rw[hn'] at q;exact q
 | some n=>
 rw[hn'] at q;obtain⟨q1,q2⟩:=q;have hn:=TU hn';refine Aa U (Aa U ⟨p,n,U,?_⟩);by_cases c:0<=p/\p<(n:Int)
 . rw[if_pos c];have ep:((p.toNat:Nat):Int)=p:=by exact om
   refine Aa U ⟨x,C,dx,_,Aa U ⟨h1,T.cl,T.n1,U,Aa U ⟨x,C,dx,_,Aa U ⟨h1,T.cl,T.n4,U,Aa U (Aa U ⟨aL,wL,U,gy.of h3,fun p1 hp1=>Aa U ?_⟩)⟩⟩⟩⟩;have g1:Gr S 0 H (Ab H p1 (.lst (B2 wL none (some (n:Int))))):=.new hS.told hp1;have l1:Ab H p1 (.lst (B2 wL none (some (n:Int)))) p1=some (.lst (wL.take n)):=by rw[Ad,show B2 wL none (some (n:Int))=wL.take n from EO]
   have lt:((es.take n).map (Bv D)).length=n:=by rw[AS,Cc];exact om
   exact⟨S,f,p1,_,(es.take n).map (Bv D),p.toNat,by rw[ep];rfl,hS.up g1.gn,gy.of l1,by rw[PJ];exact EI n (AQ g1.gn h4),om,om,hc.go g1.gn om,fun r rs H2 g2 nr er ir=>q1 c r rs H2 ((g1.trans g2).up om) er ir⟩
 . rw[if_neg c];exact q2 c
def RK (K:W.Frag)(mg:gj)(C cT:Addr):Sp:=fun vs H Q _=>∃ (S:Sl)(x f aT aL aB:Addr)(D:Nat)(es:List En)(p k:Int),vs=[.ref x,.int p,.int k]/\iE C cT S H x f aT aL aB D es/\gx K mg AU S H f/\D<=16/\iJ S H 3000/\
 (((0<=p/\p<(es.length:Int))/\Of k D)->∀ e q r H',es[p.toNat]? = some e->Gr S 3000 H H'->jb S H' q r (Bd D e.2.2 k)->Q (.ref q) H')/\(¬ ((0<=p/\p<(es.length:Int))/\Of k D)->False)
theorem Zp:AA [Ak,Aw,AH] [Ak,Aw,AH] (Ah IZ):=AD
theorem X4 (F:gq K C Dt "Keeper.way" IZ)(T:DW K mg C)(TT:Txt K mg cT)(Mb:AF P w K mg base C 2 KR [Ak,Aw] (PZ C cT))(Mw:AF P w K mg base cT 20 Dt [Ak,AH] (RY K mg cT)):AF P w K mg base C 21 Dt [Ak,Aw,AH] (RK K mg C cT):=by
 refine F.ok Zp (fun _ _ _ _ _ _=>Bx fun _ _ _=>rfl) (fun _ _ _ _ h=>QU h fun _ _ _ _ _ _ _ _ _ _=>rfl) (fun f0 ad A outer s H vs Q E hr h=>?_);refine OZ h fun S x f aT aL aB D es p k hZ=>Ey hZ fun eQ hK hS D16 hc q1 q2=>?_;clear hZ h;subst eQ;obtain⟨dx,h1⟩:=hK.ob;refine⟨_,Aj (Ct Mw (Ct Mb (pv 0) T.cl hr.m (Ar (pv 1))) TT.cl hr (Ar (pv 2))),?_⟩;refine Aa U ⟨x,dx,Aa U ⟨h1,U,Aa U ⟨S,x,f,aT,aL,aB,D,es,p,U,hK,fun c e t d ee Tt=>?_,fun c=>q2 fun z=>c z.1⟩⟩⟩;obtain⟨⟨dt,t1⟩,t2⟩:=id Tt;have eo:=hK.ok e (CK ee);have h8:=eo.l;have rl:=eo.s.len;refine⟨t,dt,Aa U ⟨t1,U,Aa U ?_⟩⟩;by_cases ck:Of k D
 . have wl:DB D e.2.2 k<=3000:=by
    have:=Qu D e.2.2 k;have h2:D * e.2.2.length<=16 * 63:=JF D16 om;exact om
   exact⟨S,t,d,f,D,e.2.1,e.2.2,k,U,Tt,hS,eo.w,om,eo.s,D16,ck.1,ck.2,hc.dn wl,fun q r H' g _ _ wy=>q1 ⟨c,ck⟩ e q r H' ee (g.up wl) wy⟩
 . exact(q2 fun z=>ck z.2).elim
def IB (S:Sl)(H:Hp)(q:Addr)(z:Str)(t:Tm)(ts:List Tm)(wy:List Tm×List Rw):Prop:=∃ u r rs p r2,H q=some (.tup [.str z,u,.ref r,.ref p])/\AE S H t u/\H r=some (.lst rs)/\Bs S H ts rs/\jb S H p r2 wy
theorem jb.gr (h:jb S H p r wy)(g:Gr S n H H'):jb S H' p r wy:=by
 obtain⟨os,ev,h1,h2,h3,h4⟩:=h;exact⟨os,ev,g.same h1,g.lst h2,AQ g.gn h3,h4.up g.gn⟩
def QN (K:W.Frag)(mg:gj)(C cT:Addr):Sp:=fun vs H Q _=>∃ (S:Sl)(x f aT aL aB:Addr)(D:Nat)(es:List En)(p k:Int)(sz:V),vs=[.ref x,.int p,.int k,sz]/\iE C cT S H x f aT aL aB D es/\gx K mg AU S H f/\Q8 sz/\es.length<=300/\D<=16/\iJ S H 7000/\
 (∀ n e q H',FN sz es.length=some n->(0<=p/\p<(n:Int))->Of k D->es[p.toNat]? = some e->Gr S 7000 H H'->IB S H' q e.1 (CQ D e.2.2) (CG ((es.take n).map (Bv D)) p.toNat) (Bd D e.2.2 k)->Q (.ref q) H')/\
 ((∀ n,FN sz es.length=some n->¬ ((0<=p/\p<(n:Int))/\Of k D))->False)
theorem scKQ:AA [Ak,Aw,AH,AI,Ek] [Ak,Aw,AH,AI] (Ah J1):=AD
theorem YK (F:iB K C Bt "Keeper.paper" J1 .non)(T:DW K mg C)(Mp:AF P w K mg base C 14 Ek [Ak,Aw,AI] (Vj K mg C cT))(Mx:AF P w K mg base C 2 Dh [Ak,Aw] (UO C cT))(Mh:AF P w K mg base C 21 O2 [Ak,Aw] (T8 K mg C cT))(Mw:AF P w K mg base C 21 Dt [Ak,Aw,AH] (RK K mg C cT)):ke P w K mg base C 22 Bt [Ak,Aw,AH,AI] (QN K mg C cT) .non:=by
 refine F.ok scKQ (fun _ _ _ _ _ _ _ _=>Ho fun _ _ _ _=>Aa U rfl) (fun _ _ _ _ _ _ _ _=>cU fun _ _ _=>Aa U rfl) (fun vs H Q E h=>?_) (fun f0 ad A outer s H vs Q E hr h=>?_)
 . obtain⟨S,x,f,aT,aL,aB,D,es,p,k,sz,rfl,_⟩:=h;rfl
 obtain⟨S,x,f,aT,aL,aB,D,es,p,k,sz,rfl,hK,hS,hz,hl,D16,hc,q1,q2⟩:=h;have nd:=scKQ.nd;obtain⟨dx,h1⟩:=hK.ob;refine⟨_,Ae (Ax 4 nd (Ct Mp (pv 0) T.cl hr.m (AG (pv 1) (pv 3)))) <|
  Aj (Bp (BH (Ct Mx (pv 0) T.cl hr.m (Ar (pv 1))) (Ct Mh (pv 0) T.cl hr (Ar (pv 1))) (pv 4) (Ct Mw (pv 0) T.cl hr (AG (pv 1) (pv 2))))),?_⟩
 refine Aa U ⟨x,dx,Aa U ⟨h1,U,Aa U (Aa U ⟨S,x,f,aT,aL,aB,D,es,p,sz,U,hK,hS,hz,hl,hc.dn om,?_⟩)⟩⟩;cases hn':FN sz es.length with
 | none=>exact q2 (fun n z=>by rw[hn'] at z;cases z)
 | some n=>
 have hn:=TU hn';refine⟨fun c r rs H1 g1 er ir=>?_,fun c=>q2 (fun m z y=>by rw[hn'] at z;cases z;exact c y.1)⟩;have hi:p.toNat<es.length:=by exact om
 have ee:es[p.toNat]? = some es[p.toNat]:=Bc hi;have cL:0<=p/\p<(es.length:Int):=⟨om,om⟩
 have K1:=hK.up g1;have S1:=hS.up g1.gn;obtain⟨dx1,h11⟩:=K1.ob;dsimp only[AZ];refine Aa U ⟨x,dx1,Aa U ⟨h11,U,Aa U ⟨S,x,f,aT,aL,aB,D,es,p,U,K1,fun _ e1 ee1=>?_,fun z=>absurd cL z⟩⟩⟩;rw[ee] at ee1;cases ee1;refine Aa U ⟨x,dx1,Aa U ⟨h11,U,Aa U ⟨S,x,f,aT,aL,aB,D,es,p,U,K1,S1,D16,hc.go g1.gn om,fun _ e2 v2 H2 ee2 g2 i2=>?_,fun z=>absurd cL z⟩⟩⟩;rw[ee] at ee2;cases ee2;have g12:=g1.trans g2;have K2:=hK.up g12;obtain⟨dx2,h12⟩:=K2.ob;refine Aa U (Aa U ⟨x,dx2,Aa U ⟨h12,U,Aa U (Aa U ⟨S,x,f,aT,aL,aB,D,es,p,k,U,K2,hS.up g12.gn,D16,hc.go g12.gn om,fun ck e3 q r2 H3 ee3 g3 wy=>?_,fun z=>q2 (fun m y c'=>z ⟨cL,c'.2⟩)⟩)⟩⟩);rw[ee] at ee3;cases ee3;refine⟨E9,fun pp npp=>?_⟩;have g4:Gr S 0 H3 (Ab H3 pp (.tup [.str es[p.toNat].1,v2,.ref r,.ref q])):=.new (g12.trans g3).gn.gu npp;have g34:=g3.trans g4;exact q1 n _ pp _ hn' c ck.2 ee ((g12.trans g34).up om) ⟨v2,r,rs,q,r2,Ad,AO g34.gn i2,(g2.trans g34).lst er,AQ (g2.trans g34).gn ir,wy.gr g4⟩
theorem TV {rows':List Rw}(srt0:iw kvs ac)(srt:iw kvs rows'):rows'=ac:=by
 have u1:=srt0.uniq (rs:=rows'.map fun r=>(r.1,V.str r.2)) (by rw[E4];exact srt.1) srt.2;have this:=congrArg (List.map fun(p:Int×V)=>(p.1,match p.2 with | .str z=>z | _=>("" : Str))) u1;rw[E4,E4] at this;have e:((fun(p:Int×V)=>(p.1,match p.2 with | .str z=>z | _=>("" : Str))) ∘ fun r:Rw=>(r.1,V.str r.2))=id:=by funext r;rfl
 rw[e,List.map_id,List.map_id] at this;exact this
theorem Zd (hw:jf D kvs):∃ ac,iw kvs ac:=by
 have hp:=List.mergeSort_perm (kvs.map fun q=>C0 q.1) (fun a b=>decide (a<=b));have hs:=List.pairwise_mergeSort (le:=fun a b:Int=>decide (a<=b)) (fun a b c h1 h2=>by simp at h1 h2 ⊢;exact om) (fun a b=>by simp;exact om) (kvs.map fun q=>C0 q.1);have nd:(kvs.map fun q=>C0 q.1).Nodup:=by
  have h0:=hw.nd;unfold List.Nodup at h0 ⊢;rw[List.pairwise_map] at h0 ⊢;refine h0.imp_of_mem fun {a b} ma mb h e=>?_;obtain⟨i,x,rfl,_⟩:=hw.all a ma;obtain⟨j,y,rfl,_⟩:=hw.all b mb;exact h (congrArg Sum.inl (show i=j from e))
 have nd2:=hp.nodup_iff.mpr nd;refine⟨_,ON hw hp ((hs.and nd2).imp fun {a b} h=>?_)⟩;have h1:a<=b:=Bm h.1;have h2:=h.2;exact om
def Tn (K:W.Frag)(mg:gj):Sp:=fun vs H Q _=>∃ (S:Sl)(f hd:Addr)(D:Nat)(kvs:List (Al×V))(ac:List Rw),vs=[.ref f,.ref hd,.int (D:Int)]/\H hd=some (.dK kvs)/\gx K mg AU S H f/\jf D kvs/\kvs.length<64/\iw kvs ac/\D<=16/\iJ S H (C1 D ac+1)/\
 ∀ v H',Gr S (C1 D ac+1) H H'->AE S H' (CQ D ac) v->Q v H'
theorem scLtb:AA [Bo,Fh,BO] [Bo,Fh,BO] (Ah NB):=AD
theorem dZ (F:gp K mg Ox NB)(Fl:CV P w K mg base Bh 1 (DK K mg AU))(j7:hU P w K mg base 19 Iy [Bo,E5,Hx] (IN K mg))(mso:mg "sorted" = none):hU P w K mg base 20 Ox [Bo,Fh,BO] (Tn K mg):=by
 refine F.ok scLtb (fun _ _ _ _ _ _=>Bx fun _ _ _=>rfl) (fun _ _ _ _ h=>Do h fun _ _ _ _ _ _=>rfl) (fun f0 ad A outer s H vs Q E hr h=>?_);refine Df h fun S f hd D kvs ac hZ=>Qz hZ fun eQ hH hS hw hz srt0 D16 hc q=>?_;clear hZ h;subst eQ;have nd:=scLtb.nd;have hu:=Hq hr;refine' ⟨_,Aj (C2 (i:=0) Fl hr.m BD rfl (Or.inl rfl) (An AT (pv 2) (Ai j7 hr (An (pv 0) (JK (ys:=[Fh]) (js:=[1]) ?ok (EB (B7 (To rfl) rfl mso Q4 (Ar (pv 1)))) (fun _ _ _=>Gz) ?he) (pv 2))))),?rd⟩
 case ok=>
  refine⟨U,U,U,by decide +kernel,by decide +kernel,U,by decide +kernel,fun _ _ h=>h,U,fun i y h=>?_,U⟩
  match i,h with
  | 0,h=>simp at h;subst h;exact⟨1,U,U,U,U⟩
  | i+1,h=>simp at h
 case he=>
  exact fun _ _ _=>Bp (AG (pv 0) (Rx hu (pv 1) (pv 0) (fun _ _=>rfl)))
 case rd=>
 refine⟨f,U,hS.iK,Aa U (Aa U (Aa U ⟨hd,kvs,U,hH,hw.ints,hz,fun l lk nl pm pw=>⟨l,U,⟨_,gy.of Ad⟩,fun DD hDD=>?_⟩⟩))⟩;have srt:=ON hw pm pw;have g6:Gr S 0 H (Ab H l (.lst (lk.map V.int))):=.new hS.told nl;have llk:lk.length=kvs.length:=by have:=pm.length_eq;simpa using this
 refine⟨fun i m ys H2=>m=lk.length - i/\i<=lk.length/\H2 DD=some (.lst ys)/\Gr S 0 (Ab H l (.lst (lk.map V.int))) H2/\ia H2 ((lk.take i).map fun k=>(k,DV kvs k)) ys,
  ⟨lk.length,by simp,om,Ad,Gr.new g6.gn.gu hDD,.nil⟩,?_⟩
 rintro i m ys H2 ⟨rfl,hi,hD2,g,ry⟩;have hl2:=g.lst (show Ab H l (.lst (lk.map V.int)) l=some (.lst (lk.map V.int)) from Ad);have ylen:=Bq ry;rw[AS,Cc] at ylen;have g0:=g6.trans g;by_cases hlt:i<lk.length
 . refine .inr ⟨⟨_,V.int lk[i],gy.of hl2,by simp[hlt]⟩,fun y H3 ⟨e3,hx⟩=>?_⟩;subst e3;have ex:y=V.int lk[i]:=by
    have z:=hx _ (gy.of hl2);simp[hlt] at z;exact z.symm
   subst ex;refine AC ?_;have hh:=g0.same hH;have ev:=Ul hw (RO hw pm (D3 hlt));refine Aa U (Aa U (Aa U ⟨hd,.str (DV kvs lk[i]),U,?_,(Cd),fun p hp=>?_⟩))
   . have z:=iN.k (H:=H3) (a:=hd) (k:=.inl lk[i]) hh;rw[ev] at z;exact z
   have g7:Gr S 0 H3 (Ab H3 p (.tup [.int lk[i],.str (DV kvs lk[i])])):=.new g.gn.gu hp;have hD7:=g7.lst hD2;have g8:Gn S 0 _ (Ab (Ab H3 p (.tup [.int lk[i],.str (DV kvs lk[i])])) DD (.lst (ys++[.ref p]))):=Gn.chg g7.gn.gu hD7 rfl (fun _ e=>nomatch e);refine⟨hD7,by rw[Bf];exact om,lk.length - (i+1),om,U,om,Ad,((g.trans g7).up om).own hDD,?_⟩;rw[J9,Bc hlt,Ex];exact ia.up (OS (ia.up ry g7.gn) ⟨p,U,Ad⟩) g8
 have e:i=lk.length:=by exact om
 subst e;refine .inl ⟨⟨_,gy.of hl2,by simp⟩,?_⟩;rw[O9] at ry;have er:=TV srt0 srt;rw[er] at ry;have rlen:=srt0.len;refine Aa U ⟨D,D16,S,f,DD,ys,ac,U,hS.up g0.gn,gy.of hD2,ry,om,srt0.kM hw,hc.go g0.gn om,fun v7 H7 G7 i7=>?_⟩;have G07:=g0.trans G7;have hS7:=hS.up G07.gn;exact⟨hS7.iK,S,Cy,.int (D:Int),BQ D ac,_,_,hS7,hc.go G07.gn om,U,U,i7,fun v8 H8 G8 i8=>q v8 H8 ((G07.trans G8).up om) i8⟩
noncomputable def BZ (es:List En):List (Al×V):=(([] :: es.map (·.2.1))[es.length]?).getD []
theorem Xq (es:List En):([] :: es.map (·.2.1))[es.length]? = some (BZ es):=by
 have h:es.length<([] :: es.map (·.2.1)).length:=by rw[C5,AS];exact om
 unfold BZ;rw[Bc h];rfl
theorem RH (es:List En)(e:En):BZ (es++[e])=e.2.1:=by
 unfold BZ;rw[Cf,EU,NS,Ex,KY (by rw[AS];exact Ay _),AS];simp
theorem Zw (ok:∀ e∈es,Er D e):jf D (BZ es)/\(BZ es).length<=63:=by
 unfold BZ;cases h:es.length with
 | zero=>exact⟨.nil,by simp⟩
 | succ n=>
  rw[NS,BG];have hn:n<es.length:=by exact om
  rw[Bc hn];have:=ok _ (D3 hn);exact⟨this.w,this.l⟩
theorem Xv (hl:ws.length=n+1)(h:ws[n]? = some v):BF ws (-1)=some v:=by
 unfold BF Gu;rw[if_neg (by decide),if_pos (by rw[hl];exact om)];show ws[((-1:Int)+(ws.length:Nat)).toNat]? = _;rw[hl,show((-1:Int)+((n+1:Nat):Int)).toNat=n by exact om];exact h
theorem WH {cT:Addr}(h:i9 cT H f D kvl ws):ws.length=kvl.length:=(Paired.length h).symm
def Tc (K:W.Frag)(mg:gj)(C cT:Addr):Sp:=fun vs H Q _=>∃ (S:Sl)(x f aT aL aB:Addr)(D:Nat)(es:List En)(t:Str),vs=[.ref x,.str t]/\iE C cT S H x f aT aL aB D es/\gx K mg AU S H f/\iJ S H 3400/\D<=16/\es.length<=1000/\
 t.length<=2000/\(Txt.split t "\n").length<=1000/\(∀ r∈Txt.split t "\n",r.length<=1000/\r.cps.all (· < 128)=true)/\(∀ kv,BI D 0 (Txt.split t "\n") (BZ es) = .inr kv->jf D kv/\kv.length<=63)/\
 match BI D 0 (Txt.split t "\n") (BZ es) with
 | .inl n=>False
 | .inr kv=>∀ ac H',iw kv ac->iE C cT S H' x f aT aL aB D (es++[(t,kv,ac)])->ib S 3400 [aT,aL,aB] H H'->Q (.int (es.length:Int)) H'
theorem scKA:AA [Ak,Dh,Cy,Dm] [Ak,Dh] (Ah IY):=AD
theorem Xo (F:gq K C "add" "Keeper.add" IY)(T:DW K mg C)(TT:Txt K mg cT)(Fc:hU P w K mg base 5 MW [Cy,Dh,At] (RF cT))(Fl:hU P w K mg base 2 JQ [Ag,Dh,Cy] (Dz K mg Dm))(Mh:AF P w K mg base cT 20 Br [Ak] (QE K mg cT))(ml:mg B0=none):AF P w K mg base C 21 "add" [Ak,Dh] (Tc K mg C cT):=by
 refine F.ok scKA (fun _ _ _ _ _ _=>CB fun _ _=>rfl) (fun _ _ _ _ h=>Iz h fun _ _ _ _ _ _ _ _ _=>rfl) (fun f0 ad A outer s H vs Q E hr h=>?_);refine Ig h fun S x f aT aL aB D es z hZ=>Gw hZ fun eQ hK hS hc D16 hl zl zs zr zk q=>?_;clear hZ h;subst eQ;have nd:=scKA.nd;refine⟨_,Ae (Ax 2 nd (Ai Fc hr.m (An (Bw BP (Bi (pv 0) rfl) (Op Ou Ac)) (pv 1) (Bi (pv 0) rfl)))) <|
  Ae (Ax 3 nd (Ai Fl hr.m (An (Bi (pv 0) rfl) (pv 1) (Ky Mh (pv 2) TT.cl hr)))) <|
  Ae (BT (Cv Ec DX DZ DM (Bi (pv 0) rfl) (Ar (pv 1)))) <|
  Ae (BT (Cv Ec DX DZ DM (Bi (pv 0) rfl) (Ar (pv 3)))) <|
  Ae (BT (Cv Ec DX DZ DM (Bi (pv 0) rfl) (Ar (pv 2)))) <|
  Aj (Ao CC (AW ml (Bi (pv 0) rfl)) Ac),?_⟩
 have lok:=Zw hK.ok;obtain⟨⟨dx,h1⟩,h2,⟨wL,h3,h4⟩,⟨ws,h5,h7⟩,n1,n2,n3,oks⟩:=hK;have wl:=Bq h4;rw[AS] at wl;have tl:=WH h7;rw[C5,AS] at tl;obtain⟨t,d,et,Tt⟩:=Tf h7 (Xq es);refine Aa U ⟨x,C,dx,_,Aa U ⟨h1,T.cl,T.n5,U,Aa U ⟨aB,_,_,Aa U ⟨U,gy.of h5,Xv tl et,Aa U (Aa U ⟨x,C,dx,_,Aa U ⟨h1,T.cl,T.n2,U,?_⟩⟩)⟩⟩⟩⟩;refine⟨t,d,f,z,D,BZ es,U,Tt,om,by rw[Bf];exact om,zs,zr,?_⟩;cases hg:BI D 0 (Txt.split z "\n") (BZ es) with
 | inl n=>rw[hg] at q;exact q
 | inr kv=>
 rw[hg] at q;obtain⟨kw,kl⟩:=zk kv hg;obtain⟨ac,srt⟩:=Zd kw;have eo:Er D (z,kv,ac):=⟨kw,kl,srt,zl⟩
 have c8:=LM eo D16;intro y e H1 T1 x1 _ _;have g1:Gr S 0 H H1:=.ext hS.told x1;have h11:=x1 _ _ h1;obtain⟨⟨dy,y1⟩,e1⟩:=id T1;refine Aa U ⟨x,C,dx,_,Aa U ⟨h11,T.cl,T.n1,U,Aa U (Aa U ⟨y,dy,Aa U ⟨y1,U,?_⟩⟩)⟩⟩;refine⟨S,y,e,f,D,kv,ac,U,T1,hS.up g1.gn,kw,om,srt,D16,hc.go g1.gn (by have c8':C1 D ac+1<=3000:=c8;exact om),fun v2 H2 g2 i2=>?_⟩;have g2:=g2.up (show C1 D ac+1<=3000 from c8);have g12:=g1.trans g2;refine⟨S,f,.str z,CQ D ac,_,Aa U ⟨hS.up g12.gn,hc.go g12.gn om,U,i2,fun v3 H3 g3 i3=>?_⟩⟩;have g13:=g12.trans g3;have tld3:=g13.gn.gu;have h13:=g13.same h1;have h23:=g13.lst h2;have h33:=g13.lst h3;have h53:=g13.lst h5;have h43:=AQ g13.gn h4;have h73:=h7.up g13;have T3:=(T1.up g2).up g3;have nxT:x≠aT:=by rintro rfl;rw[h13] at h23;cases h23
 have nxL:x≠aL:=by rintro rfl;rw[h13] at h33;cases h33
 have nxB:x≠aB:=by rintro rfl;rw[h13] at h53;cases h53
 have lists:∀ a∈[aT,aL,aB],∃ xs,H3 a=some (.lst xs):=fun a ha=>by
  simp only[Dc,CW,or_false] at ha;rcases ha with rfl | rfl | rfl
  . exact⟨_,h23⟩
  . exact⟨_,h33⟩
  . exact⟨_,h53⟩
 refine Aa U ⟨x,C,dx,_,Aa U ⟨h13,T.cl,T.n3,U,.inl ⟨U,_,gy.of h23⟩,Aa U ⟨aT,_,Aa U ⟨U,h23,by rw[Bf,AS];exact om,?_⟩⟩⟩⟩;have k4:ib S 0 [aT,aL,aB] H3 (Ab H3 aT (.lst ((es.map fun e=>V.str e.1)++[.str z]))):=.chg tld3 h23 (by simp);generalize hH4:Ab H3 aT (.lst ((es.map fun e=>V.str e.1)++[.str z]))=H4 at k4;have a4:∀ b o,H3 b=some o->b≠aT->H4 b=some o:=fun b o hb hn=>by rw[<- hH4,Af hn];exact hb
 have t4:H4 aT=some (.lst ((es.map fun e=>V.str e.1)++[.str z])):=by rw[<- hH4,Ad]
 refine Aa U ⟨x,C,dx,_,Aa U ⟨a4 _ _ h13 nxT,T.cl,T.n4,U,.inl ⟨U,_,gy.of (a4 _ _ h33 n1.symm)⟩,Aa U ⟨aL,_,Aa U ⟨U,a4 _ _ h33 n1.symm,by rw[Bf];exact om,?_⟩⟩⟩⟩;have k5:ib S 0 [aT,aL,aB] H4 (Ab H4 aL (.lst (wL++[v3]))):=.chg k4.gn.gu (a4 _ _ h33 n1.symm) (by simp);generalize hH5:Ab H4 aL (.lst (wL++[v3]))=H5 at k5;have a5:∀ b o,H4 b=some o->b≠aL->H5 b=some o:=fun b o hb hn=>by rw[<- hH5,Af hn];exact hb
 have l5:H5 aL=some (.lst (wL++[v3])):=by rw[<- hH5,Ad]
 have b5:=a5 _ _ (a4 _ _ h53 n2.symm) n3.symm;refine Aa U ⟨x,C,dx,_,Aa U ⟨a5 _ _ (a4 _ _ h13 nxT) nxL,T.cl,T.n5,U,.inl ⟨U,_,gy.of b5⟩,Aa U ⟨aB,_,Aa U ⟨U,b5,by rw[Bf];exact om,?_⟩⟩⟩⟩;have k6:ib S 0 [aT,aL,aB] H5 (Ab H5 aB (.lst (ws++[.ref y]))):=.chg k5.gn.gu b5 (by simp);generalize hH6:Ab H5 aB (.lst (ws++[.ref y]))=H6 at k6;have a6:∀ b o,H5 b=some o->b≠aB->H6 b=some o:=fun b o hb hn=>by rw[<- hH6,Af hn];exact hb
 have b6:H6 aB=some (.lst (ws++[.ref y])):=by rw[<- hH6,Ad]
 have x6:=a6 _ _ (a5 _ _ (a4 _ _ h13 nxT) nxL) nxB;have t6:=a6 _ _ (a5 _ _ t4 n1) n2;have g36:=(k4.trans k5).trans k6;refine Aa U ⟨x,C,dx,_,Aa U ⟨x6,T.cl,T.n3,U,aT,Aa U ⟨.inl (gy.of t6),_,Aa U ⟨U,?_⟩⟩⟩⟩;have h76:=h73.off g36 tld3 lists;obtain⟨⟨dy3,y3⟩,e3⟩:=T3;have er:((((es.map fun e=>V.str e.1)++[V.str z]).length:Nat):Int) - 1=(es.length:Int):=by rw[Cf,AS,EU];exact om
 dsimp only;rw[er];refine q ac _ srt ⟨⟨dx,x6⟩,?_,⟨wL++[v3],a6 _ _ l5 n3,?_⟩,⟨ws++[.ref y],b6,?_⟩,n1,n2,n3,fun e' he'=>?_⟩ (((ib.of g13).trans g36).up om)
 . rw[Ex];exact t6
 . rw[Ex];exact Dy (AQ g36.gn h43) (.cons (AO g36.gn i3) .nil)
 . rw[Ex,<- PV];exact Dy h76 (.cons ⟨y,e,U,⟨dy3,g36.kh tld3 lists y3 (fun _ e=>nomatch e) (fun _ e=>nomatch e)⟩,g36.kh tld3 lists e3 (fun _ e=>nomatch e) (fun _ e=>nomatch e)⟩ .nil)
 . rcases List.mem_append.mp he' with m | m
   . exact oks e' m
   . rw[List.mem_singleton.mp m];exact eo
namespace Kd
def pt:List (List Nat):=[[3,6,5,4,4,6,5,4],[0,0,2,1,0,0,2,1],[1,0,0,2,0,0,0,1],[4,3,2,1,1,3,2,2]]
def ps (n k:Nat):Nat:=(pt.getD n []).getD k 0
def nx (n:Nat)(d:Bool):Nat:=if d then n else(n+1) % 4
def ky (k:Nat)(d:Bool):Nat:=if d then(k+4) % 8 else(k+5) % 8
def k1 (k w:Nat):Nat:=if w=0 then(k+5) % 8 else(k+6) % 8
def k2 (k w:Nat):Nat:=if w=2 then(k+4) % 8 else(k+3) % 8
def u (k:Nat):Nat:=if k<5 then 1 else 0
def pn (n a b c:Nat):Nat:=(if 0<n then u a else 0)+(if 1<n then u b else 0)+(if 2<n then u c else 0)
def ct (k:Nat):Bool:=k == 5 || k == 6
def cn (n a b c:Nat):Bool:=(decide (0<n) && ct a) || (decide (1<n) && ct b) || (decide (2<n) && ct c)
theorem bg:∀ n:Fin 4,∀ k:Fin 8,∀ w:Fin 3,∀ dx dy:Bool,3 * pn n k (k1 k w) (k2 k w)+ps n k<=4+ps (nx n dx) (ky k dy)+3 * dx.toNat+3 * dy.toNat/\(cn n k (k1 k w) (k2 k w)=true->ps n k<=ps (nx n dx) (ky k dy)+3 * dx.toNat+3 * dy.toNat):=by decide
theorem Wv:∀ n:Fin 4,∀ k:Fin 8,ps n k<=6:=by decide
def X (c:Int):Int:=c * 48271 % 1000003
def Y (c:Int):Int:=(c * 48271+208863) % 1000039
def nr (c:Int):Nat:=(X c % 4).toNat
def kd (c:Int):Nat:=(Y c % 8).toNat
def puts (c:Int):Nat:=pn (nr c) (kd c) (kd (c+61)) (kd (c+122))
def cuts (c:Int):Bool:=cn (nr c) (kd c) (kd (c+61)) (kd (c+122))
theorem nr_lt (c:Int):nr c<4:=by unfold nr;exact om
theorem RA (c:Int):kd c<8:=by unfold kd;exact om
theorem xr (c:Int):0<=X c/\X c<1000003:=by unfold X;exact om
theorem yr (c:Int):0<=Y c/\Y c<1000039:=by unfold Y;exact om
theorem bh (c:Int):X (c+331)=if X c<22347 then X c+977656 else X c - 22347:=by
 unfold X;rw[show(c+331) * 48271=c * 48271+15977701 by exact om];generalize c * 48271=m;split <;> exact om
theorem P6 (c:Int){t q:Int}(h:(c+t) * 48271=c * 48271+q):Y (c+t)=(Y c+q) % 1000039:=by
 unfold Y;rw[h,show c * 48271+q+208863=c * 48271+208863+q by exact om];generalize c * 48271+208863=m;exact(Int.emod_add_emod m 1000039 q).symm
theorem cq (c:Int):Y (c+331)=if Y c<22923 then Y c+977116 else Y c - 22923:=by
 rw[P6 c (t:=331) (q:=15977701) om];have:=yr c;generalize Y c=b at *;split <;> exact om
theorem aO (c:Int):Y (c+61)=if Y c<55586 then Y c+944453 else Y c - 55586:=by
 rw[P6 c (t:=61) (q:=2944531) om];have:=yr c;generalize Y c=b at *;split <;> exact om
theorem Yd (c:Int):Y (c+122)=if Y c<111172 then Y c+888867 else Y c - 111172:=by
 rw[P6 c (t:=122) (q:=5889062) om];have:=yr c;generalize Y c=b at *;split <;> exact om
theorem wr (c:Int):∃ w:Fin 3,kd (c+61)=k1 (kd c) w/\kd (c+122)=k2 (kd c) w:=by
 unfold kd;rw[aO,Yd];have:=yr c;generalize Y c=b at *;by_cases h1:b<55586
 . exact⟨0,by rw[if_pos h1];show _=(_+5) % 8;exact om,by rw[if_pos om];show _=(_+3) % 8;exact om⟩
 . by_cases h2:b<111172
   . exact⟨1,by rw[if_neg h1];show _=(_+6) % 8;exact om,by rw[if_pos h2];show _=(_+3) % 8;exact om⟩
   . exact⟨2,by rw[if_neg h1];show _=(_+6) % 8;exact om,by rw[if_neg h2];show _=(_+4) % 8;exact om⟩
theorem xs (c:Int):∃ d:Bool,X (c+331)=X c - 22347+1000003 * (d.toNat:Int)/\nr (c+331)=nx (nr c) d:=by
 unfold nr;rw[bh];have:=xr c;generalize X c=b at *;by_cases h:b<22347
 . exact⟨true,by rw[if_pos h];show _=_+1000003 * ((1:Nat):Int);exact om,by rw[if_pos h];show _=(b % 4).toNat;exact om⟩
 . exact⟨false,by rw[if_neg h];show _=_+1000003 * ((0:Nat):Int);exact om,by rw[if_neg h];show _=((b % 4).toNat+1) % 4;exact om⟩
theorem ys (c:Int):∃ d:Bool,Y (c+331)=Y c - 22923+1000039 * (d.toNat:Int)/\kd (c+331)=ky (kd c) d:=by
 unfold kd;rw[cq];have:=yr c;generalize Y c=b at *;by_cases h:b<22923
 . exact⟨true,by rw[if_pos h];show _=_+1000039 * ((1:Nat):Int);exact om,by rw[if_pos h];show _=((b % 8).toNat+4) % 8;exact om⟩
 . exact⟨false,by rw[if_neg h];show _=_+1000039 * ((0:Nat):Int);exact om,by rw[if_neg h];show _=((b % 8).toNat+5) % 8;exact om⟩
def Iv (c:Int)(i e P:Nat):Prop:=∃ W V:Nat,X (c+331 * i)=X c - 22347 * i+1000003 * W/\Y (c+331 * i)=Y c - 22923 * i+1000039 * V/\3 * P<=4 * e+ps (nr (c+331 * i)) (kd (c+331 * i))+3 * W+3 * V
theorem Iv.zero (c:Int):Iv c 0 0 0:=⟨0,0,by rw[show c+331 * ((0:Nat):Int)=c by exact om];exact om,by rw[show c+331 * ((0:Nat):Int)=c by exact om];exact om,om⟩
theorem Iv.next {e P e' P':Nat}(h:Iv c i e P)(hs:(e'=e+1/\P'=P+puts (c+331 * i))\/(e'=e/\P'=P/\cuts (c+331 * i)=true)):Iv c (i+1) e' P':=by
 obtain⟨W,V,h1,h2,h3⟩:=h;have ec:c+331 * ((i+1:Nat):Int)=c+331 * i+331:=by exact om
 generalize c+331 * (i:Int)=b at *;obtain⟨dx,x1,x2⟩:=xs b;obtain⟨dy,y1,y2⟩:=ys b;obtain⟨w,w1,w2⟩:=wr b;obtain⟨q1,q2⟩:=bg ⟨nr b,nr_lt b⟩ ⟨kd b,RA b⟩ w dx dy;dsimp only at q1 q2;rw[<- w1,<- w2,<- x2,<- y2] at q1 q2;refine⟨W+dx.toNat,V+dy.toNat,by rw[ec];exact om,by rw[ec];exact om,?_⟩;rw[ec];unfold puts cuts at hs;rcases hs with⟨rfl,rfl⟩ | ⟨rfl,rfl,hc⟩
 . exact om
 . have:=q2 hc;exact om
theorem Iv.fin {e P:Nat}(h:Iv c i e P)(hi:i<=114)(he:e<=38):P<=58:=by
 obtain⟨W,V,h1,h2,h3⟩:=h;have q:=Wv ⟨nr (c+331 * i),nr_lt _⟩ ⟨kd (c+331 * i),RA _⟩;dsimp only at q;have a1:=xr c;have a2:=xr (c+331 * i);have a3:=yr c;have a4:=yr (c+331 * i);have w1:W<=3:=by clear h2 h3 q a3 a4;exact om
 have w2:V<=3:=by clear h1 h3 q a1 a2;exact om
 clear h1 h2 a1 a2 a3 a4;exact om
end Kd
def UZ:Sp:=fun vs H Q _=>∃ c k m p:Int,vs=[.int c,.int k,.int m]/\0<=k/\0<m/\primes[(k % 16).toNat]? = some p/\∀ (v:Int) H',v=(c * 48271+k * 69621) % p % m->0<=v->v<m->(∀ b o,H b=some o->H' b=some o)->Q (.int v) H'
theorem cY (F:gp K mg Eu GU):hU P w K mg base 1 Eu [BB,Cz,Ed] UZ:=by
 refine F.ok scDr (fun _ _ _ _ _ _=>Bx fun _ _ _=>rfl) (fun _ _ _ _ h=>KL h fun _ _ _ _=>rfl) (fun f0 ad A outer s H vs Q E hr h=>?_);refine KP h fun c k m pr hZ=>G6 hZ fun eQ hk hm epr q=>?_;clear hZ h;subst eQ;have nd:=scDr.nd;obtain⟨es,x1,p1,p2,p3,eA,hes⟩:=U5;rw[Te,eA];refine⟨_,Ae (Ax 3 nd (Bp (VH hes))) <|
  Aj (Ao De (Ao De (Ao CI (Ao ET (pv 0) Ac) (Ao ET (pv 1) Ac)) (Bw FE (pv 3) (Ao De (pv 1) Ac))) (pv 2)),?_⟩
 refine⟨(by show 16<=sizeLine;decide),fun p hp=>?_⟩;have hpr:=Tb epr;have eat:BF (primes.map V.int) (k % 16)=some (.int pr):=by
  have z:BF (primes.map V.int) (((k % 16).toNat:Nat):Int)=some (.int pr):=BK (by rw[BG,epr];rfl);rw[show(((k % 16).toNat:Nat):Int)=k % 16 by exact om] at z;exact z
 refine⟨_,U,_,_,U,U,.inr ⟨by decide,om⟩,_,U,_,_,U,U,.inr ⟨by decide,om⟩,_,_,U,U,_,U,_,U,_,_,U,U,(by show(0:Int)<16;decide),p,primes.map V.int,_,_,U,U,.inl (.inl Ad),eat,_,_,U,U,hpr,_,U,_,_,U,U,hm,?_⟩;exact q _ _ rfl (NX _ om) (Int.emod_lt_of_pos _ hm) fun b o e=>by rw[Af (Aq e hp)];exact e
section
open Tx PySem.NumText
theorem Xc {ys:List Str}(h:∀ y∈ys,Sg y):∀ c∈sg (Txt.join "" ys),32<=c/\c<=126:=by
 have e0:("" : Str)=⟨#[]⟩:=by decide +kernel
 have key:∀ {ys:List Str},(∀ y∈ys,Sg y)->∀ c∈sg (Str.join ⟨#[]⟩ ys),32<=c/\c<=126:=by
  intro ys
  induction ys with
  | nil=>intro _ c hc;exact absurd hc (by show c∉(#[]:Array Nat).toList;simp)
  | cons y r ih=>
   intro h c hc;rw[PyProof.Rows.join_nil_cons] at hc;have hc:c∈sg (y++Str.join ⟨#[]⟩ r):=hc;rw[F0] at hc;rcases List.mem_append.mp hc with z | z
   . exact(h y CO).2 c z
   . exact ih (fun y hy=>h y (CH _ hy)) c z
 intro c hc;have e:Txt.join "" ys=Str.join ⟨#[]⟩ ys:=by
  show Builtin.Str.glued "" ys=_;rw[StrLaws.glued_eq_join,e0]
 rw[e] at hc;exact key h c hc
theorem ci {us:List Str}(h:∀ y∈us,Sg y):(Txt.join "" us).length=us.length:=W.KT.join_ones us fun a ha=>(h a ha).1
abbrev C8 (z:Str):Prop:=∀ c∈sg z,32<=c/\c<=126
theorem Jc {a b:Str}(ha:C8 a)(hb:C8 b):C8 (a++b):=fun c hc=>by
 rw[F0] at hc;exact(List.mem_append.mp hc).elim (ha c) (hb c)
noncomputable abbrev Ju (n:Nat):List Nat:=(Nat.toDigits 10 n).map Char.toNat
theorem YS (h:n<100000):(Ju n).length<=5:=by
 rw[AS];exact(Nat.length_toDigits_le_iff (by decide) (by decide)).mpr h
theorem db {n:Int}(h0:0<=n)(h1:n<4):sg (Gq "0" n)=List.replicate n.toNat 48:=by
 obtain rfl | rfl | rfl | rfl:n=0\/n=1\/n=2\/n=3:=by exact om
 all_goals decide +kernel
noncomputable def BM (D:Nat):Nat->List Str->List (Nat×jw)
 | _,[]=>[]
 | n,r :: l=>(match BA r D with | some (some st)=>[(n,st)] | _=>[])++BM D (n+1) l
theorem Lm (D:Nat):∀ (n:Nat)(l:List Str)(r:Str),BM D n (l++[r])=BM D n l++(match BA r D with | some (some st)=>[(n+l.length,st)] | _=>[])
 | n,[],r=>by simp[BM]
 | n,a :: l,r=>by
  show _++BM D (n+1) (l++[r])=_;rw[Lm D (n+1) l r];show _=(_++BM D (n+1) l)++_;rw[JO,show n+1+l.length=n+(a :: l).length by simp;exact om]
noncomputable def Eb:List (Nat×jw)->List (Al×V)->Sum Nat (List (Al×V))
 | [],kvs=>.inr kvs
 | (n,.put k v) :: l,kvs=>Eb l (BS kvs (.inl (k:Int)) (.str v))
 | (n,.cut k) :: l,kvs=>match AX kvs (.inl (k:Int)) with
  | none=>.inl n
  | some _=>Eb l (C4 kvs (.inl (k:Int)))
theorem SN {D:Nat}:∀ (n:Nat)(ac:List Str)(kvs:List (Al×V)),(∀ r∈ac,BA r D≠none)->BI D n ac kvs=Eb (BM D n ac) kvs
 | _,[],_,_=>rfl
 | n,r :: l,kvs,h=>by
  have ih:=fun kvs=>SN (n+1) l kvs fun x hx=>h x (CH _ hx);have h0:=h r CO;show(match BA r D with | none=>.inl n | some none=>BI D (n+1) l kvs | some (some (.put k v))=>BI D (n+1) l (BS kvs (.inl (k:Int)) (.str v)) | some (some (.cut k))=>match AX kvs (.inl (k:Int)) with | none=>.inl n | some _=>BI D (n+1) l (C4 kvs (.inl (k:Int))))=Eb ((match BA r D with | some (some st)=>[(n,st)] | _=>[])++BM D (n+1) l) kvs;cases e:BA r D with
  | none=>exact absurd e h0
  | some o=>
   match o with
   | none=>exact ih kvs
   | some (.put k v)=>exact ih _
   | some (.cut k)=>
    show(match AX kvs (.inl (k:Int)) with | none=>_ | some _=>_)=(match AX kvs (.inl (k:Int)) with | none=>_ | some _=>_);cases AX kvs (.inl (k:Int)) with
    | none=>rfl
    | some v=>exact ih _
def iL (H:Hp):Nat×jw->V->Prop
 | (n,.put k v),x=>∃ p,x = .ref p/\H p=some (.tup [.int (n:Int),.int (k:Int),.str v])
 | (n,.cut k),x=>∃ p,x = .ref p/\H p=some (.tup [.int (n:Int),.int (k:Int),.non])
theorem iL.up {e:Nat×jw}{x:V}(h:iL H e x)(k:∀ p xs,H p=some (.tup xs)->H' p=some (.tup xs)):iL H' e x:=by
 obtain⟨n,st⟩:=e;cases st with
 | put a v=>obtain⟨p,e1,e2⟩:=h;exact⟨p,e1,k _ _ e2⟩
 | cut a=>obtain⟨p,e1,e2⟩:=h;exact⟨p,e1,k _ _ e2⟩
noncomputable def UH:jw->Int
 | .put k _=>(k:Int)
 | .cut k=>(k:Int)
noncomputable abbrev Jv (ks:List Int):List Int:=ks++ks.map fun k=>Builtin.bitXor k 1
def j0 (ks:List Int)(D:Nat)(r:Str):Prop:=∃ o,BA r D=some o/\∀ st,o=some st->UH st∈Jv ks
theorem j0.ne {r:Str}(h:j0 ks D r):BA r D≠none:=by
 obtain⟨o,e,_⟩:=h;rw[e];exact fun z=>nomatch z
def QZ:jw->Bool
 | .put _ _=>true
 | .cut _=>false
def Ev (S:List (Nat×jw)):Nat:=(S.filter fun e=>QZ e.2).length
def Kn (S:List (Nat×jw)):Bool:=S.any fun e=>!QZ e.2
def pI (c:Int):Nat->Nat
 | 0=>0
 | i+1=>pI c i+Kd.u (Kd.kd (c+61 * (i:Int)))
def cI (c:Int):Nat->Bool
 | 0=>false
 | i+1=>cI c i || Kd.ct (Kd.kd (c+61 * (i:Int)))
def Tk (c:Int)(i:Nat)(S:List (Nat×jw)):Prop:=Ev S=pI c i/\(Kn S=true->cI c i=true)
theorem Tk.put {k:Nat}{v:Str}{S:List (Nat×jw)}(h:Tk c i S)(hk:Kd.kd (c+61 * (i:Int))<5):Tk c (i+1) (S++[(j,.put k v)]):=by
 refine⟨?_,fun z=>?_⟩
 . show _=pI c i+(if _<5 then 1 else 0);rw[if_pos hk,<- h.1];unfold Ev;rw[Rg,Cf];rfl
 . show(cI c i || _)=true;unfold Kn at z;rw[List.any_append,Bool.or_eq_true] at z;rcases z with z | z
   . rw[h.2 z];rfl
   . cases z
theorem Tk.cut {k:Nat}{S:List (Nat×jw)}(h:Tk c i S)(hk:5<=Kd.kd (c+61 * (i:Int)))(hk7:Kd.kd (c+61 * (i:Int))<7):Tk c (i+1) (S++[(j,.cut k)]):=by
 refine⟨?_,fun _=>?_⟩
 . show _=pI c i+(if _<5 then 1 else 0);rw[if_neg om,<- h.1];unfold Ev;rw[Rg,Cf];rfl
 . show(cI c i || Kd.ct _)=true;obtain e | e:Kd.kd (c+61 * (i:Int))=5\/Kd.kd (c+61 * (i:Int))=6:=by exact om
   all_goals rw[e];exact Bool.or_true _
theorem Tk.rem {S:List (Nat×jw)}(h:Tk c i S)(hk:5<=Kd.kd (c+61 * (i:Int))):Tk c (i+1) S:=by
 refine⟨?_,fun z=>?_⟩
 . show _=pI c i+(if _<5 then 1 else 0);rw[if_neg om];exact h.1
 . show(cI c i || _)=true;rw[h.2 z];rfl
theorem Tk.fin {S:List (Nat×jw)}(h:Tk c n S)(hn:n=Kd.nr c):Ev S=Kd.puts c/\(Kn S=true->Kd.cuts c=true):=by
 subst hn;obtain⟨h1,h2⟩:=h;unfold Kd.puts Kd.cuts;have e0:c+61 * ((0:Nat):Int)=c:=by exact om
 have e1:c+61 * ((1:Nat):Int)=c+61:=by exact om
 have e2:c+61 * ((2:Nat):Int)=c+122:=by exact om
 have l:=Kd.nr_lt c;generalize Kd.nr c=n at *;obtain rfl | rfl | rfl | rfl:n=0\/n=1\/n=2\/n=3:=by exact om
 . exact⟨h1,h2⟩
 . simp only[pI,cI,e0] at h1 h2;exact⟨by rw[h1];simp[Kd.pn],fun z=>by have:=h2 z;simpa [Kd.cn] using this⟩
 . simp only[pI,cI,e0,e1] at h1 h2;exact⟨by rw[h1];simp[Kd.pn],fun z=>by have:=h2 z;simpa [Kd.cn] using this⟩
 . simp only[pI,cI,e0,e1,e2] at h1 h2;exact⟨by rw[h1];simp[Kd.pn],fun z=>by have:=h2 z;simpa [Kd.cn] using this⟩
def RZ (K:W.Frag):Sp:=fun vs H Q _=>∃ (c:Int)(D:Nat)(aN:Addr)(ks:List Int),vs=[.int c,.int (D:Int),.ref aN]/\H aN=some (.lst (ks.map V.int))/\0<ks.length/\(∀ k∈ks,Of k D)/\1<=D/\D<=16/\
 ∀ p l H' ac ws,H' p=some (.tup [.str (Txt.join "\n" ac),.ref l])->H' l=some (.lst ws)->Paired (iL H') (BM D 0 ac) ws->ac.length<=3->(∀ r∈ac,r.length<=100/\C8 r/\j0 ks D r)->Ev (BM D 0 ac)=Kd.puts c->(Kn (BM D 0 ac)=true->Kd.cuts c=true)->H l=none->(∀ b o,H b=some o->H' b=some o)->Q (.ref p) H'
theorem scTx:AA [BB,BO,EN,E5,Ll,Cz,Oh,DA,"_law_kind","_law_text_here"] [BB,BO,EN] (Ah LB):=AD
theorem SB:∀ {ys:List Str},(∀ y∈ys,y.length<=100)->(ys.map (·.length)).sum<=100 * ys.length
 | [],_=>by simp
 | y :: ys,h=>by
  have:=SB fun z hz=>h z (CH _ hz);have h1:=h y CO;rw[CJ,List.sum_cons,C5];exact om
theorem Wb {ac:List Str}{r:Str}{st:jw}{tp:List V}(x6:∀ b o,H b=some o->H6 b=some o)(nR:H aR=none)(nD:H aD=none)(nRD:aR≠aD)(hR:H6 aR=some (.lst (ac.map V.str)))(hD:H6 aD=some (.lst ws))(pr:Paired (iL H6) (BM D 0 ac) ws)
 (rl:ac.length=i)(wl:ws.length<=i)(hall:∀ r∈ac,r.length<=100/\C8 r/\j0 ks D r)(hr:r.length<=100/\C8 r)(hrd:BA r D=some (some st))(hkk:UH st∈Jv ks)(np:Ab H6 aR (.lst (ac.map V.str++[V.str r])) p=none)(ht:∀ {H':Hp},H' p=some (.tup tp)->iL H' (i,st) (.ref p)) :
 (∀ b o,H b=some o->Ab (Ab (Ab H6 aR (.lst (ac.map V.str++[V.str r]))) p (.tup tp)) aD (.lst (ws++[.ref p])) b=some o)/\(∃ rows' ws',Ab (Ab (Ab H6 aR (.lst (ac.map V.str++[V.str r]))) p (.tup tp)) aD (.lst (ws++[.ref p])) aR=some (.lst (rows'.map V.str))/\Ab (Ab (Ab H6 aR (.lst (ac.map V.str++[V.str r]))) p (.tup tp)) aD (.lst (ws++[.ref p])) aD=some (.lst ws')/\
  Paired (iL (Ab (Ab (Ab H6 aR (.lst (ac.map V.str++[V.str r]))) p (.tup tp)) aD (.lst (ws++[.ref p])))) (BM D 0 rows') ws'/\rows'.length=i+1/\ws'.length<=i+1/\(∀ r∈rows',r.length<=100/\C8 r/\j0 ks D r)/\BM D 0 rows'=BM D 0 ac++[(i,st)]):=by
 have pR:aR≠p:=by rintro rfl;rw[Ad] at np;cases np
 have e1:∀ {b:Addr}{o:HO},H6 b=some o->b≠aR->Ab H6 aR (.lst (ac.map V.str++[V.str r])) b=some o:=fun e n=>by rw[Af n];exact e
 have pD:aD≠p:=Aq (e1 hD (Ne.symm nRD)) np;have keep:∀ q xs,H6 q=some (.tup xs)->Ab (Ab (Ab H6 aR (.lst (ac.map V.str++[V.str r]))) p (.tup tp)) aD (.lst (ws++[.ref p])) q=some (.tup xs):=fun q xs e=>by
  have n1:q≠aR:=by rintro rfl;rw[hR] at e;cases e
  have n2:q≠aD:=by rintro rfl;rw[hD] at e;cases e
  rw[Af n2,Af (Aq (e1 e n1) np)];exact e1 e n1
 refine⟨fun b o e=>?_,ac++[r],ws++[.ref p],?_,Ad,?_,by simp;exact om,by simp;exact om,fun y hy=>?_,by rw[Lm,hrd,rl,Nat.zero_add]⟩
 . have n1:b≠aR:=Aq e nR;rw[Af (Aq e nD),Af (Aq (e1 (x6 _ _ e) n1) np)];exact e1 (x6 _ _ e) n1
 . rw[Af nRD,Af pR,Ad,Ex];rfl
 . rw[Lm,hrd,rl,Nat.zero_add];refine Dy (L2.Paired.je (fun e x h=>iL.up h keep) pr) (.cons (ht ?_) .nil);rw[Af (Ne.symm pD)];exact Ad
 . rcases List.mem_append.mp hy with z | z
   . exact hall y z
   . rw[List.mem_singleton.mp z];exact⟨hr.1,hr.2,_,hrd,fun s e=>by cases e;exact hkk⟩
theorem dS {ac:List Str}{r:Str}(x6:∀ b o,H b=some o->H6 b=some o)(nR:H aR=none)(nRD:aR≠aD)(hR:H6 aR=some (.lst (ac.map V.str)))(hD:H6 aD=some (.lst ws))(pr:Paired (iL H6) (BM D 0 ac) ws)
 (rl:ac.length=i)(wl:ws.length<=i)(hall:∀ r∈ac,r.length<=100/\C8 r/\j0 ks D r)(hr:r.length<=100/\C8 r)(hrd:BA r D=some none) :
 (∀ b o,H b=some o->Ab H6 aR (.lst (ac.map V.str++[V.str r])) b=some o)/\(∃ rows' ws',Ab H6 aR (.lst (ac.map V.str++[V.str r])) aR=some (.lst (rows'.map V.str))/\Ab H6 aR (.lst (ac.map V.str++[V.str r])) aD=some (.lst ws')/\
  Paired (iL (Ab H6 aR (.lst (ac.map V.str++[V.str r])))) (BM D 0 rows') ws'/\rows'.length=i+1/\ws'.length<=i+1/\(∀ r∈rows',r.length<=100/\C8 r/\j0 ks D r)/\BM D 0 rows'=BM D 0 ac):=by
 have keep:∀ q xs,H6 q=some (.tup xs)->Ab H6 aR (.lst (ac.map V.str++[V.str r])) q=some (.tup xs):=fun q xs e=>by
  have n1:q≠aR:=by rintro rfl;rw[hR] at e;cases e
  rw[Af n1];exact e
 refine⟨fun b o e=>?_,ac++[r],ws,?_,?_,?_,by simp;exact om,om,fun y hy=>?_,by rw[Lm,hrd,E8]⟩
 . rw[Af (Aq e nR)];exact x6 _ _ e
 . rw[Ad,Ex];rfl
 . rw[Af (Ne.symm nRD)];exact hD
 . rw[Lm,hrd,E8];exact L2.Paired.je (fun e x h=>iL.up h keep) pr
 . rcases List.mem_append.mp hy with z | z
   . exact hall y z
   . rw[List.mem_singleton.mp z];exact⟨hr.1,hr.2,_,hrd,fun s e=>nomatch e⟩
noncomputable abbrev tσ (c:Int) (D:Nat) (aN aR aD:Addr) (k o e d t:Option V):St:=[some (.int c),some (.int (D:Int)),some (.ref aN),some (.ref aR),some (.ref aD),k,o,e,d,t]
theorem d7 (F:gp K mg JS LB)(Fe:hU P w K mg base 1 Eu [BB,Cz,Ed] UZ)(Fd:hU P w K mg base 1 Eu [BB,Cz,Ed] HQ)(Fw:hU P w K mg base 2 IW [BB] OD)(ml:mg B0=none)(mr:mg "range" = none)(ms:mg "str" = none):hU P w K mg base 3 JS [BB,BO,EN] (RZ K):=by
 refine F.ok scTx (fun _ _ _ _ _ _=>Bx fun _ _ _=>rfl) (fun _ _ _ _ h=>KL h fun _ _ _ _=>rfl) (fun f0 ad A outer s H vs Q E hr h=>?_);refine KP h fun c D aN ks hZ=>Ey hZ fun eQ hN hk0 hks D1 D16 q=>?_;clear hZ h;subst eQ;have nd:=scTx.nd;have hr1:ic 1 (A.deeper (PyProof.Rows.envOfC JS (Ah LB) s.heap.objs.size f0 ad)):=hr.mono om;refine⟨_,Ae (Ax 3 nd (Ci CP)) <|
  Ae (Ax 4 nd (Ci CP)) <|
  Ae (Gv PassesOwn.never rfl (Ke rfl mr (Ar (Io Fe hr1 rfl (An (pv 0) Ac Ac)))) (Fm (i:=5) nd rfl (Or.inl rfl)) <|
   Ae (Ax 6 nd (Ao CI (pv 0) (Ao ET Ac (pv 5)))) <|
   Ae (Ax 7 nd (Ao UI (Bw BP (pv 2) (Io Fd hr1 rfl (An (pv 6) Ac (AW ml (pv 2))))) (Io Fd hr1 rfl (An (pv 6) Ac Ac)))) <|
   Ae (Ax 8 nd (Io Fe hr1 rfl (An (pv 6) Ac Ac))) <|
   Ae (Ax 9 nd (Ai Fw hr (Ar (pv 6)))) <|
   Ba (Az (Au Dj (pv 8) Ac)
    (Ae (BT (Cv Ec DX DZ DM (pv 3) (Ar (Ao Hi (Ao Hi (Ao Hi (Ao Hi AT (Ao bE AT (Io Fd hr1 rfl (An (pv 6) Ac Ac)))) (Gf UX rfl ms KI (Ar (pv 7)))) AT) (pv 9))))) <|
     Ba (BT (Cv Ec DX DZ DM (pv 4) (Ar (Bp (An (pv 5) (pv 7) (pv 9)))))))
    (Ba (Az (Au Dj (pv 8) Ac)
     (Ae (BT (Cv Ec DX DZ DM (pv 3) (Ar (Ao Hi AT (Gf UX rfl ms KI (Ar (pv 7))))))) <|
      Ba (BT (Cv Ec DX DZ DM (pv 4) (Ar (Bp (An (pv 5) (pv 7) Db))))))
     (Ba (BT (Cv Ec DX DZ DM (pv 3) (Ar (Ao Hi AT (pv 9)))))))))) <|
  Aj (Bp (AG (Cv FX PySem.F.slot_str_join PySem.F.type_str_join Tr AT (Ar (pv 3))) (pv 4))),?_⟩
 refine⟨Dk,fun aR nR=>?_⟩;dsimp only[AZ];refine⟨Dk,fun aD nD=>?_⟩;dsimp only[AZ];have nRD:aR≠aD:=by rintro rfl;rw[Ad] at nD;cases nD
 have nD0:H aD=none:=by rw[Af (Ne.symm nRD)] at nD;exact nD
 have k0:∀ b o,H b=some o->Ab (Ab H aR (.lst [])) aD (.lst []) b=some o:=fun b o e=>by rw[Af (Aq e nD0),Af (Aq e nR)];exact e
 have nNR:aN≠aR:=Aq hN nR;have nND:aN≠aD:=Aq hN nD0;refine Aa U ⟨c,0,4,1000003,U,om,om,U,fun v0 H1 ev0 a0 b0 x1=>⟨v0,U,om,om,?_⟩⟩;have en:v0.toNat=Kd.nr c:=by unfold Kd.nr Kd.X;rw[ev0,Int.zero_mul,Int.add_zero]
 clear ev0;refine QI (n:=v0.toNat) (fun i σ H'=>(∀ b o,H b=some o->H' b=some o)/\(∃ ac ws,H' aR=some (.lst (ac.map V.str))/\H' aD=some (.lst ws)/\Paired (iL H') (BM D 0 ac) ws/\ac.length=i/\ws.length<=i/\(∀ r∈ac,r.length<=100/\C8 r/\j0 ks D r)/\Tk c i (BM D 0 ac))/\∃ o5 o6 o7 o8 o9,σ=tσ c D aN aR aD o5 o6 o7 o8 o9)
  ⟨fun b o e=>x1 _ _ (k0 _ _ e),⟨[],[],x1 _ _ (by rw[Af nRD];exact Ad),x1 _ _ Ad,.nil,U,by simp,by simp,U,fun z=>nomatch z⟩,none,none,none,none,none,U⟩ ?_ ?_
 . rintro i σ H2 hi ⟨x2,⟨ac,ws,hR2,hD2,pr,rl,wl,hall,tk⟩,o5,o6,o7,o8,o9,rfl⟩;rw[show(0:Int)+(i:Int)=((i:Nat):Int) by exact om];dsimp only[AZ];refine Aa U (Aa U ⟨_,Aa U ⟨U,.inl ⟨by decide,om⟩,_,Aa U ⟨U,?_⟩⟩⟩);dsimp only[AZ];generalize hone:c+61 * ((i:Nat):Int)=one;have hN2:=x2 _ _ hN;refine Aa U (Aa U (Aa U ⟨aN,Aa U ⟨.inl (gy.of hN2),one,1,Aa U ⟨om,by rw[AS];exact om,fun v1 H3 a1 b1 x3=>?_⟩⟩⟩));rw[AS] at b1;have hv:v1.toNat<ks.length:=by exact om
   have ek:BF (ks.map V.int) v1=some (.int ks[v1.toNat]):=by
    have z:BF (ks.map V.int) ((v1.toNat:Nat):Int)=some (.int ks[v1.toNat]):=BK (by rw[BG,Bc hv];rfl);rw[show((v1.toNat:Nat):Int)=v1 by exact om] at z;exact z
   obtain⟨r0,r1⟩:=hks _ (D3 hv);refine⟨aN,_,v1,Aa U ⟨U,gy.of (x3 _ _ hN2),ek,Aa U ⟨one,2,2,U,om,om,fun v2 H4 a2 b2 x4=>⟨_,Aa U ⟨U,?_⟩⟩⟩⟩⟩;dsimp only[AZ];obtain⟨kn,ekn,hkn,hmem⟩:∃ kn:Nat,Builtin.bitXor ks[v1.toNat] v2=(kn:Int)/\kn<2 ^ D/\(kn:Int)∈Jv ks:=by
    have e2:((2 ^ D:Nat):Int)=(2:Int) ^ D:=by norm_cast
    have key:∀ x:Int,0<=x->x<2 ^ D->x∈Jv ks->∃ kn:Nat,x=(kn:Int)/\kn<2 ^ D/\(kn:Int)∈Jv ks:=fun x h0 h1 hm=>⟨x.toNat,om,by rw[<- e2] at h1;exact om,by rw[show((x.toNat:Nat):Int)=x by exact om];exact hm⟩
    obtain rfl | rfl:v2=0\/v2=1:=by exact om
    . have e0:Builtin.bitXor ks[v1.toNat] 0=ks[v1.toNat]:=by rw[Sf,RD];exact om
      rw[e0];exact key _ r0 r1 (Ot _ (D3 hv))
    . obtain⟨y0,y1⟩:=V3 D1 r0 r1;exact key _ y0 y1 (DN _ (List.mem_map.mpr ⟨_,D3 hv,U⟩))
   rw[ekn];refine Aa U ⟨one,3,8,1000039,U,om,om,U,fun v3 H5 ev3 a3 b3 x5=>?_⟩;have ekd:(Kd.kd (c+61 * ((i:Nat):Int)):Int)=v3:=by
    rw[hone,ev3];exact Int.toNat_of_nonneg (NX _ (by decide))
   clear ev3;dsimp only[AZ];refine Aa U ⟨one,U,fun us H6 hul hus x6=>?_⟩;dsimp only[AZ];have wlen:(Txt.join "" us).length<=5:=by rw[ci hus];exact hul
   have wvis:C8 (Txt.join "" us):=Xc hus;generalize Txt.join "" us=wd at wlen wvis;have k26:∀ b o,H2 b=some o->H6 b=some o:=fun b o e=>x6 _ _ (x5 _ _ (x4 _ _ (x3 _ _ e)));have x26:∀ b o,H b=some o->H6 b=some o:=fun b o e=>k26 _ _ (x2 _ _ e);have hR6:=k26 _ _ hR2;have hD6:=k26 _ _ hD2;have pr6:=L2.Paired.je (fun e x h=>iL.up h fun p' xs y=>k26 _ _ y) pr;have hp16:2 ^ D<=65536:=Bu (Jq (by decide) D16) (by decide);have dl:=YS (n:=kn) om;have nb:((kn:Nat):Int).natAbs.log2<1920:=by
    rw[Int.natAbs_natCast];rcases Nat.eq_zero_or_pos kn with h0 | h0
    . rw[h0];decide
    . exact(Nat.log2_lt om).mpr (Cq (show kn<65536 by exact om) (Bu (by decide:65536<=2 ^ 16) (Jq (by decide) (by decide))))
   have ls:(Str.ofString (toString ((kn:Nat):Int))).length<=5:=by rw[CA,LY];exact dl
   have vs:C8 (Str.ofString (toString ((kn:Nat):Int))):=fun x hx=>by
    rw[LY] at hx;have:=O4 kn x hx;exact om
   have rz:(ac.map V.str).length<sizeLine:=by rw[AS,Bf];exact om
   have wz:ws.length<sizeLine:=by rw[Bf];exact om
   refine Aa U ⟨_,Aa U ⟨U,Aa U (AN (fun c5=>?_) (fun c5=>?_))⟩⟩
   . have c5:v3<5:=Bm c5;have lp:(EX:Str).length=4:=by decide +kernel
     have lb:(" " : Str).length=1:=by decide +kernel
     have sb:sg " " = [32]:=by decide +kernel
     refine Aa U ⟨.inl ⟨U,_,gy.of hR6⟩,Aa U ⟨one,4,3,U,om,om,fun v4 H7 a4 b4 x7=>?_⟩⟩;have er:=db a4 om;have lr:(Gq "0" v4).length<=3:=by rw[CA,er,List.length_replicate];exact om
     have vr:C8 (Gq "0" v4):=fun x hx=>by
      rw[er] at hx;have:=List.eq_of_mem_replicate hx;exact om
     refine⟨_,Aa U ⟨U,a4,om,om,_,Aa U ⟨U,by rw[Bf,lp];exact om,Aa U ⟨kn,U,nb,_,Aa U ⟨U,by rw[Bf,strLen_append,lp];exact Bu (Jg (GX lr _) ls) (by decide),_,Aa U ⟨U,?_,Aa U ⟨_,Aa U ⟨U,?_,aR,_,Aa U ⟨U,x7 _ _ hR6,rz,?_⟩⟩⟩⟩⟩⟩⟩⟩⟩
     . rw[Bf,strLen_append,strLen_append,lp,lb];exact Bu (OK (Jg (GX lr _) ls) _) (by decide)
     . rw[Bf,strLen_append,strLen_append,strLen_append,lp,lb];exact Bu (Jg (OK (Jg (GX lr _) ls) _) wlen) (by decide)
     have hrow:(EX++Gq "0" v4++Str.ofString (toString ((kn:Nat):Int))++" "++wd).length<=100/\C8 (EX++Gq "0" v4++Str.ofString (toString ((kn:Nat):Int))++" "++wd):=by
      refine⟨?_,Jc (Jc (Jc (Jc (by decide +kernel) vr) vs) (by decide +kernel)) wvis⟩;rw[strLen_append,strLen_append,strLen_append,strLen_append,lp,lb];exact Bu (Jg (OK (Jg (GX lr _) ls) _) wlen) (by decide)
     have hrd:BA (EX++Gq "0" v4++Str.ofString (toString ((kn:Nat):Int))++" "++wd) D=some (some (.put kn wd)):=by
      rw[Wz (n:=0) (w:=List.replicate v4.toNat 48++Ju kn) (v:=wd) (Vp (O4 kn)) (by rw[F0,F0,F0,F0,er,T5,LY,sb];simp),Va (by show v4.toNat+(Ju kn).length<=9;exact om),if_pos hkn];rfl
     have pr7:=L2.Paired.je (fun e x h=>iL.up h fun p' xs y=>x7 _ _ y) pr6;have hD7:Ab H7 aR (.lst (ac.map V.str++[V.str (EX++Gq "0" v4++Str.ofString (toString ((kn:Nat):Int))++" "++wd)])) aD=some (.lst ws):=by rw[Af (Ne.symm nRD)];exact x7 _ _ hD6
     refine Aa U ⟨.inl ⟨U,_,gy.of hD7⟩,Aa U (Aa U (Aa U ⟨Eg,fun p np=>⟨aD,ws,.ref p,U,U,by rw[Af (Aq hD7 np)];exact hD7,wz,?_⟩⟩))⟩;obtain⟨z1,r',w',f1,f2,f3,f4,f5,f6,f7⟩:=Wb (H6:=H7) (tp:=[.int (i:Nat),.int (kn:Nat),.str wd]) (fun b o e=>x7 _ _ (x26 _ _ e)) nR nD0 nRD (x7 _ _ hR6) (x7 _ _ hD6) pr7 rl wl hall hrow hrd hmem np (fun h=>⟨p,U,h⟩);exact⟨z1,⟨r',w',f1,f2,f3,f4,f5,f6,by rw[f7];exact tk.put om⟩,_,_,_,_,_,U⟩
   . have c5:¬ v3<5:=B8 (Bool.eq_false_iff.mpr c5);refine Aa U ⟨_,Aa U ⟨U,Aa U (AN (fun c7=>?_) (fun c7=>?_))⟩⟩
     . have c7:v3<7:=Bm c7;have lp:(ID:Str).length=5:=by decide +kernel
       have sp:sg ID=[32]++cutL:=by decide +kernel
       refine Aa U ⟨.inl ⟨U,_,gy.of hR6⟩,Aa U ⟨kn,U,nb,_,Aa U ⟨U,by rw[Bf,lp];exact Bu (GX ls _) (by decide),aR,_,Aa U ⟨U,hR6,rz,?_⟩⟩⟩⟩;have hrow:(ID++Str.ofString (toString ((kn:Nat):Int))).length<=100/\C8 (ID++Str.ofString (toString ((kn:Nat):Int))):=by
        refine⟨?_,Jc (by decide +kernel) vs⟩;rw[strLen_append,lp];exact Bu (GX ls _) (by decide)
       have hrd:BA (ID++Str.ofString (toString ((kn:Nat):Int))) D=some (some (.cut kn)):=by
        rw[Xj (n:=1) (m:=0) (w:=Ju kn) (O4 kn) (by rw[F0,sp,LY];simp)];have:=Va (k:=0) (m:=kn) (D:=D) (by show 0+(Ju kn).length<=9;exact om);rw[if_pos hkn] at this;have e0:List.replicate 0 48++(Nat.toDigits 10 kn).map Char.toNat=Ju kn:=rfl;rw[e0] at this;rw[this];rfl
       have hD7:Ab H6 aR (.lst (ac.map V.str++[V.str (ID++Str.ofString (toString ((kn:Nat):Int)))])) aD=some (.lst ws):=by rw[Af (Ne.symm nRD)];exact hD6
       refine Aa U ⟨.inl ⟨U,_,gy.of hD7⟩,Aa U (Aa U ⟨Eg,fun p np=>⟨aD,ws,.ref p,U,U,by rw[Af (Aq hD7 np)];exact hD7,wz,?_⟩⟩)⟩;obtain⟨z1,r',w',f1,f2,f3,f4,f5,f6,f7⟩:=Wb (H6:=H6) (tp:=[.int (i:Nat),.int (kn:Nat),.non]) x26 nR nD0 nRD hR6 hD6 pr6 rl wl hall hrow hrd hmem np (fun h=>⟨p,U,h⟩);exact⟨z1,⟨r',w',f1,f2,f3,f4,f5,f6,by rw[f7];exact tk.cut om om⟩,_,_,_,_,_,U⟩
     . have lp:("#" : Str).length=1:=by decide +kernel
       have sp:sg "#" = [35]:=by decide +kernel
       refine Aa U ⟨.inl ⟨U,_,gy.of hR6⟩,Aa U ⟨_,Aa U ⟨U,by rw[Bf,lp];exact om,aR,_,Aa U ⟨U,hR6,rz,?_⟩⟩⟩⟩;have hrow:("#"++wd).length<=100/\C8 ("#"++wd):=⟨by rw[strLen_append,lp];exact om,Jc (by decide +kernel) wvis⟩
       have hrd:BA ("#"++wd) D=some none:=U7 (n:=0) (l:=sg wd) (by rw[F0,sp];simp);obtain⟨z1,r',w',f1,f2,f3,f4,f5,f6,f7⟩:=dS x26 nR nRD hR6 hD6 pr6 rl wl hall hrow hrd;exact⟨z1,⟨r',w',f1,f2,f3,f4,f5,f6,by rw[f7];exact tk.rem om⟩,_,_,_,_,_,U⟩
 . rintro σ H2 ⟨x2,⟨ac,ws,hR2,hD2,pr,rl,wl,hall,tk⟩,o5,o6,o7,o8,o9,rfl⟩;have sm:=SB fun y hy=>(hall y hy).1;have l1:("\n" : Str).length=1:=by decide +kernel
   refine⟨U,Aa U ⟨"\n",aR,ac,U,U,gy.of hR2,by rw[l1];exact om,Aa U ⟨Cd,fun p np=>?_⟩⟩⟩;have kp:∀ b o,H2 b=some o->Ab H2 p (.tup [.str (Txt.join "\n" ac),.ref aD]) b=some o:=fun b o e=>by rw[Af (Aq e np)];exact e
   exact q p aD _ ac ws Ad (kp _ _ hD2) (L2.Paired.je (fun e x h=>iL.up h fun p' xs y=>kp _ _ y) pr) om hall (tk.fin en).1 (tk.fin en).2 nD0 fun b o e=>kp _ _ (x2 _ _ e)
end
section
open Tx
def Rv:Sp:=fun vs H Q _=>∃ (hd l:Addr)(kvs:List (Al×V))(ops:List (Nat×jw))(ws:List V),vs=[.ref hd,.ref l]/\H hd=some (.dK kvs)/\kvs.length<=5000/\H l=some (.lst ws)/\Paired (iL H) ops ws/\ops.length<=10/\
 match Eb ops kvs with
 | .inl n=>∀ H',(∀ b o,H b=some o->H' b=some o)->Q (.int (n:Int)) H'
 | .inr kvs'=>∀ b H',H' b=some (.dK kvs')->(∀ b o,H b=some o->H' b=some o)->H b=none->Q (.ref b) H'
theorem scBh:AA [Fh,Ll,"_law_behind_here",Oh] [Fh,Ll] (Ah MA):=AD
theorem Um {ops:List (Nat×jw)}(h:Paired (iL H) ops ws)(k:∀ b o,H b=some o->H' b=some o):Paired (iL H') ops ws:=L2.Paired.je (fun e x h=>iL.up h fun p' xs y=>k _ _ y) h
theorem dE {ops:List (Nat×jw)}(h:Paired (iL H) ops ws):∀ {i:Nat}{v:V},ws[i]? = some v->∃ o,ops[i]? = some o/\iL H o v:=by
 induction h with
 | nil=>intro i v e;simp at e
 | cons r _ ih=>
  intro i v e
  match i,e with
  | 0,e=>simp at e;subst e;exact⟨_,U,r⟩
  | i+1,e=>exact ih (by simpa using e)
theorem Yx (F:gp K mg Ob MA)(md:mg "dict" = none):hU P w K mg base 1 Ob [Fh,Ll] Rv:=by
 refine F.ok scBh (fun _ _ _ _ _ _=>CB fun _ _=>rfl) (fun _ _ _ _ h=>DS h fun _ _ _ _ _=>rfl) (fun f0 ad A outer s H vs Q E hr h=>?_);refine DQ h fun hd l kvs ops ws hZ=>Ey hZ fun eQ hH hz hl pr ol q=>?_;clear hZ h;subst eQ;have nd:=scBh.nd;have hu:=Hq hr;refine⟨_,Ae (Ax 2 nd (Gf S5 rfl md P0 (Ar (pv 0)))) <|
  Ae (Gv PassesOwn.never rfl (EB (pv 1)) (Fm (i:=3) nd rfl (Or.inl rfl)) <|
   Ba (Az (Au QV (As (pv 3)) Db) (Ba (QR hu (pv 2) (As (pv 3)) (As (pv 3)) rfl))
    (Ba (Az (PH (fW hu (As (pv 3)) (pv 2))) (Ba (BT (Si (pv 2) (As (pv 3)) ⟨U,U,U,U⟩))) (Aj (As (pv 3))))))) <|
  Aj (pv 2),?_⟩
 refine Aa U ⟨hd,kvs,U,hH,fun b nb=>?_⟩;dsimp only[AZ];have k1:∀ c o,H c=some o->Ab H b (.dK kvs) c=some o:=fun c o e=>by rw[Af (Aq e nb)];exact e
 generalize hres:Eb ops kvs=res at q;have plen:ws.length=ops.length:=by
  clear q hres hl
  induction pr with
  | nil=>rfl
  | cons _ _ ih=>rw[C5,C5,ih (by simp at ol;exact om)]
 refine Aa U ⟨l,U,⟨ws,gy.of (k1 _ _ hl)⟩,?_⟩;refine cx (xs:=ws) (fun i σ H'=>(∀ c o,H c=some o->H' c=some o)/\(∃ kvi,H' b=some (.dK kvi)/\res=Eb (ops.drop i) kvi/\kvi.length<=kvs.length+i)/\∃ o3,σ=[some (.ref hd),some (.ref l),some (.ref b),o3])
  ⟨k1,⟨kvs,Ad,hres.symm,om⟩,none,U⟩ (fun i σ H' _ h=>gy.of (h.1 _ _ hl)) ?_ ?_
 . rintro i v σ H2 ev ⟨x2,⟨kvi,hb,hg,hkl⟩,o3,rfl⟩;have hi:=(List.getElem?_eq_some_iff.mp ev).1;obtain⟨⟨n,st⟩,eo,ho⟩:=dE (Um pr x2) ev;have ed:ops.drop i=(n,st) :: ops.drop (i+1):=by
    have hio:=(List.getElem?_eq_some_iff.mp eo).1;rw[PU hio,(List.getElem?_eq_some_iff.mp eo).2]
   rw[ed] at hg;dsimp only[AZ];cases st with
   | put k z=>
    obtain⟨p,rfl,hp⟩:=ho;refine Aa U ⟨p,_,Aa U ⟨U,hp,U,U,Aa U ?_⟩⟩;rw[Bj (fun h=>nomatch h)];refine AC (Aa U ⟨p,_,Aa U ⟨U,hp,U,Aa U (Aa U ⟨p,_,Aa U ⟨U,hp,U,b,Aa U ⟨jG.k (k:=.inl (k:Int)) hb (by rw[Bf];exact om),?_⟩⟩⟩)⟩⟩);refine⟨fun c o e=>?_,⟨_,Ad,hg,by have:=JZ kvi (.inl (k:Int):Al) (V.str z);exact om⟩,_,U⟩;rw[Af (Aq e nb)];exact x2 _ _ e
   | cut k=>
    obtain⟨p,rfl,hp⟩:=ho;refine Aa U ⟨p,_,Aa U ⟨U,hp,U,U,Aa U ?_⟩⟩;rw[Be rfl];refine AK (Aa U ⟨p,_,Aa U ⟨U,hp,U,Aa U ⟨b,Aa U ⟨iN.k (k:=.inl (k:Int)) hb,Aa U ?_⟩⟩⟩⟩);unfold Eb at hg;cases hv:AX kvi (.inl (k:Int)) with
    | none=>
     rw[hv] at hg;dsimp only at hg;rw[hg] at q;exact AK (Aa U ⟨p,_,Aa U ⟨U,hp,U,q H2 x2⟩⟩)
    | some v0=>
     rw[hv] at hg;dsimp only at hg;refine AC (Aa U ⟨b,U,.inl ⟨_,.inl hb⟩,Aa U ⟨p,_,Aa U ⟨U,hp,U,kvi,.inl (k:Int),v0,hb,U,hv,?_⟩⟩⟩);refine⟨fun c o e=>?_,⟨_,Ad,hg,by have:=Oo kvi (.inl (k:Int):Al);exact om⟩,_,U⟩;rw[Af (Aq e nb)];exact x2 _ _ e
 . rintro σ H2 ⟨x2,⟨kvi,hb,hg,hkl⟩,o3,rfl⟩;rw[plen,OR] at hg;unfold Eb at hg;rw[hg] at q;exact Aa U (q b H2 hb x2 nb)
end
section
open Tx
theorem Vl (zs:List Str):Txt.join "\n" zs=Str.join nl zs:=by
 have e0:("\n" : Str)=nl:=by decide +kernel
 show Builtin.Str.glued "\n" zs=_;rw[StrLaws.glued_eq_join,e0]
theorem ca {zs:List Str}(hv:∀ z∈zs,C8 z):Txt.split (Txt.join "\n" zs) "\n" = if zs=[] then [("" : Str)] else zs:=by
 have e0:("\n" : Str)=nl:=by decide +kernel
 split
 . next h=>rw[h];decide +kernel
 . next h=>
   rw[Vl,e0];exact aS h fun z hz m=>by have:=hv z hz 10 m;exact om
theorem UJ:∀ (zs:List Str),(∀ z∈zs,z.length<=100)->(Str.join nl zs).length<=101 * zs.length
 | [],_=>by decide
 | [a],h=>by
  have:=h a CO;show a.length<=_;simp;exact om
 | a :: b :: l,h=>by
  have ih:=UJ (b :: l) fun z hz=>h z (CH _ hz);have ha:=h a CO;rw[CA,KG,Cf,C5,<- CA,<- CA];simp only[C5] at ih ⊢;exact om
theorem YX (h:C8 z):z.cps.all (· < 128)=true:=Array.all_eq_true_iff_forall_mem.mpr fun c hc=>by
 have:=h c (by simpa using hc);simp;exact om
theorem Re (D n:Nat)(r:Str)(l:List Str)(kvs:List (Al×V)):BI D n (r :: l) kvs=match BA r D with | none=>.inl n | some none=>BI D (n+1) l kvs | some (some (.put k v))=>BI D (n+1) l (BS kvs (.inl (k:Int)) (.str v)) | some (some (.cut k))=>match AX kvs (.inl (k:Int)) with | none=>.inl n | some _=>BI D (n+1) l (C4 kvs (.inl (k:Int))):=rfl
theorem fY {k:Al}{q:Al×V}(h:q∈BS kvs k v):q∈kvs\/q.1=k:=by
 cases e:AX kvs k with
 | none=>
  rw[Oz _ e] at h;rcases List.mem_append.mp h with z | z
  . exact .inl z
  . rw[List.mem_singleton.mp z];exact .inr rfl
 | some w=>
  rw[Ux (show(AX kvs k).isSome=true by rw[e];rfl)] at h;obtain⟨p,hp,rfl⟩:=List.mem_map.mp h;by_cases z:p.1=k
  . rw[if_pos z];exact .inr z
  . rw[if_neg z];exact .inl hp
structure jX (ks:List Int)(D:Nat)(kvs:List (Al×V)):Prop where
 w:jf D kvs
 nr:∀ q∈kvs,C0 q.1∈Jv ks
theorem S7 {α:Type} [DecidableEq α]:∀ {l m:List α},l.Nodup->(∀ x∈l,x∈m)->l.length<=m.length
 | [],_,_,_=>Es _
 | a :: l,m,hn,hs=>by
  have h1:=List.nodup_cons.mp hn;have h2:∀ x∈l,x∈m.erase a:=fun x hx=>(List.mem_erase_of_ne (fun(e:x=a)=>h1.1 (by rw[<- e];exact hx))).mpr (hs x (CH _ hx));have h3:=S7 h1.2 h2;have h4:=List.length_erase_of_mem (hs a CO);have h5:0<m.length:=List.length_pos_of_mem (hs a CO);rw[C5];exact om
theorem jX.len (h:jX ks D kvs):kvs.length<=2 * ks.length:=by
 have nd:(kvs.map fun q=>C0 q.1).Nodup:=by
  have h0:=h.w.nd;unfold List.Nodup at h0 ⊢;rw[List.pairwise_map] at h0 ⊢;refine h0.imp_of_mem fun {a b} ma mb h' e=>?_;obtain⟨i,x,rfl,_⟩:=h.w.all a ma;obtain⟨j,y,rfl,_⟩:=h.w.all b mb;exact h' (congrArg Sum.inl (show i=j from e))
 have:=S7 nd fun x hx=>by
  obtain⟨q,hq,rfl⟩:=List.mem_map.mp hx;exact h.nr q hq
 rw[AS,Cf,AS] at this;exact om
theorem O3 {ks:List Int}{D:Nat}:∀ (l:List Str)(n:Nat)(kvs kvs':List (Al×V)),(∀ r∈l,j0 ks D r)->jX ks D kvs->BI D n l kvs = .inr kvs'->jX ks D kvs'
 | [],n,kvs,kvs',_,h,e=>by cases e;exact h
 | r :: l,n,kvs,kvs',hl,h,e=>by
  have hl':∀ x∈l,j0 ks D x:=fun x hx=>hl x (CH _ hx);obtain⟨o,eo,ho⟩:=hl r CO;have of:=V4 (r:=r) (D:=D);rw[Re,eo] at e;cases o with
  | none=>exact O3 l _ _ _ hl' h e
  | some st=>
   have hk:=ho st rfl;cases st with
   | put k v=>
    have o1:=of.1 k v eo;refine O3 l _ _ _ hl' ⟨h.w.put o1.1 o1.2 v,fun q hq=>?_⟩ e;rcases fY hq with z | z
    . exact h.nr q z
    . rw[z];exact hk
   | cut k=>
    dsimp only at e;cases hv:AX kvs (.inl (k:Int)) with
    | none=>rw[hv] at e;cases e
    | some v=>
     rw[hv] at e;exact O3 l _ _ _ hl' ⟨h.w.drop _,fun q hq=>h.nr q (Rm hq)⟩ e
theorem cK (ks:List Int)(D:Nat):j0 ks D "":=⟨none,U8 (n:=0) (by decide +kernel),fun _ e=>nomatch e⟩
theorem V5 (D:Nat):∀ (n:Nat)(l:List Str),(BM D n l).length<=l.length
 | _,[]=>Ay _
 | n,r :: l=>by
  have ih:=V5 D (n+1) l;show((match BA r D with | some (some st)=>[(n,st)] | _=>[])++BM D (n+1) l).length<=_;rw[Cf,C5];split
  . rw[EU];exact om
  . rw[List.length_nil];exact om
end
def MJ (t:TT)(σ:St)(H:Hp)(c:Bool):Prop:=∀ Q:Bool->Hp->Prop,Q c H->t σ H Q
def ij (t:TE)(σ:St)(H:Hp)(v:V):Prop:=∀ Q:VK,Q v H->t σ H Q
theorem RC {c:TT}{t u v:TS}{D:DE}{b:Bool}(h:MJ c σ H b)(hb:b=true)(k:t { D with nx:=v D } σ H):GA (Pp c t u) v D σ H:=h _ (by rw[hb];exact AC k)
theorem QP {c:TT}{t v:TS}{D:DE}{b:Bool}(h:MJ c σ H b)(hb:b=false)(k:v D σ H):GA (Pp c t VZ) v D σ H:=h _ (by rw[hb];exact AK k)
theorem EG {rest:TS}{D:DE}(R:V->Hp->Prop)(hm:∀ Q':VK,(∀ v H',R v H'->Q' v H')->te σ H Q')(hq:∀ v H',R v H'->g v σ H' (rest D)):GA (HY te g) rest D σ H:=hm _ hq
def jy (S:Sl)(H:Hp)(D:Nat)(e:En)(v:V):Prop:=∃ p d u,v = .ref p/\H p=some (.tup [.str e.1,.ref d,u])/\H d=some (.dK e.2.1)/\AE S H (CQ D e.2.2) u
theorem jy.up {e:En}(h:jy S H D e v)(g:Gr S n H H'):jy S H' D e v:=by
 obtain⟨p,d,u,rfl,h1,h2,h3⟩:=h;exact⟨p,d,u,U,g.same h1,g.same h2,AO g.gn h3⟩
def jm (S:Sl)(H:Hp)(D:Nat)(b:Addr)(es:List En)(us:List V):Prop:=H b=some (.lst us)/\Paired (jy S H D) es us
theorem jm.up (h:jm S H D b es us)(g:Gr S n H H'):jm S H' D b es us:=
 ⟨g.lst h.1,L2.Paired.je (fun _ _ z=>z.up g) h.2⟩
section
variable {K:W.Frag}{mg:gj}{C cT:Addr}
structure Rt (K:W.Frag)(mg:gj)(C cT:Addr)(S:Sl)(f x aT aL aB b aN:Addr)(D:Nat)(es:List En)(us:List V)(ks:List Int)(n:Nat)(H:Hp):Prop where
 sl:gx K mg AU S H f
 jC:iJ S H n
 kp:iE C cT S H x f aT aL aB D es
 bk:jm S H D b es us
 nr:H aN=some (.lst (ks.map V.int))
theorem Rt.go {m k:Nat}(h:Rt K mg C cT S f x aT aL aB b aN D es us ks n H)(g:Gr S m H H')(hk:m+k<=n):Rt K mg C cT S f x aT aL aB b aN D es us ks k H':=
 ⟨h.sl.up g.gn,h.jC.go g.gn hk,h.kp.up g,h.bk.up g,g.lst h.nr⟩
theorem Rt.ext (h:Rt K mg C cT S f x aT aL aB b aN D es us ks n H)(k:∀ b o,H b=some o->H' b=some o):Rt K mg C cT S f x aT aL aB b aN D es us ks n H':=h.go (Gr.ext h.sl.told k) om
end
theorem Vd {c:Addr}(ha:H a=some (.lst us))(hc:H c=some (.lst [])):ik H 1 (.ref a) (.ref c) us.isEmpty:=
 .inr (.inr ⟨a,c,us,[],fun _=>true,U,U,ha,hc,fun i u v _ e2=>by simp at e2,by cases us <;> simp⟩)
theorem Zc {e:En}(h:es.length=n+1)(he:es[n]? = some e):BZ es=e.2.1:=by
 unfold BZ;rw[h,NS,BG,he];rfl
theorem ib.sub {l':List Addr}(g:ib S n l H H')(h:∀ a∈l,a∈l'):ib S n l' H H':=⟨g.gn,fun b o e nb d=>g.all b o e (fun z=>nb (h b z)) d⟩
theorem jy.off {e:En}(h:jy S H D e v)(k:ib S n l H H')(t:C3 S H)(hl:∀ a∈l,∃ xs,H a=some (.lst xs)):jy S H' D e v:=by
 obtain⟨p,d,u,rfl,h1,h2,h3⟩:=h;exact⟨p,d,u,U,k.kh t hl h1 (fun _ e=>nomatch e) (fun _ e=>nomatch e),k.kh t hl h2 (fun _ e=>nomatch e) (fun _ e=>nomatch e),AO k.gn h3⟩
theorem jm.off (h:jm S H D b es us)(k:ib S n l H H')(t:C3 S H)(hl:∀ a∈l,∃ xs,H a=some (.lst xs))(nb:b∉l):jm S H' D b es us:=
 ⟨k.lst t h.1 nb,L2.Paired.je (fun _ _ z=>z.off k t hl) h.2⟩
section
open Tx
def eG (H:Hp)(r:Sum Nat (List (Al×V)))(v:V):Prop:=match r with
 | .inl n=>v = .int (n:Int)
 | .inr kvs=>∃ b,v = .ref b/\H b=some (.dK kvs)
structure SM (H:Hp)(D:Nat)(ks:List Int)(mp l:Addr)(ac:List Str)(ws:List V):Prop where
 p:H mp=some (.tup [.str (Txt.join "\n" ac),.ref l])
 l:H l=some (.lst ws)
 o:Paired (iL H) (BM D 0 ac) ws
 n:ac.length<=3
 r:∀ r∈ac,r.length<=100/\C8 r/\j0 ks D r
theorem iE.lists (hK:iE C cT S H x f aT aL aB D es):∀ a∈[aT,aL,aB],∃ xs,H a=some (.lst xs):=fun a ha=>by
 obtain⟨_,h2',⟨wL,h3',_⟩,⟨ws',h5',_⟩,_,_,_,_⟩:=hK;simp only[Dc,CW,or_false] at ha;rcases ha with rfl | rfl | rfl
 . exact⟨_,h2'⟩
 . exact⟨_,h3'⟩
 . exact⟨_,h5'⟩
theorem SE {H3 H5:Hp}{bd pt:Addr}{t:Str}{kv:List (Al×V)}{rws:List Rw}(tld:C3 S H)(hK:iE C cT S H x f aT aL aB D es)(hB:jm S H D b es us)(nb:b∉[aT,aL,aB])
 (K3:iE C cT S H3 x f aT aL aB D (es++[(t,kv,rws)]))(L3:ib S 3400 [aT,aL,aB] H H3)(g5:Gr S 3000 H3 H5)(hbd:H5 bd=some (.dK kv))(hp:H5 pt=some (.tup [.str t,.ref bd,v]))(iv:AE S H5 (CQ D rws) v) :
 H5 b=some (.lst us)/\ib S 6400 [aT,aL,aB,b] H (Ab H5 b (.lst (us++[.ref pt])))/\iE C cT S (Ab H5 b (.lst (us++[.ref pt]))) x f aT aL aB D (es++[(t,kv,rws)])/\jm S (Ab H5 b (.lst (us++[.ref pt]))) D b (es++[(t,kv,rws)]) (us++[.ref pt]):=by
 have hls:=hK.lists;have B3:=hB.off L3 tld hls nb;have B5:=B3.up g5;have hb1:∀ a∈[b],∃ xs,H5 a=some (.lst xs):=fun a ha=>by rw[List.mem_singleton.mp ha];exact⟨_,B5.1⟩
 have t5:=g5.gn.gu;have L6:ib S 0 [b] H5 (Ab H5 b (.lst (us++[.ref pt]))):=.chg t5 B5.1 (by simp);have ne1:aT≠b:=by rintro rfl;exact nb (by simp)
 have ne2:aL≠b:=by rintro rfl;exact nb (by simp)
 have ne3:aB≠b:=by rintro rfl;exact nb (by simp)
 refine⟨B5.1,?_,(K3.up g5).off L6 t5 hb1 (by simpa using ne1) (by simpa using ne2) (by simpa using ne3),Ad,?_⟩
 . have s1:∀ a∈[aT,aL,aB],a∈[aT,aL,aB,b]:=fun a ha=>by simp only[Dc,CW,or_false] at ha ⊢;rcases ha with h | h | h <;> simp[h]
   have s2:∀ a∈[b],a∈[aT,aL,aB,b]:=fun a ha=>by rw[List.mem_singleton.mp ha];simp
   exact((L3.sub s1).trans ((ib.of g5).trans (L6.sub s2))).up om
 . refine Dy (L2.Paired.je (fun _ _ z=>z.off L6 t5 hb1) B5.2) (.cons (jy.off ⟨pt,bd,v,U,hp,hbd,iv⟩ L6 t5 hb1) .nil)
end
section
open Tx
noncomputable abbrev HX:Stmt:=top 69
noncomputable abbrev ZE:List Str:=[Bo,Lw,CN,BO,EN,EE,"_law_seed",Ed,Cz,"_law_made","_law_due"]
theorem scFi:AA ZE [Bo,Lw,CN,BO,EN] (Ah HX):=AD
def UR (K:W.Frag)(mg:gj)(C cT:Addr):Sp:=fun vs H Q _=>∃ (S:Sl)(f x a aN aT aL aB:Addr)(D:Nat)(ns ks:List Int),vs=[.ref f,.ref x,.ref a,.int (D:Int),.ref aN]/\gx K mg AU S H f/\iJ S H 1000000/\iE C cT S H x f aT aL aB D []/\H aN=some (.lst (ks.map V.int))/\aN∉[aT,aL,aB]/\j9 K H a (ns.map V.int)/\0<ks.length/\ks.length<=40/\(∀ k∈ks,Of k D)/\1<=D/\D<=16/\
 ∀ b H' es us,ib S 900000 [aT,aL,aB] H H'->iE C cT S H' x f aT aL aB D es->jm S H' D b es us->1<=es.length->es.length<=38->b∉[aT,aL,aB]->H b=none->Q (.ref b) H'
structure gN (K:W.Frag)(mg:gj):Prop where
 mi:mg DY=none
 md:mg "dict" = none
 kd:W.kitOne K (.type "dict") (.type "dict")=some true
 ki:W.kitOne K (.type "int") (.type "dict")=some false
theorem ib.own (k:ib S n (l++[b]) H1 H')(nb:H b=none)(g:Gr S 0 H H1):ib S n l H H':=by
 refine⟨by have:=g.gn.trans k.gn;rwa [Nat.zero_add] at this,fun c o h nc d=>k.all c o (g.all c o h d) (fun z=>?_) d⟩;rcases List.mem_append.mp z with m | m
 . exact nc m
 . rw[List.mem_singleton.mp m,nb] at h;cases h
theorem gC {mp l:Addr}{ac:List Str}(hM:SM H D ks mp l ac ws)(kvs:List (Al×V)):(Txt.join "\n" ac).length<=1000/\BI D 0 (Txt.split (Txt.join "\n" ac) "\n") kvs=Eb (BM D 0 ac) kvs/\(∀ r∈Txt.split (Txt.join "\n" ac) "\n",r.length<=100/\C8 r/\j0 ks D r)/\(Txt.split (Txt.join "\n" ac) "\n").length<=3:=by
 have es_:=ca fun r hr=>(hM.r r hr).2.1;refine⟨?_,?_,?_,?_⟩
 . rw[Vl];have:=UJ ac (fun z hz=>(hM.r z hz).1);have:=hM.n;exact om
 . rw[es_];split
   . next z=>
     have:BA "" D=some none:=U8 (n:=0) (by decide +kernel);rw[z,Re,this];rfl
   . exact SN 0 ac kvs fun r hr=>(hM.r r hr).2.2.ne
 . rw[es_];intro r hr;split at hr
   . rw[List.mem_singleton.mp hr];exact⟨by decide,by decide +kernel,cK ks D⟩
   . exact hM.r r hr
 . rw[es_];split
   . decide
   . exact hM.n
theorem P8:∀ (S:List (Nat×jw))(kvs kv:List (Al×V)),Eb S kvs = .inr kv->kv.length<=kvs.length+Ev S
 | [],kvs,kv,h=>by cases h;exact Nat.le_add_right _ _
 | (n,.put k v) :: S,kvs,kv,h=>by
  have z:=P8 S (BS kvs (.inl (k:Int)) (.str v)) kv h;have y:=JZ kvs (.inl (k:Int):Al) (V.str v);have e:Ev ((n,.put k v) :: S)=Ev S+1:=by unfold Ev;rw[Qd rfl];rfl
  exact om
 | (n,.cut k) :: S,kvs,kv,h=>by
  have e:Ev ((n,.cut k) :: S)=Ev S:=by unfold Ev;rw[P7 (by simp[QZ])]
  have h:(match AX kvs (.inl (k:Int)) with | none=>Sum.inl n | some _=>Eb S (C4 kvs (.inl (k:Int)))) = .inr kv:=h;cases hv:AX kvs (.inl (k:Int)) with
  | none=>rw[hv] at h;cases h
  | some x=>
   rw[hv] at h;have z:=P8 S _ kv h;have y:=Oo kvs (.inl (k:Int):Al);exact om
theorem T9:∀ (S:List (Nat×jw))(kvs:List (Al×V))(n:Nat),Eb S kvs = .inl n->Kn S=true
 | [],kvs,n,h=>by cases h
 | (m,.put k v) :: S,kvs,n,h=>T9 S _ n h
 | (m,.cut k) :: S,kvs,n,h=>rfl
structure Fi (K:W.Frag)(mg:gj)(C cT:Addr)(S:Sl)(f x aT aL aB b aN:Addr)(D:Nat)(es:List En)(us:List V)(ks:List Int)(n m:Nat)(H1 H:Hp):Prop where
 rt:Rt K mg C cT S f x aT aL aB b aN D es us ks n H
 kl:ib S m [aT,aL,aB,b] H1 H
 nr:jX ks D (BZ es)
theorem gG (F:gp K mg Jo HX)(T:DW K mg C)(I:gN K mg)(Fc:hU P w K mg base 1 J7 [CN,Cz] (N9 K))(Ftx:hU P w K mg base 3 JS [BB,BO,EN] (RZ K))(Fbh:hU P w K mg base 1 Ob [Fh,Ll] Rv)
 (Ma:AF P w K mg base C 21 "add" [Ak,Dh] (Tc K mg C cT))(Ftb:hU P w K mg base 20 Ox [Bo,Fh,BO] (Tn K mg))(ml:mg B0=none)(mr:mg "range" = none):hU P w K mg base 22 Jo [Bo,Lw,CN,BO,EN] (UR K mg C cT):=by
 refine F.ok scFi (fun _ _ _ _ _ _=>FJ fun _ _ _ _ _=>rfl) (fun _ _ _ _ h=>XU h fun _ _ _ _ _ _ _ _ _ _ _=>rfl) (fun f0 ad A outer s H vs Q E hr h=>?_);refine ZO h fun S f x a aN aT aL aB D ns ks hZ=>WD hZ fun eQ hS hc hK hN nN hA k0 k40 hks D1 D16 q=>?_;clear hZ h;subst eQ;have nd:=scFi.nd;have hun:=hr.un;have mi:=I.mi;have md:=I.md;refine⟨_,Ae (Ax 5 nd (Ci CP)) <|
  Ae (Ax 6 nd (Ai Fc hr.m (AG (pv 2) Ac))) <|
  Ae (Ax 7 nd (Ao CI Ac (Ao De (Ao Gi (Ai Fc hr.m (AG (pv 2) Ac)) Ac) Ac))) <|
  Ae (Az (Au Fg (AW ml (pv 4)) Ac) (Ba (Ax 7 nd (Ao CI (pv 7) Ac))) AB) <|
  Ae (Gv PassesOwn.never rfl (Ke rfl mr (Ar (Ao ET Ac (pv 7)))) (Fm (i:=8) nd rfl (Or.inl rfl)) <|
   Ae (Ax 9 nd (Ai Ftx hr.m (An (Ao CI (pv 6) (Ao ET Ac (pv 8))) (pv 3) (pv 4)))) <|
   Ae (Ax 10 nd (Ai Fbh hr.m (AG (F7 (Au Ry (pv 5) (Ci CP)) (As (Bw BP (pv 5) (Ao CC (AW ml (pv 5)) Ac))) NH) (As (pv 9))))) <|
   Ba (Az (PW.pt (O5 (Ca (B7 Dp rfl mi CZ (AG (pv 10) (Dn rfl md P0)))) (NF (Au Dj (AW ml (pv 5)) (pv 7)))))
    (Ae (BT (Ct Ma (pv 1) T.cl hr (Ar (As (pv 9))))) <|
     Ba (BT (Cv Ec DX DZ DM (pv 5) (Ar (Bp (An (As (pv 9)) (pv 10) (Ai Ftb hr.m (An (pv 0) (pv 10) (pv 3))))))))) AB)) <|
  Ae (Az (Au PQ (pv 5) (Ci CP))
   (Ae (BT (Ct Ma (pv 1) T.cl hr (Ar AT))) <|
    Ba (BT (Cv Ec DX DZ DM (pv 5) (Ar (Bp (An AT NH (Ai Ftb hr.m (An (pv 0) NH (pv 3))))))))) AB) <|
  Aj (pv 5),?_⟩
 refine⟨Dk,fun b nb=>?_⟩;have g1:Gr S 0 H (Ab H b (.lst [])):=.new hS.told nb;have hb:Ab H b (.lst []) b=some (.lst []):=Ad;generalize Ab H b (.lst [])=H1 at g1 hb ⊢;have hA1:=hA.up g1.gn;have hN1:=g1.lst hN;have nbL:b∉[aT,aL,aB]:=fun z=>by
  obtain⟨xs,e⟩:=hK.lists b z;rw[nb] at e;cases e
 have nNb:aN∉[aT,aL,aB,b]:=fun z=>by
  simp only[Dc,CW,or_false] at z nN;rcases z with z | z | z | z
  . exact nN (.inl z)
  . exact nN (.inr (.inl z))
  . exact nN (.inr (.inr z))
  . rw[z,nb] at hN;cases hN
 dsimp only[AZ];refine Aa U ⟨a,ns,2,U,hA1.sq,om,fun seed=>?_⟩;dsimp only[AZ];refine Aa U ⟨a,ns,0,U,hA1.sq,om,fun c0=>⟨_,Aa U ⟨U,⟨by decide,om⟩,_,Aa U ⟨U,(by show(0:Int)<8;decide),_,Aa U ⟨U,?_⟩⟩⟩⟩⟩;dsimp only[AZ];have hm:(1:Int)<=1+c0 / 16 % 8/\1+c0 / 16 % 8<=8:=by exact om
 generalize 1+c0 / 16 % 8=m0 at hm;refine MR (fun σ H'=>H1=H'/\∃ mn:Int,1<=mn/\mn<=38/\σ=[some (.ref f),some (.ref x),some (.ref a),some (.int (D:Int)),some (.ref aN),some (.ref b),some (.int seed),some (.int mn),none,none,none]) (fun D' hD'=>?_) ?_
 . refine Aa U ⟨aN,Aa U ⟨.inl (gy.of hN1),_,Aa U ⟨U,Aa U (AN (fun _=>Aa U ⟨_,Aa U ⟨U,hD' _ _ ⟨U,m0+30,om,om,U⟩⟩⟩) (fun _=>hD' _ _ ⟨U,m0,om,om,U⟩))⟩⟩⟩
 rintro _ _ ⟨rfl,mn,m1,m38,rfl⟩;refine Aa U ⟨_,Aa U ⟨U,.inl ⟨by decide,om⟩,Aa U ⟨om,om,?_⟩⟩⟩;refine QI (n:=(3 * mn).toNat) (fun i σ H'=>∃ (es:List En) (us:List V) (o8 o9 o10:Option V),Fi K mg C cT S f x aT aL aB b aN D es us ks (1000000 - 7000 * i) (7000 * i) H1 H'/\(es.length:Int)<=mn/\(∃ Pc,(BZ es).length<=Pc/\Pc<=58/\((es.length:Int)<mn->Kd.Iv seed i es.length Pc))/\σ=[some (.ref f),some (.ref x),some (.ref a),some (.int (D:Int)),some (.ref aN),some (.ref b),some (.int seed),some (.int mn),o8,o9,o10])
  ⟨[],[],none,none,none,⟨⟨hS.up g1.gn,hc.go g1.gn om,hK.up g1,⟨hb,.nil⟩,hN1⟩,ib.up (ib.of (.refl g1.gn.gu)) om,.nil,by intro q hq;cases hq⟩,by simp;exact om,⟨0,Ay _,om,fun _=>Kd.Iv.zero seed⟩,U⟩ ?_ ?_
 . rintro i σ H2 hi ⟨es,us,o8,o9,o10,h,hl,⟨Pc,pc1,pc2,pc3⟩,rfl⟩;dsimp only[AZ];have tld:=h.rt.sl.told;refine Aa U (Aa U ⟨_,Aa U ⟨U,.inl ⟨by decide,om⟩,_,Aa U ⟨U,Aa U (Aa U ⟨_,D,aN,ks,U,h.rt.nr,k0,hks,D1,D16,fun mp l H3 ac ws hp hl3 pr rl hall np hcu nl x3=>?_⟩)⟩⟩⟩);rw[show(0:Int)+(i:Int)=(i:Int) by exact om] at np hcu;have x3:∀ b o,H2 b=some o->H3 b=some o:=x3;have M3:SM H3 D ks mp l ac ws:=⟨hp,hl3,pr,rl,hall⟩
   have h3:=h.rt.ext x3;have lu:=Bq h3.bk.2;have kl8:=h.nr.len;obtain⟨jl,hgo,hall',hsl⟩:=gC M3 (BZ es);have sln:=V5 D 0 ac;dsimp only[AZ];refine EG (fun v H4=>(∀ b o,H3 b=some o->H4 b=some o)/\eG H4 (BI D 0 (Txt.split (Txt.join "\n" ac) "\n") (BZ es)) v) (fun Q' hQ=>?_) ?_
   . have arg:∀ (hd:Addr) (H4:Hp),(∀ b o,H3 b=some o->H4 b=some o)->H4 hd=some (.dK (BZ es))->Rv [.ref hd,.ref l] H4 Q' E0:=fun hd H4 x4 hh=>by
      refine⟨hd,l,BZ es,BM D 0 ac,ws,U,hh,om,x4 _ _ hl3,Um pr x4,om,?_⟩;rw[hgo] at hQ;cases e:Eb (BM D 0 ac) (BZ es) with
      | inl m=>rw[e] at hQ;exact fun H5 x5=>hQ _ _ ⟨fun b o e=>x5 _ _ (x4 _ _ e),U⟩
      | inr kv=>rw[e] at hQ;exact fun b H5 hb x5 _=>hQ _ _ ⟨fun b o e=>x5 _ _ (x4 _ _ e),b,U,hb⟩
     refine Aa U ⟨Dk,fun l0 nl0=>?_⟩;have x4:∀ b o,H3 b=some o->Ab H3 l0 (.lst []) b=some o:=fun b o e=>by rw[Af (Aq e nl0)];exact e
     refine⟨1,_,Vd (x4 _ _ h3.bk.1) Ad,(by show(A.deeper (PyProof.Rows.envOfC Jo (Ah HX) s.heap.objs.size f0 ad)).units+1+1<cLine;exact om),Aa U ?_⟩;cases hus:us with
     | nil=>
      refine AK ?_;have ee:es=[]:=by rw[hus] at lu;exact List.length_eq_zero_iff.mp lu
      intro h0 nh0;have x5:∀ b o,H3 b=some o->Ab (Ab H3 l0 (.lst [])) h0 (.dK []) b=some o:=fun b o e=>by rw[Af (Aq (x4 _ _ e) nh0)];exact x4 _ _ e
      exact Aa U ⟨mp,_,Aa U ⟨U,(x5 _ _ hp),U,arg h0 _ x5 (by rw[ee];exact Ad)⟩⟩
     | cons u0 us0=>
      refine AC ?_;have ln:es.length=us0.length+1:=by rw[lu,hus];rfl
      have ee:es[us0.length]? = some es[us0.length]:=Bc om;obtain⟨v,eu,hv⟩:=Od h3.bk.2 ee;obtain⟨pt,d,u,rfl,hpt,hd,iu⟩:=hv;have lk:=Zc ln ee;have hb:=x4 _ _ h3.bk.1;rw[hus] at hb eu;refine Aa U (Aa U ⟨b,Aa U ⟨.inl (gy.of hb),_,Aa U ⟨U,b,_,_,Aa U ⟨U,gy.of hb,?_,pt,_,Aa U ⟨U,(x4 _ _ hpt),U,Aa U ⟨mp,_,Aa U ⟨U,(x4 _ _ hp),U,arg d _ x4 (by rw[lk];exact x4 _ _ hd)⟩⟩⟩⟩⟩⟩⟩);have z:=BK eu;rw[show((us0.length:Nat):Int)=(((u0 :: us0).length:Nat):Int) - 1 by rw[C5];exact om] at z;exact z
   rintro du H4 ⟨x4,hdu⟩;dsimp only[AZ];have x24:∀ b o,H2 b=some o->H4 b=some o:=fun b o e=>x4 _ _ (x3 _ _ e);have g24:Gr S 0 H2 H4:=.ext tld x24;have h4:=h.rt.ext x24;have lenk:∀ kv,BI D 0 (Txt.split (Txt.join "\n" ac) "\n") (BZ es) = .inr kv->kv.length<=Pc+Kd.puts (seed+331 * (i:Int)):=fun kv e=>by
    rw[hgo] at e;have:=P8 _ _ _ e;exact om
   have near:∀ kv,BI D 0 (Txt.split (Txt.join "\n" ac) "\n") (BZ es) = .inr kv->jX ks D kv:=fun kv e=>O3 _ _ _ _ (fun r hr=>(hall' r hr).2.2) h.nr e;have same:((es.length:Int)<mn->Kd.Iv seed (i+1) es.length Pc)->∀ o8 o9 o10:Option V,∃ (es:List En) (us:List V) (p8 p9 p10:Option V),Fi K mg C cT S f x aT aL aB b aN D es us ks (1000000 - 7000 * (i+1)) (7000 * (i+1)) H1 H4/\(es.length:Int)<=mn/\(∃ Pc,(BZ es).length<=Pc/\Pc<=58/\((es.length:Int)<mn->Kd.Iv seed (i+1) es.length Pc))/\[some (.ref f),some (.ref x),some (.ref a),some (.int (D:Int)),some (.ref aN),some (.ref b),some (.int seed),some (.int mn),o8,o9,o10]=[some (.ref f),some (.ref x),some (.ref a),some (.int (D:Int)),some (.ref aN),some (.ref b),some (.int seed),some (.int mn),p8,p9,p10]:=fun hz o8 o9 o10=>⟨es,us,o8,o9,o10,⟨h.rt.go g24 om,(h.kl.trans (.of g24)).up om,h.nr⟩,hl,⟨Pc,pc1,pc2,hz⟩,U⟩
   cases hg:BI D 0 (Txt.split (Txt.join "\n" ac) "\n") (BZ es) with
   | inl n=>
    rw[hg] at hdu;obtain rfl:du = .int (n:Int):=hdu;refine Aa U ⟨_,_,_,Aa U ⟨.int _,I.ki,Aa U ?_⟩⟩;exact AK (AK (same (fun z=>(pc3 z).next (.inr ⟨U,U,hcu (T9 _ _ n (by rw[<- hgo];exact hg))⟩)) _ _ _))
   | inr kv=>
    rw[hg] at hdu;obtain⟨bd,rfl,hbd⟩:=hdu;have nr':=near kv hg;have l80:=lenk kv hg;refine Aa U ⟨_,_,_,Aa U ⟨.dK hbd,I.kd,Aa U ?_⟩⟩;refine AC (Aa U ⟨b,us,U,.inl (gy.of h4.bk.1),Aa U ⟨_,Aa U ⟨U,Aa U (AN (fun c=>?_) (fun c=>same (fun z=>absurd (show((us.length:Nat):Int)<mn by exact om) (B8 (Bool.eq_false_iff.mpr c))) _ _ _))⟩⟩⟩);have c':((us.length:Nat):Int)<mn:=Bm c;have ivn:Kd.Iv seed (i+1) (es.length+1) (Pc+Kd.puts (seed+331 * (i:Int))):=(pc3 om).next (.inl ⟨U,U⟩);have Ai:=ivn.fin om om;obtain⟨dx,ob⟩:=h4.kp.ob;have hp4:=x4 _ _ hp;refine⟨_,U,x,dx,_,U,ob,U,_,U,mp,_,_,U,U,hp4,U,S,x,f,aT,aL,aB,D,es,_,U,h4.kp,h4.sl,h4.jC.dn om,D16,om,om,om,fun r hr=>⟨by have:=(hall' r hr).1;exact om,YX (hall' r hr).2.1⟩,fun kv' e=>?_,?_⟩
    . have z:=near kv' e;have z2:=lenk kv' e;exact⟨z.w,om⟩
    rw[hg];intro rws H5 srt K5 L5;have hls:=h4.kp.lists;have t4:=h4.sl.told;have B5:=h4.bk.off L5 t4 hls nbL;have bd5:=L5.kh t4 hls hbd (fun _ e=>nomatch e) (fun _ e=>nomatch e);have hp5:=L5.kh t4 hls hp4 (fun _ e=>nomatch e) (fun _ e=>nomatch e);have eo:Er D (Txt.join "\n" ac,kv,rws):=⟨nr'.w,by show kv.length<=63;exact om,srt,by show(Txt.join "\n" ac).length<=2000;exact om⟩
    have ct:C1 D rws+1<=3000:=LM eo D16;refine Aa U ⟨.inl ⟨U,_,gy.of B5.1⟩,Aa U ⟨mp,_,Aa U ⟨U,hp5,U,Aa U (Aa U (Aa U (Aa U ⟨S,f,bd,D,kv,rws,U,bd5,h4.sl.up L5.gn,nr'.w,om,srt,D16,h4.jC.go L5.gn om,fun v6 H6 g6 i6=>⟨Eg,fun pt npt=>?_⟩⟩)))⟩⟩⟩;have g7:Gr S 0 H6 (Ab H6 pt (.tup [.str (Txt.join "\n" ac),.ref bd,v6])):=.new g6.gn.gu npt;have hp7:Ab H6 pt (.tup [.str (Txt.join "\n" ac),.ref bd,v6]) pt=some (.tup [.str (Txt.join "\n" ac),.ref bd,v6]):=Ad;generalize Ab H6 pt (.tup [.str (Txt.join "\n" ac),.ref bd,v6])=H7 at g7 hp7;have g57:Gr S 3000 H5 H7:=(g6.trans g7).up ct;obtain⟨e1,e2,e3,e4⟩:=SE t4 h4.kp h4.bk nbL K5 L5 g57 (g57.same bd5) hp7 (AO g7.gn i6);refine⟨b,_,Aa U ⟨U,e1,by rw[Bf];exact om,?_⟩⟩;have hls4:∀ a∈[aT,aL,aB,b],∃ xs,H4 a=some (.lst xs):=fun a ha=>by
     rw[show [aT,aL,aB,b]=[aT,aL,aB]++[b] from rfl] at ha;rcases List.mem_append.mp ha with m | m
     . exact hls a m
     . rw[List.mem_singleton.mp m];exact⟨_,h4.bk.1⟩
    refine⟨es++[(Txt.join "\n" ac,kv,rws)],us++[.ref pt],_,_,_,⟨⟨h4.sl.up e2.gn,h4.jC.go e2.gn om,e3,e4,e2.lst t4 h4.nr nNb⟩,((h.kl.trans (.of g24)).trans e2).up om,by rw[RH];exact nr'⟩,by rw[Cf,EU];exact om,⟨_,by rw[RH];exact lenk kv hg,Ai,fun _=>by rw[Cf,EU];exact ivn⟩,U⟩
 . rintro σ H2 ⟨es,us,o8,o9,o10,h,hl,⟨Pc,pc1,pc2,pc3⟩,rfl⟩;have tld:=h.rt.sl.told;have lu:=Bq h.rt.bk.2;have mz:7000 * (3 * mn).toNat<=798000:=by exact om
   refine Aa U ⟨Dk,fun l0 nl0=>?_⟩;have g3:Gr S 0 H2 (Ab H2 l0 (.lst [])):=.new tld nl0;have e0:Ab H2 l0 (.lst []) l0=some (.lst []):=Ad;generalize Ab H2 l0 (.lst [])=H3 at g3 e0;have h3:=h.rt.go (k:=1000000 - 7000 * (3 * mn).toNat) g3 om;have k3:=h.kl.trans (ib.of g3);refine⟨1,_,Vd h3.bk.1 e0,(by show(A.deeper (PyProof.Rows.envOfC Jo (Ah HX) s.heap.objs.size f0 ad)).units+1+1<cLine;exact om),Aa U ?_⟩;cases hus:us with
   | cons u0 us0=>
    refine AK (Aa U ?_);have ln:es.length=us0.length+1:=by rw[lu,hus];rfl
    exact q b H3 es us ((ib.own (l:=[aT,aL,aB]) k3 nb g1).up om) h3.kp h3.bk om om nbL nb
   | nil=>
    have ee:es=[]:=by rw[hus] at lu;exact List.length_eq_zero_iff.mp lu
    subst ee;subst hus;refine AC ?_;have hsp:Txt.split "#" "\n" = [("#" : Str)]:=by decide +kernel
    have hg:BI D 0 (Txt.split "#" "\n") (BZ []) = .inr []:=by
     rw[hsp,Re,show BA "#" D=some none from U7 (n:=0) (l:=[]) (by decide +kernel)];rfl
    obtain⟨dx,ob⟩:=h3.kp.ob;refine Aa U ⟨x,dx,Aa U ⟨ob,U,S,x,f,aT,aL,aB,D,[],"#",U,h3.kp,h3.sl,h3.jC.dn om,D16,by simp,om,by rw[hsp];decide,fun r hr=>?_,fun kv' e=>?_,?_⟩⟩
    . rw[hsp] at hr;rw[List.mem_singleton.mp hr];exact⟨by decide,by decide +kernel⟩
    . rw[hg] at e;cases e;exact⟨.nil,by simp⟩
    rw[hg];intro rws H5 srt K5 L5;have hls:=h3.kp.lists;have B5:=h3.bk.off L5 h3.sl.told hls nbL;have eo:Er D ("#",[],rws):=⟨.nil,by simp,srt,by show("#" : Str).length<=2000;decide⟩
    have ct:C1 D rws+1<=3000:=LM eo D16;refine Aa U ⟨.inl ⟨U,_,gy.of B5.1⟩,fun d0 nd0=>Aa U (fun d1 nd1=>Aa U ⟨S,f,d1,D,[],rws,U,Ad,?_⟩)⟩;have t5:=L5.gn.gu;have g6:Gr S 0 H5 (Ab H5 d0 (.dK [])):=.new t5 nd0;have b6:Ab H5 d0 (.dK []) d0=some (.dK []):=Ad;generalize Ab H5 d0 (.dK [])=H6 at g6 b6 nd1;have g7:Gr S 0 H6 (Ab H6 d1 (.dK [])):=.new g6.gn.gu nd1;generalize Ab H6 d1 (.dK [])=H7 at g7;have g57:=g6.trans g7;refine⟨(h3.sl.up L5.gn).up g57.gn,.nil,by simp,srt,D16,(h3.jC.go L5.gn (b:=100000) om).go g57.gn om,fun v8 H8 g8 i8=>⟨Eg,fun pt npt=>?_⟩⟩;have g9:Gr S 0 H8 (Ab H8 pt (.tup [.str "#",.ref d0,v8])):=.new g8.gn.gu npt;have hp9:Ab H8 pt (.tup [.str "#",.ref d0,v8]) pt=some (.tup [.str "#",.ref d0,v8]):=Ad;generalize Ab H8 pt (.tup [.str "#",.ref d0,v8])=H9 at g9 hp9;have g69:=g7.trans (g8.trans g9);have g59:Gr S 3000 H5 H9:=(g6.trans g69).up om;obtain⟨e1,e2,e3,e4⟩:=SE h3.sl.told h3.kp h3.bk nbL K5 L5 g59 (g69.same b6) hp9 (AO g9.gn i8);refine⟨b,_,Aa U ⟨U,e1,by rw[Bf];simp,?_⟩⟩;refine Aa U (q b _ _ _ ((ib.own (l:=[aT,aL,aB]) (k3.trans e2) nb g1).up om) e3 e4 (by simp) (by simp) nbL nb)
end
noncomputable abbrev Oq:Stmt:=top 70
noncomputable abbrev YN:List Str:=[Bo,EE,Em,DA,Ep,BO,FD,"_law_entry",E5]
theorem scLPp:AA YN [Bo,EE,Em,DA,Ep,BO] (Ah Oq):=AD
def Lb (K:W.Frag)(mg:gj):Sp:=fun vs H Q _=>∃ (S:Sl)(f b:Addr)(D:Nat)(es:List En)(us:List V)(p n:Nat)(k:Int)(e:En),vs=[.ref f,.ref b,.int (p:Int),.int k,.int (n:Int),.int (D:Int)]/\gx K mg AU S H f/\iJ S H 7000/\jm S H D b es us/\(∀ e∈es,Er D e)/\D<=16/\es.length<=38/\p<n/\n<=es.length/\es[p]? = some e/\
 ∀ q H',Gr S 7000 H H'->IB S H' q e.1 (CQ D e.2.2) (CG ((es.take n).map (Bv D)) p) (Bd D e.2.2 k)->Q (.ref q) H'
theorem eB (F:gp K mg Hh Oq)(Fl:CV P w K mg base Bh 1 (DK K mg AU))(j7:hU P w K mg base 12 MS [Bo,FD,Em] (Og K mg 9))(Flw:hU P w K mg base 20 Iu [Bo,E5,BO,DA] (VW K mg))(mso:mg "sorted" = none):hU P w K mg base 21 Hh [Bo,EE,Em,DA,Ep,BO] (Lb K mg):=by
 refine F.ok scLPp (fun _ _ _ _ _ _=>Nx fun _ _ _ _ _ _=>rfl) (fun _ _ _ _ h=>QU h fun _ _ _ _ _ _ _ _ _ _=>rfl) (fun f0 ad A outer s H vs Q E hr h=>?_);refine OZ h fun S f b D es us p n k e hZ=>Gw hZ fun eQ hS hc hB oks D16 hl pn nl ee q=>?_;clear hZ h;subst eQ;have nd:=scLPp.nd;have hu:=Hq hr;refine' ⟨_,Ae (GP (iz:=6) (ys:=[Bo]) (js:=[0]) ?ok1 (EB (Cg C9 (pv 1) Co (Cm (pv 4)))) (fun _ _ _=>Gz) ?he1 nd rfl (Or.inl rfl) (Or.inl rfl) rfl) <|
  Ae (GY (i:=7) nd rfl (Or.inr rfl) (Bw BP (pv 1) (pv 2))) <|
  Ae (GP (iz:=8) (ys:=["_law_entry"]) (js:=[7]) ?ok2 (EB (B7 (To rfl) rfl mso Q4 (Ar (As (pv 7))))) (fun _ _ _=>Gz) ?he2 nd rfl (Or.inl rfl) (Or.inl rfl) rfl) <|
  Aj (Bp (BH (As (pv 7)) (As (pv 7)) (Ai j7 hr.m (An (pv 0) (pv 6) (pv 2))) (Ai Flw hr (BH (pv 0) (pv 8) (pv 5) (pv 3))))),?rd⟩
 case ok1=>
  refine⟨U,U,U,by decide +kernel,by decide +kernel,U,by decide +kernel,JE (fun p hp=>?_),U,fun i y h=>?_,U⟩
  . simp only[Dc,CW,or_false] at hp;rcases hp with rfl <;> rfl
  . match i,h with
    | 0,h=>simp at h;subst h;exact⟨0,U,U,U,U⟩
    | i+1,h=>simp at h
 case he1=>
  exact fun _ _ _=>RI (i:=1) K rfl Fl hr.m BD rfl (Or.inr (Or.inl rfl)) (An AT (As (pv 0)) (As (pv 0)))
 case ok2=>
  refine⟨U,U,U,by decide +kernel,by decide +kernel,U,by decide +kernel,JE (fun p hp=>?_),U,fun i y h=>?_,U⟩
  . simp only[Dc,CW,or_false] at hp;rcases hp with rfl <;> rfl
  . match i,h with
    | 0,h=>simp at h;subst h;exact⟨7,U,U,U,U⟩
    | i+1,h=>simp at h
 case he2=>
  exact fun _ _ _=>Bp (AG (pv 0) (Rx hu (As (pv 1)) (pv 0) (fun _ _=>rfl)))
 case rd=>
 have lu:=Bq hB.2;have e0:B2 us none (some (n:Int))=us.take n:=EO;refine Aa U (Aa U (Aa U ⟨b,us,U,gy.of hB.1,fun b2 nb2=>⟨b2,U,⟨_,gy.of Ad⟩,?_⟩⟩));rw[e0];have g0:Gr S 0 H (Ab H b2 (.lst (us.take n))):=.new hS.told nb2;have hb2:Ab H b2 (.lst (us.take n)) b2=some (.lst (us.take n)):=Ad;generalize Ab H b2 (.lst (us.take n))=H0 at g0 hb2 ⊢;have hS0:=hS.up g0.gn;have hB0:=hB.up g0;have ltn:(us.take n).length=n:=by rw[Cc];exact om
 refine OI (K:=K) (xs:=us.take n) (fun DD i ys H'=>Gr S i H0 H'/\H' DD=some (.lst ys)/\ys.length=i/\Bs S H' ((es.take i).map (Bv D)) ys) (fun DD hD=>⟨.new hS0.told hD,Ad,U,.nil⟩) (fun DD i ys H' hD h=>gy.of (h.1.lst hb2)) ?_ ?_
 . rintro DD i x ys H2 Qb hD hx ⟨g2,hD2,yl,it⟩ hQ;have hx2:us[i]? = some x:=by
    rw[Po] at hx;split at hx
    . exact hx
    . cases hx
   have hi':=(List.getElem?_eq_some_iff.mp hx2).1;have hi:i<es.length:=by exact om
   have eE:es[i]? = some es[i]:=Bc hi;obtain⟨p,d,u,rfl,hp,hd,iu⟩:=(NU hB0.2 eE hx2).up g2;have hS2:=hS0.up g2.gn;refine⟨f,U,hS2.iK,Aa U ⟨p,_,Aa U ⟨U,hp,U,Aa U ⟨p,_,Aa U ⟨U,hp,U,hS2.iK,S,_,.str es[i].1,CQ D es[i].2.2,_,_,hS2,(hc.go g0.gn (b:=7000) om).go g2.gn om,U,U,iu,fun v5 H5 g5 i5=>?_⟩⟩⟩⟩⟩;have g25:=g2.trans g5;refine hQ v5 H5 (g5.lst hD2) (by rw[Bf];exact om) ⟨(g25.own hD).up om,Ad,by simp;exact om,?_⟩;have et:es.take (i+1)=es.take i++[es[i]]:=by rw[J9,eE];rfl
   rw[et,Ex];have g6:Gn S 0 H5 (Ab H5 DD (.lst (ys++[v5]))):=Gn.chg g5.gn.gu (g5.lst hD2) rfl (fun _ e=>nomatch e);exact Dy (AQ g6 (AQ g5.gn it)) (.cons (AO g6 i5) .nil)
 rintro DL ysL H1 hDL ⟨g1,hL,ylL,itL⟩;rw[ltn] at itL ylL g1;have g01:=g0.trans g1;have hB1:=hB.up g01;have hS1:=hS.up g01.gn;dsimp only[AZ];obtain⟨v,eu,pt,d,u,rfl,hpt,hd,iu⟩:=Od hB1.2 ee;refine Aa U (Aa U ⟨b,_,_,Aa U ⟨U,gy.of hB1.1,BK eu,?_⟩⟩);dsimp only[AZ];have eo:=oks e (CK ee);obtain⟨z,kvs,ac⟩:=e;have hw:=eo.w;have h8:=eo.l;have srt0:=eo.s;have rlen:=srt0.len;dsimp only at hw h8 srt0 rlen hpt hd iu;refine Aa U ⟨pt,_,Aa U ⟨U,hpt,U,d,kvs,U,hd,hw.ints,om,fun l lk nl pm pw=>⟨l,U,⟨_,gy.of Ad⟩,fun DD hDD=>?_⟩⟩⟩;have srt:=ON hw pm pw;have g6:Gr S 0 H1 (Ab H1 l (.lst (lk.map V.int))):=.new hS1.told nl;have llk:lk.length=kvs.length:=by have:=pm.length_eq;simpa using this
 refine⟨fun i m ys H2=>m=lk.length - i/\i<=lk.length/\H2 DD=some (.lst ys)/\Gr S 0 (Ab H1 l (.lst (lk.map V.int))) H2/\ia H2 ((lk.take i).map fun k=>(k,DV kvs k)) ys,
  ⟨lk.length,by simp,om,Ad,Gr.new g6.gn.gu hDD,.nil⟩,?_⟩
 rintro i m ys H2 ⟨rfl,hi,hD2,g,ry⟩;have hl2:=g.lst (show Ab H1 l (.lst (lk.map V.int)) l=some (.lst (lk.map V.int)) from Ad);have ylen:=Bq ry;rw[AS,Cc] at ylen;have g06:=g6.trans g;have hpt2:=g06.same hpt;by_cases hlt:i<lk.length
 . refine .inr ⟨⟨_,V.int lk[i],gy.of hl2,by simp[hlt]⟩,fun y H3 ⟨e3,hx⟩=>?_⟩;subst e3;have ex:y=V.int lk[i]:=by
    have z:=hx _ (gy.of hl2);simp[hlt] at z;exact z.symm
   subst ex;refine AC ?_;have hh:=g06.same hd;have ev:=Ul hw (RO hw pm (D3 hlt));refine Aa U (Aa U ⟨pt,_,Aa U ⟨U,hpt2,U,Aa U ⟨d,.str (DV kvs lk[i]),U,?_,(Cd),fun pp hpp=>?_⟩⟩⟩)
   . have z:=iN.k (H:=H3) (a:=d) (k:=.inl lk[i]) hh;rw[ev] at z;exact z
   have g7:Gr S 0 H3 (Ab H3 pp (.tup [.int lk[i],.str (DV kvs lk[i])])):=.new g.gn.gu hpp;have hD7:=g7.lst hD2;have g8:Gn S 0 _ (Ab (Ab H3 pp (.tup [.int lk[i],.str (DV kvs lk[i])])) DD (.lst (ys++[.ref pp]))):=Gn.chg g7.gn.gu hD7 rfl (fun _ e=>nomatch e);refine⟨hD7,by rw[Bf];exact om,lk.length - (i+1),om,U,om,Ad,((g.trans g7).up om).own hDD,?_⟩;rw[J9,Bc hlt,Ex];exact ia.up (OS (ia.up ry g7.gn) ⟨pp,U,Ad⟩) g8
 have ei:i=lk.length:=by exact om
 subst ei;refine .inl ⟨⟨_,gy.of hl2,by simp⟩,?_⟩;rw[O9] at ry;rw[TV srt0 srt] at ry;dsimp only[AZ];have g2:=g01.trans g06;have hS2:=hS.up g2.gn;have wl:DB D ac k<=3000:=by
  have:=Qu D ac k;have h2:D * ac.length<=16 * 63:=JF D16 om;exact om
 have lt2:((es.take n).map (Bv D)).length=n:=by rw[AS,Cc];exact om
 refine Aa U ⟨pt,_,Aa U ⟨U,hpt2,U,Aa U ⟨pt,_,Aa U ⟨U,hpt2,U,Aa U (Aa U (Aa U ⟨S,f,DL,ysL,(es.take n).map (Bv D),p,U,hS2,gy.of (g06.lst hL),AQ g06.gn itL,om,om,hc.go g2.gn om,fun r rs H4 g4 nr er ir=>?_⟩))⟩⟩⟩⟩;have g24:=g2.trans g4;refine Aa U (Aa U (Aa U (Aa U ⟨S,f,DD,ys,D,ac,k,U,hS.up g24.gn,g4.lst hD2,ia.up ry g4.gn,om,srt0.kM hw,D16,hc.go g24.gn om,fun y r2 H5 g5 _ _ wy=>⟨E9,fun pp npp=>?_⟩⟩)));have g5':=g5.up wl;have g6':Gr S 0 H5 (Ab H5 pp (.tup [.str z,u,.ref r,.ref y])):=.new g5.gn.gu npp;have g56:=g5'.trans g6';exact q pp _ ((g24.trans g56).up om) ⟨u,r,rs,y,r2,Ad,AO (g06.trans (g4.trans g56)).gn iu,g56.lst er,AQ g56.gn ir,wy.gr g6'⟩
noncomputable abbrev ME:Stmt:=top 71
noncomputable abbrev GF:Tm:=.nd Dq (.int 0) (.str "")
def Vo (K:W.Frag)(mg:gj):Sp:=fun vs H Q _=>∃ (S:Sl)(f b:Addr)(ws:List V)(os:List Tm)(c:Int),vs=[.ref f,.ref b,.int c]/\gx K mg AU S H f/\iJ S H 1/\H b=some (.lst ws)/\Bs S H os ws/\ws.length<=1000/\
 ∀ r rs os' H',Gr S 1 H H'->Bs S H' os' rs->(∀ t∈os',t∈os\/t=AM\/t=GF)->os'.length<=os.length+1->(H' r=some (.lst rs)\/H' r=some (.tup rs))->Q (.ref r) H'
theorem scLbt:AA [Bo,Nc,BB,"_law_bend","_law_at"] [Bo,Nc,BB] (Ah ME):=AD
theorem eO (F:gp K mg Np ME)(Fl:CV P w K mg base Bh 1 (DK K mg AU))(Fd:hU P w K mg base 1 Eu [BB,Cz,Ed] HQ)(ml:mg B0=none)(mt:mg "tuple" = none):hU P w K mg base 2 Np [Bo,Nc,BB] (Vo K mg):=by
 refine F.ok scLbt (fun _ _ _ _ _ _=>Bx fun _ _ _=>rfl) (fun _ _ _ _ h=>Do h fun _ _ _ _ _ _=>rfl) (fun f0 ad A outer s H vs Q E hr h=>?_);refine Df h fun S f b ws os c hZ=>Ey hZ fun eQ hS hc hb it hl q=>?_;clear hZ h;subst eQ;have nd:=scLbt.nd;refine⟨_,Ae (Ax 3 nd (Ai Fd hr (An (pv 2) Ac Ac))) <|
  Ae (Ax 4 nd (Ai Fd hr (An (pv 2) Ac (Ao CI (AW ml (pv 1)) Ac)))) <|
  Ae (Az (Au AL (pv 3) Ac) (Aj (Ao FZ (Ao FZ (Cg C9 (pv 1) Co (Cm (pv 4))) (Ci (Ar (C2 (i:=0) Fl hr BD rfl (Or.inl rfl) (An AT Ac Ac))))) (Cg C9 (pv 1) (Cm (pv 4)) Co))) AB) <|
  Ae (Az (Au AL (pv 3) Ac) (Aj (Ao FZ (Cg C9 (pv 1) Co (Cm (pv 4))) (Cg C9 (pv 1) (Cm (Ao CI (pv 4) Ac)) Co))) AB) <|
  Ae (Az (Au AL (pv 3) Ac) (Aj (Ao FZ (Ao FZ (Cg C9 (pv 1) Co (Cm (pv 4))) (Ci (Ar (C2 (i:=0) Fl hr BD rfl (Or.inl rfl) (An AT Ac AT))))) (Cg C9 (pv 1) (Cm (Ao CI (pv 4) Ac)) Co))) AB) <|
  Aj (Gf YG rfl mt HR (Ar (pv 1))),?_⟩
 have wl:=Bq it;refine Aa U ⟨c,6,4,U,om,om,fun bend H1 _ _ x1=>?_⟩;have g1:Gr S 0 H H1:=.ext hS.told x1;dsimp only[AZ];refine Aa U (Aa U ⟨b,ws,U,.inl (gy.of (g1.lst hb)),_,Aa U ⟨U,c,7,Aa U ⟨om,om,fun at_ H2 a0 a1 x2=>?_⟩⟩⟩);have g2:Gr S 0 H1 H2:=.ext g1.gn.gu x2;have g02:=g1.trans g2;have hb2:=g02.lst hb;have it2:=AQ g02.gn it;have hS2:=hS.up g02.gn;have hc2:=hc.go g02.gn (b:=1) om
 replace q:∀ r rs os' H',Gr S 1 H2 H'->Bs S H' os' rs->(∀ t∈os',t∈os\/t=AM\/t=GF)->os'.length<=os.length+1->(H' r=some (.lst rs)\/H' r=some (.tup rs))->Q (.ref r) H':=fun r rs os' H' g=>q r rs os' H' ((g02.trans g).up om)
 clear g1 g2 g02 hb it hS hc x1 x2;obtain⟨k,rfl⟩:∃ k:Nat,at_=(k:Int):=⟨at_.toNat,om⟩
 dsimp only[AZ];have e1:B2 ws none (some (k:Int))=ws.take k:=EO;have e2:B2 ws (some (k:Int)) none=ws.drop k:=GL;have e3:B2 ws (some ((k:Int)+1)) none=ws.drop (k+1):=GL (k:=k+1);have mem:∀ (j:Nat) (x:Tm),x=AM\/x=GF->∀ t∈os.take k++[x]++os.drop j,t∈os\/t=AM\/t=GF:=fun j x hx t ht=>by
  rcases List.mem_append.mp ht with z | z
  . rcases List.mem_append.mp z with z | z
    . exact .inl (Rb z)
    . rw[List.mem_singleton.mp z];exact .inr hx
  . exact .inl (JW z)
 have len:∀ (j:Nat) (x:Tm),k<=j->(os.take k++[x]++os.drop j).length<=os.length+1:=fun j x hj=>by
  rw[Cf,Cf,Cc,FS,EU];exact om
 refine Aa U ⟨U,Aa U (AN (fun _=>?_) (fun _=>?_))⟩
 . refine Aa U (Aa U (Aa U ⟨b,ws,U,gy.of hb2,fun p1 hp1=>?_⟩));rw[e1];have g3:Gr S 0 H2 (Ab H2 p1 (.lst (ws.take k))):=.new hS2.told hp1;have l3:Ab H2 p1 (.lst (ws.take k)) p1=some (.lst (ws.take k)):=Ad;generalize Ab H2 p1 (.lst (ws.take k))=H3 at g3 l3 ⊢;refine⟨f,U,(hS2.up g3.gn).iK,(hS2.up g3.gn).iK,S,_,.int 0,.int 0,_,_,hS2.up g3.gn,hc2.go g3.gn om,U,U,U,fun v H4 g4 i4=>⟨EJ,fun p3 hp3=>?_⟩⟩;have g5:Gr S 0 H4 (Ab H4 p3 (.lst [v])):=.new g4.gn.gu hp3;have l5:Ab H4 p3 (.lst [v]) p3=some (.lst [v]):=Ad;generalize Ab H4 p3 (.lst [v])=H5 at g5 l5 ⊢;have g35:=g4.trans g5;refine⟨p1,p3,_,Aa U ⟨U,g35.lst l3,l5,by rw[Bf];simp;exact om,fun p4 hp4=>?_⟩⟩;have g6:Gr S 0 H5 (Ab H5 p4 (.lst (ws.take k++[v]))):=.new g5.gn.gu hp4;have l6:Ab H5 p4 (.lst (ws.take k++[v])) p4=some (.lst (ws.take k++[v])):=Ad;generalize Ab H5 p4 (.lst (ws.take k++[v]))=H6 at g6 l6 ⊢;have g26:=(g3.trans g35).trans g6;refine Aa U (Aa U (Aa U ⟨b,ws,U,gy.of (g26.lst hb2),fun p5 hp5=>?_⟩));rw[e2];have g7:Gr S 0 H6 (Ab H6 p5 (.lst (ws.drop k))):=.new g6.gn.gu hp5;have l7:Ab H6 p5 (.lst (ws.drop k)) p5=some (.lst (ws.drop k)):=Ad;generalize Ab H6 p5 (.lst (ws.drop k))=H7 at g7 l7 ⊢;refine⟨p4,p5,_,Aa U ⟨U,g7.lst l6,l7,by rw[Bf];simp;exact om,fun p6 hp6=>?_⟩⟩;have g8:Gr S 0 H7 (Ab H7 p6 (.lst (ws.take k++[v]++ws.drop k))):=.new g7.gn.gu hp6;have gg:=(g26.trans g7).trans g8;exact q p6 _ (os.take k++[AM]++os.drop k) _ (gg.up om) (Dy (Dy (EI k (AQ gg.gn it2)) (.cons (AO (g5.trans (g6.trans (g7.trans g8))).gn i4) .nil)) (FH k (AQ gg.gn it2))) (mem k AM (.inl rfl)) (len k AM (Ay _)) (.inl Ad)
 refine Aa U ⟨U,Aa U (AN (fun _=>?_) (fun _=>?_))⟩
 . refine Aa U (Aa U (Aa U ⟨b,ws,U,gy.of hb2,fun p1 hp1=>?_⟩));rw[e1];have g3:Gr S 0 H2 (Ab H2 p1 (.lst (ws.take k))):=.new hS2.told hp1;have l3:Ab H2 p1 (.lst (ws.take k)) p1=some (.lst (ws.take k)):=Ad;generalize Ab H2 p1 (.lst (ws.take k))=H3 at g3 l3 ⊢;refine Aa U (Aa U ⟨_,Aa U ⟨U,Aa U ⟨b,ws,U,gy.of (g3.lst hb2),fun p5 hp5=>?_⟩⟩⟩);rw[e3];have g7:Gr S 0 H3 (Ab H3 p5 (.lst (ws.drop (k+1)))):=.new g3.gn.gu hp5;have l7:Ab H3 p5 (.lst (ws.drop (k+1))) p5=some (.lst (ws.drop (k+1))):=Ad;generalize Ab H3 p5 (.lst (ws.drop (k+1)))=H7 at g7 l7 ⊢;refine⟨p1,p5,_,Aa U ⟨U,g7.lst l3,l7,by rw[Bf];simp;exact om,fun p6 hp6=>?_⟩⟩;have g8:Gr S 0 H7 (Ab H7 p6 (.lst (ws.take k++ws.drop (k+1)))):=.new g7.gn.gu hp6;have gg:=(g3.trans g7).trans g8;refine q p6 _ (os.take k++os.drop (k+1)) _ (gg.up om) (Dy (EI k (AQ gg.gn it2)) (FH (k+1) (AQ gg.gn it2))) (fun t ht=>?_) (by rw[Cf,Cc,FS];exact om) (.inl Ad);rcases List.mem_append.mp ht with z | z
   . exact .inl (Rb z)
   . exact .inl (JW z)
 refine Aa U ⟨U,Aa U (AN (fun _=>?_) (fun _=>?_))⟩
 . refine Aa U (Aa U (Aa U ⟨b,ws,U,gy.of hb2,fun p1 hp1=>?_⟩));rw[e1];have g3:Gr S 0 H2 (Ab H2 p1 (.lst (ws.take k))):=.new hS2.told hp1;have l3:Ab H2 p1 (.lst (ws.take k)) p1=some (.lst (ws.take k)):=Ad;generalize Ab H2 p1 (.lst (ws.take k))=H3 at g3 l3 ⊢;refine⟨f,U,(hS2.up g3.gn).iK,(hS2.up g3.gn).iK,S,_,.int 0,.str "",_,_,hS2.up g3.gn,hc2.go g3.gn om,U,U,U,fun v H4 g4 i4=>⟨EJ,fun p3 hp3=>?_⟩⟩;have g5:Gr S 0 H4 (Ab H4 p3 (.lst [v])):=.new g4.gn.gu hp3;have l5:Ab H4 p3 (.lst [v]) p3=some (.lst [v]):=Ad;generalize Ab H4 p3 (.lst [v])=H5 at g5 l5 ⊢;have g35:=g4.trans g5;refine⟨p1,p3,_,Aa U ⟨U,g35.lst l3,l5,by rw[Bf];simp;exact om,fun p4 hp4=>?_⟩⟩;have g6:Gr S 0 H5 (Ab H5 p4 (.lst (ws.take k++[v]))):=.new g5.gn.gu hp4;have l6:Ab H5 p4 (.lst (ws.take k++[v])) p4=some (.lst (ws.take k++[v])):=Ad;generalize Ab H5 p4 (.lst (ws.take k++[v]))=H6 at g6 l6 ⊢;have g26:=(g3.trans g35).trans g6;refine Aa U (Aa U ⟨_,Aa U ⟨U,Aa U ⟨b,ws,U,gy.of (g26.lst hb2),fun p5 hp5=>?_⟩⟩⟩);rw[e3];have g7:Gr S 0 H6 (Ab H6 p5 (.lst (ws.drop (k+1)))):=.new g6.gn.gu hp5;have l7:Ab H6 p5 (.lst (ws.drop (k+1))) p5=some (.lst (ws.drop (k+1))):=Ad;generalize Ab H6 p5 (.lst (ws.drop (k+1)))=H7 at g7 l7 ⊢;refine⟨p4,p5,_,Aa U ⟨U,g7.lst l6,l7,by rw[Bf];simp;exact om,fun p6 hp6=>?_⟩⟩;have g8:Gr S 0 H7 (Ab H7 p6 (.lst (ws.take k++[v]++ws.drop (k+1)))):=.new g7.gn.gu hp6;have gg:=(g26.trans g7).trans g8;exact q p6 _ (os.take k++[GF]++os.drop (k+1)) _ (gg.up om) (Dy (Dy (EI k (AQ gg.gn it2)) (.cons (AO (g5.trans (g6.trans (g7.trans g8))).gn i4) .nil)) (FH (k+1) (AQ gg.gn it2))) (mem (k+1) GF (.inr rfl)) (len (k+1) GF om) (.inl Ad)
 refine Aa U ⟨b,ws,U,.inl ⟨gy.of hb2,fun l nl=>?_⟩⟩;have g3:Gr S 0 H2 (Ab H2 l (.tup ws)):=.new hS2.told nl;exact q l ws os _ (g3.up om) (AQ g3.gn it2) (fun t ht=>.inl ht) om (.inr Ad)
theorem PR {K:W.Frag}:W.kitOne K (.type "int") (.type "tuple")=some false/\W.kitOne K (.type "str") (.type "tuple")=some false/\W.kitOne K (.type "NoneType") (.type "tuple")=some false/\W.kitOne K (.type "list") (.type "tuple")=some false/\W.kitOne K (.type "tuple") (.type "list")=some false:=by
 refine⟨?_,?_,?_,?_,?_⟩
 all_goals
  unfold W.kitOne;rw[if_neg (by simp)]
  kernel_rfl
def jc (H:Hp)(v:V):Prop:=(∃ i:Int,v = .int i)\/∃ p z,v = .ref p/\H p=some (.tup [V.str z])
def Qn (H:Hp)(v:V):Prop:=v = .non\/(∃ i:Int,v = .int i)\/(∃ z,v = .str z)\/(∃ p xs,v = .ref p/\H p=some (.lst xs))\/(∃ p a xs ve,v = .ref p/\H p=some (.tup [.ref a,ve])/\H a=some (.tup xs))\/∃ p a xs ve,v = .ref p/\H p=some (.tup [.ref a,ve])/\H a=some (.lst xs)/\jc H ve
def QS (H:Hp)(v:V):Prop:=v = .non\/(∃ p xs,v = .ref p/\H p=some (.lst xs))\/(∃ p xs,v = .ref p/\H p=some (.tup xs)/\xs.length≠4)\/∃ p z u y wv,v = .ref p/\H p=some (.tup [.str z,u,y,wv])/\Qn H wv
def dW:TE:=fun _ _ _=>False
theorem Ru {X:Cx}{e:Expr}:PE X e dW:=fun _ _ _ _ _ _ h=>h.elim
def Vt:Sp:=fun vs H Q _=>∃ v,vs=[v]/\jc H v/\Q (.bl false) H
theorem eL (F:gp K mg Hg JL)(ml:mg B0=none)(mi:mg DY=none)(mt:mg "tuple" = none):hU P w K mg base 2 Hg [Cb] Vt:=by
 refine F.ok VR (fun _ _ _ _ _ _=>CM fun _=>rfl) (fun _ _ _ _ h=>GO h fun _=>rfl) (fun f0 ad A outer s H vs Q E hr h=>?_);refine Ha h fun v hZ=>Ez hZ fun eQ he q=>?_;clear hZ h;subst eQ;refine⟨_,Ae (Az (Au GS (pv 0) Db) (Aj Dx) AB) <|
  Aj (BV (B7 Dp rfl mi CZ (AG (pv 0) (Dn rfl mt HR))) (BV (CL AL (AW ml (pv 0)) Ac) (BV Ru (EF Ru)))),?_⟩
 rcases he with⟨i,rfl⟩ | ⟨p,z,rfl,hp⟩
 . refine Aa U ⟨U,Aa U ?_⟩;rw[Bj (fun h=>nomatch h)];exact AK (Aa U ⟨_,_,_,false,U,.int i,PR.1,Aa U (AK q)⟩)
 . refine Aa U ⟨U,Aa U ?_⟩;rw[Bj (fun h=>nomatch h)];refine AK (Aa U ⟨_,_,_,true,U,.tup hp,Dv,Aa U (AC ?_)⟩);exact Aa U ⟨p,Aa U ⟨.inr (.inl (.inl hp)),U,Aa U (AK q)⟩⟩
def UW:Sp:=fun vs H Q _=>∃ v,vs=[v]/\Qn H v/\Q (.bl false) H
theorem ZW (F:gp K mg Hz Lz)(Fe:hU P w K mg base 2 Hg [Cb] Vt)(ml:mg B0=none)(mi:mg DY=none)(mt:mg "tuple" = none)(mli:mg "list" = none):hU P w K mg base 3 Hz [Cb] UW:=by
 refine F.ok S8 (fun _ _ _ _ _ _=>CM fun _=>rfl) (fun _ _ _ _ h=>GO h fun _=>rfl) (fun f0 ad A outer s H vs Q E hr h=>?_);refine Ha h fun v hZ=>Ez hZ fun eQ he q=>?_;clear hZ h;subst eQ;refine⟨_,Aj (BV (B7 Dp rfl mi CZ (AG (pv 0) (Dn rfl mt HR))) (BV (CL AL (AW ml (pv 0)) Ac) (BV (B7 Dp rfl mi CZ (AG (As (pv 0)) (Dn rfl mli Jt))) (EF (Ai Fe hr (Ar (As (pv 0)))))))),?_⟩;obtain⟨k1,k2,k3,k4,k5⟩:=PR (K:=K);rcases he with rfl | ⟨i,rfl⟩ | ⟨z,rfl⟩ | ⟨p,xs,rfl,hp⟩ | ⟨p,a,xs,ve,rfl,hp,ha⟩ | ⟨p,a,xs,ve,rfl,hp,ha,he⟩
 . exact Aa U ⟨_,_,_,false,U,.non,k3,Aa U (AK q)⟩
 . exact Aa U ⟨_,_,_,false,U,.int i,k1,Aa U (AK q)⟩
 . exact Aa U ⟨_,_,_,false,U,.str z,k2,Aa U (AK q)⟩
 . exact Aa U ⟨_,_,_,false,U,.lst hp,k4,Aa U (AK q)⟩
 . refine Aa U ⟨_,_,_,true,U,.tup hp,Dv,Aa U (AC (Aa U ⟨p,Aa U ⟨.inr (.inl (.inl hp)),U,Aa U (AC ?_)⟩⟩))⟩;exact Aa U ⟨p,_,Aa U ⟨U,hp,U,_,_,_,false,U,.tup ha,k5,Aa U (AK q)⟩⟩
 . refine Aa U ⟨_,_,_,true,U,.tup hp,Dv,Aa U (AC (Aa U ⟨p,Aa U ⟨.inr (.inl (.inl hp)),U,Aa U (AC ?_)⟩⟩))⟩;refine Aa U ⟨p,_,Aa U ⟨U,hp,U,_,_,_,true,U,.lst ha,Dv,Aa U (AC ?_)⟩⟩;exact Aa U ⟨p,_,Aa U ⟨U,hp,U,ve,U,he,q⟩⟩
def OM:Sp:=fun vs H Q _=>∃ v,vs=[v]/\QS H v/\Q (.bl false) H
theorem WU (F:gp K mg FM La)(Fw:hU P w K mg base 3 Hz [Cb] UW)(ml:mg B0=none)(mi:mg DY=none)(mt:mg "tuple" = none)(ms:mg "str" = none):hU P w K mg base 4 FM [Cb] OM:=by
 refine F.ok VX (fun _ _ _ _ _ _=>CM fun _=>rfl) (fun _ _ _ _ h=>GO h fun _=>rfl) (fun f0 ad A outer s H vs Q E hr h=>?_);refine Ha h fun v hZ=>Ez hZ fun eQ he q=>?_;clear hZ h;subst eQ;refine⟨_,Aj (BV (B7 Dp rfl mi CZ (AG (pv 0) (Dn rfl mt HR))) (BV (CL AL (AW ml (pv 0)) Ac) (BV (B7 Dp rfl mi CZ (AG (As (pv 0)) (Dn rfl ms KI))) (EF (Ai Fw hr (Ar (As (pv 0)))))))),?_⟩;obtain⟨k1,k2,k3,k4,k5⟩:=PR (K:=K);rcases he with rfl | ⟨p,xs,rfl,hp⟩ | ⟨p,xs,rfl,hp,hl⟩ | ⟨p,z,u,y,wv,rfl,hp,hw⟩
 . exact Aa U ⟨_,_,_,false,U,.non,k3,Aa U (AK q)⟩
 . exact Aa U ⟨_,_,_,false,U,.lst hp,k4,Aa U (AK q)⟩
 . refine Aa U ⟨_,_,_,true,U,.tup hp,Dv,Aa U (AC (Aa U ⟨p,Aa U ⟨.inr (.inl (.inl hp)),U,Aa U ?_⟩⟩))⟩;rw[Bj (fun z=>hl (by injection z with z;exact om))];exact AK q
 . refine Aa U ⟨_,_,_,true,U,.tup hp,Dv,Aa U (AC (Aa U ⟨p,Aa U ⟨.inr (.inl (.inl hp)),U,Aa U (AC ?_)⟩⟩))⟩;refine Aa U ⟨p,_,Aa U ⟨U,hp,U,_,_,_,true,U,.str z,Dv,Aa U (AC ?_)⟩⟩;exact Aa U ⟨p,_,Aa U ⟨U,hp,U,wv,U,hw,q⟩⟩
def F6:Sp:=fun vs H Q _=>∃ (x f:Addr)(size:Int)(vh v:V),vs=[.ref x,.ref f,.int size,vh,v]/\QS H v/\Q (.bl false) H
theorem ZZ (F:gq K C B1 PY Hf)(Fk:hU P w K mg base 4 FM [Cb] OM):AF P w K mg base C 23 B1 [Ak,Ag,AI,Br,Bt] F6:=by
 refine F.ok Sw (fun _ _ _ _ _ _=>FJ fun _ _ _ _ _=>rfl) (fun _ _ _ _ h=>DS h fun _ _ _ _ _=>rfl) (fun f0 ad A outer s H vs Q E hr h=>?_);refine DQ h fun x f size vh v hZ=>Ez hZ fun eQ hN q=>?_;clear hZ h;subst eQ;refine⟨_,Ae (Az (Dg (Ca (Ai Fk hr.m (Ar (pv 4))))) (Aj Dx) AB) BY,?_⟩;exact Aa U ⟨v,U,hN,Aa U (AC q)⟩
theorem WB (F:gq K C B1 QX Hk)(Fk:hU P w K mg base 4 FM [Cb] OM):AF P w K mg base C 23 B1 [Ak,Ag,AI,Br,Bt] F6:=by
 refine F.ok scLJ (fun _ _ _ _ _ _=>FJ fun _ _ _ _ _=>rfl) (fun _ _ _ _ h=>DS h fun _ _ _ _ _=>rfl) (fun f0 ad A outer s H vs Q E hr h=>?_);refine DQ h fun x f size vh v hZ=>Ez hZ fun eQ hN q=>?_;clear hZ h;subst eQ;refine⟨_,Ae (Az (Dg (Ca (Ai Fk hr.m (Ar (pv 4))))) (Aj Dx) AB) BY,?_⟩;exact Aa U ⟨v,U,hN,Aa U (AC q)⟩
theorem KD (h:jb S H p r wy):ja S H (.ref p) wy.1 (Ew wy.2):=by
 obtain⟨os,ev,h1,h2,h3,h4⟩:=h;refine⟨p,r,os,ev,U,h1,h2,h3,?_⟩;cases e:wy.2 with
 | nil=>rw[e] at h4;exact h4
 | cons r t=>
  rw[e] at h4;obtain⟨p',rfl,g⟩:=(show iM H r ev from h4)
  exact⟨p',U,g⟩
def kq (ts ts':List Tm):Prop:=(∀ x∈ts',x∈ts\/x=AM\/x=GF)/\ts'.length<=ts.length+1
theorem kq.refl (ts:List Tm):kq ts ts:=⟨fun _ h=>.inl h,om⟩
structure aW (S:Sl)(H:Hp)(z:Str)(t:Tm)(ts:List Tm)(wy:List Tm×List Rw)(v:V)(z':Str)(t':Tm)(ts':List Tm)(isl:Bool)(wv:V):Prop where
 ex:∃ p u r rs,v = .ref p/\H p=some (.tup [.str z',u,.ref r,wv])/\AE S H t' u/\H r=some (if isl then .lst rs else .tup rs)/\Bs S H ts' rs
 zz:z'=z\/z'=z++"\n"
 tt:t'=t\/∃ n:Nat,n<17/\t'=FU n AM
 os:kq ts ts'
def KB (S:Sl)(H:Hp)(ts:List Tm)(wv:V):Prop:=
 wv = .non\/(∃ i:Int,wv = .int i)\/(∃ z,wv = .str z)\/(∃ p xs,wv = .ref p/\H p=some (.lst xs))\/(∃ p a xs ve en,wv = .ref p/\H p=some (.tup [.ref a,ve])/\H a=some (.tup xs)/\jh H ve en)\/
 (∃ p a xs os ve,wv = .ref p/\H p=some (.tup [.ref a,ve])/\H a=some (.lst xs)/\Bs S H os xs/\kq ts os/\jc H ve)\/∃ os en,ja S H wv os en/\kq ts os
def Lx (S:Sl)(H:Hp)(z:Str)(t:Tm)(ts:List Tm)(wy:List Tm×List Rw)(v:V):Prop:=
 v = .non\/(∃ p xs,v = .ref p/\H p=some (.lst xs))\/(∃ p u r rs xs,v = .ref p/\H p=some (.tup (.str z :: u :: .ref r :: xs))/\AE S H t u/\H r=some (.lst rs)/\Bs S H ts rs/\(xs=[]\/∃ pw,xs=[.ref pw,.int 0]/\∃ os en,ja S H (.ref pw) os en/\kq wy.1 os))\/
 ∃ z' t' ts' isl wv,aW S H z t ts wy v z' t' ts' isl wv/\KB S H wy.1 wv
def TY (K:W.Frag)(mg:gj):Sp:=fun vs H Q _=>∃ (S:Sl)(f q:Addr)(c:Int)(z:Str)(t:Tm)(ts:List Tm)(wy:List Tm×List Rw),vs=[.ref f,.ref q,.int c]/\gx K mg AU S H f/\iJ S H 3/\IB S H q z t ts wy/\ts.length<=1000/\wy.1.length<=1000/\z.length<=2000/\
 ∀ v H',Gr S 3 H H'->Lx S H' z t ts wy v->Q v H'
noncomputable abbrev gF:List Str:=[Bo,KQ,BB,"_law_bend","_law_end"]
theorem scBp:AA gF [Bo,KQ,BB] (Ah Oy):=AD
theorem Hd {t:Tm}{u:V}{isl:Bool}(hp:H p=some (.tup [.str z',u,.ref r,wv]))(hu:AE S H t' u)(hr:H r=some (if isl then .lst rs else .tup rs))(ht:Bs S H ts' rs)
 (hz:z'=z\/z'=z++"\n")(htt:t'=t\/∃ n:Nat,n<17/\t'=FU n AM)(ho:kq ts ts')(hw:KB S H wy.1 wv):Lx S H z t ts wy (.ref p):=.inr (.inr (.inr ⟨z',t',ts',isl,wv,⟨⟨p,u,r,rs,U,hp,hu,hr,ht⟩,hz,htt,ho⟩,hw⟩))
theorem Mq (h:jb S H p r wy):KB S H wy.1 (.ref p):=.inr (.inr (.inr (.inr (.inr (.inr ⟨_,_,KD h,.refl _⟩)))))
theorem d9 (h:jt H ac v):jh H v (Ew ac):=by
 cases ac with
 | nil=>exact h
 | cons r t=>
  obtain⟨p',rfl,g⟩:=(show iM H r v from h)
  exact⟨p',U,g⟩
theorem jc.up (h:jc H v)(g:Gr S n H H'):jc H' v:=by
 rcases h with h | ⟨p,z,e,h⟩
 . exact .inl h
 . exact .inr ⟨p,z,e,g.same h⟩
theorem cz (F:gp K mg Nb Oy)(Fl:CV P w K mg base Bh 1 (DK K mg AU))(Fd:hU P w K mg base 1 Eu [BB,Cz,Ed] HQ)(Fb:hU P w K mg base 2 Np [Bo,Nc,BB] (Vo K mg))(mli:mg "list" = none):hU P w K mg base 3 Nb [Bo,KQ,BB] (TY K mg):=by
 refine F.ok scBp (fun _ _ _ _ _ _=>Bx fun _ _ _=>rfl) (fun _ _ _ _ h=>Ss h fun _ _ _ _ _ _ _ _=>rfl) (fun f0 ad A outer s H vs Q E hr h=>?_);refine R6 h fun S f q c z t ts wy hZ=>E6 hZ fun eQ hS hc hP l1 l2 lz Q0=>?_;clear hZ h;subst eQ;have nd:=scBp.nd;refine⟨_,Ae (Ax 3 nd (Ai Fd hr.m (An (pv 2) Ac Ac))) <|
  Ae (Az (Au AL (pv 3) Ac) (Aj (Bp (BH (Ao Hi (As (pv 1)) AT) (As (pv 1)) (As (pv 1)) (As (pv 1))))) AB) <|
  Ae (Az (Au AL (pv 3) Ac) (Aj (Bp (BH (As (pv 1)) (C2 (i:=0) Fl hr.m BD rfl (Or.inl rfl) (An AT (Ai Fd hr.m (An (pv 2) Ac Ac)) (C2 (i:=0) Fl hr.m BD rfl (Or.inl rfl) (An AT Ac Ac)))) (As (pv 1)) (As (pv 1))))) AB) <|
  Ae (Az (Au AL (pv 3) Ac) (Aj (Bp (BH (As (pv 1)) (As (pv 1)) (Ai Fb hr (An (pv 0) (As (pv 1)) (pv 2))) (As (pv 1))))) AB) <|
  Ae (Az (Au AL (pv 3) Ac) (Aj (Bp (BH (As (pv 1)) (As (pv 1)) (As (pv 1)) (Bp (AG (Ai Fb hr (An (pv 0) (As (As (pv 1))) (pv 2))) (As (As (pv 1)))))))) AB) <|
  Ae (Az (Au AL (pv 3) Ac) (Ae (Ax 4 nd (Bw FE (Bp (BH Db (Bp (AG Ac AT)) (Bp (Ar AT)) Ac)) (Ai Fd hr.m (An (pv 2) Ac Ac)))) <|
   Aj (Bp (BH (As (pv 1)) (As (pv 1)) (As (pv 1)) (Bp (AG (As (As (pv 1))) (pv 4)))))) AB) <|
  Ae (Az (Au AL (pv 3) Ac) (Aj (Bw FE (Bp (BH (Gf UB rfl mli Jt (Ar (pv 1))) (Cg Xt (pv 1) Co (Cm Ac)) Db (Ao aV (pv 1) (Bp (Ar Ac))))) (Ai Fd hr.m (An (pv 2) Ac Ac)))) AB) <|
  Ae (Az (Au AL (pv 3) Ac) (Aj (Bp (BH (As (pv 1)) (As (pv 1)) (As (pv 1)) (Bw FE (Bp (BH (Gf UB rfl mli Jt (Ar (As (pv 1)))) Db AT Ac)) (Ai Fd hr.m (An (pv 2) Ac Ac)))))) AB) <|
  Aj (pv 1),?_⟩
 refine Aa U ⟨c,5,14,U,om,om,fun bend H1 _ _ x1=>?_⟩;have g1:Gr S 0 H H1:=.ext hS.told x1;obtain⟨u,r,rs,pw,r2,hq,iu,hr1,irs,hw⟩:=hP
 replace hq:=g1.same hq
 replace iu:=AO g1.gn iu
 replace hr1:=g1.lst hr1
 replace irs:=AQ g1.gn irs
 replace hw:=hw.gr g1
 replace hS:=hS.up g1.gn
 replace hc:=hc.go g1.gn (b:=3) om
 replace Q0:∀ v H',Gr S 3 H1 H'->Lx S H' z t ts wy v->Q v H':=fun v H' g=>Q0 v H' ((g1.trans g).up om)
 clear g1 x1;have tld:=hS.told;have wk:KB S H1 wy.1 (.ref pw):=Mq hw;dsimp only[AZ];refine Aa U ⟨U,Aa U (AN (fun _=>?_) (fun _=>?_))⟩
 . refine Aa U ⟨q,_,Aa U ⟨U,hq,U,_,Aa U ⟨U,?_⟩⟩⟩;have l1':("\n" : Str).length=1:=by decide +kernel
   refine⟨by rw[Bf];exact om,Aa U ⟨q,_,Aa U ⟨U,hq,U,Aa U ⟨q,_,Aa U ⟨U,hq,U,Aa U ⟨q,_,Aa U ⟨U,hq,U,E9,fun pp npp=>?_⟩⟩⟩⟩⟩⟩⟩;have g:Gr S 0 H1 (Ab H1 pp (.tup [.str (z++"\n"),u,.ref r,.ref pw])):=.new tld npp;exact Q0 _ _ (g.up om) (Hd (isl:=true) Ad (AO g.gn iu) (g.lst hr1) (AQ g.gn irs) (.inr rfl) (.inl rfl) (.refl _) (Mq (hw.gr g)))
 refine Aa U ⟨U,Aa U (AN (fun _=>?_) (fun _=>?_))⟩
 . refine Aa U ⟨q,_,Aa U ⟨U,hq,U,f,U,hS.iK,Aa U ⟨c,6,17,U,om,om,fun n H2 n0 n17 x2=>?_⟩⟩⟩;have g2:Gr S 0 H1 H2:=.ext tld x2;obtain⟨n',rfl⟩:∃ n':Nat,n=(n':Int):=⟨n.toNat,om⟩
   have hS2:=hS.up g2.gn;refine⟨f,U,hS2.iK,hS2.iK,S,_,.int 0,.int 0,_,_,hS2,hc.go g2.gn om,U,U,U,fun v3 H3 g3 i3=>?_⟩;have g13:=g2.trans g3;have hS3:=hS.up g13.gn;refine⟨hS3.iK,S,_,.int (n':Int),AM,_,_,hS3,hc.go g13.gn om,U,U,i3,fun v4 H4 g4 i4=>?_⟩;have g14:=g13.trans g4;have hq4:=g14.same hq;refine Aa U ⟨q,_,Aa U ⟨U,hq4,U,Aa U ⟨q,_,Aa U ⟨U,hq4,U,E9,fun pp npp=>?_⟩⟩⟩⟩;have g5:Gr S 0 H4 (Ab H4 pp (.tup [.str z,v4,.ref r,.ref pw])):=.new g14.gn.gu npp;have g15:=g14.trans g5;exact Q0 _ _ (g15.up om) (Hd (isl:=true) Ad (AO g5.gn i4) (g15.lst hr1) (AQ g15.gn irs) (.inl rfl) (.inr ⟨n',om,U⟩) (.refl _) (Mq (hw.gr g15)))
 refine Aa U ⟨U,Aa U (AN (fun _=>?_) (fun _=>?_))⟩
 . have rl:=Bq irs;refine Aa U ⟨q,_,Aa U ⟨U,hq,U,Aa U ⟨q,_,Aa U ⟨U,hq,U,Aa U (Aa U ⟨q,_,Aa U ⟨U,hq,U,Aa U ⟨S,f,r,rs,ts,c,U,hS,hc.dn om,hr1,irs,om,fun r' rs' ts' H2 g2 it2 m2 le2 hk=>?_⟩⟩⟩)⟩⟩⟩⟩;have hq2:=g2.same hq;refine Aa U ⟨q,_,Aa U ⟨U,hq2,U,E9,fun pp npp=>?_⟩⟩;have g3:Gr S 0 H2 (Ab H2 pp (.tup [.str z,u,.ref r',.ref pw])):=.new g2.gn.gu npp;have g13:=g2.trans g3;have hk3:Ab H2 pp (.tup [.str z,u,.ref r',.ref pw]) r'=some (.lst rs')\/Ab H2 pp (.tup [.str z,u,.ref r',.ref pw]) r'=some (.tup rs'):=hk.imp (fun e=>g3.lst e) (fun e=>g3.same e);have fin:∀ isl:Bool,Ab H2 pp (.tup [.str z,u,.ref r',.ref pw]) r'=some (if isl then .lst rs' else .tup rs')->Q (.ref pp) (Ab H2 pp (.tup [.str z,u,.ref r',.ref pw])):=fun isl e=>Q0 _ _ (g13.up om) (Hd (isl:=isl) Ad (AO g13.gn iu) e (AQ g3.gn it2) (.inl rfl) (.inl rfl) ⟨m2,le2⟩ (Mq (hw.gr g13)));exact hk3.elim (fin true) (fin false)
 obtain⟨os,ev,hpw,ha,itw,hev⟩:=id hw;have hek:=d9 hev;have ol:=Bq itw;refine Aa U ⟨U,Aa U (AN (fun _=>?_) (fun _=>?_))⟩
 . refine Aa U ⟨q,_,Aa U ⟨U,hq,U,Aa U ⟨q,_,Aa U ⟨U,hq,U,Aa U ⟨q,_,Aa U ⟨U,hq,U,Aa U (Aa U ⟨q,_,Aa U ⟨U,hq,U,pw,_,Aa U ⟨U,hpw,U,Aa U ⟨S,f,r2,os,wy.1,c,U,hS,hc.dn om,ha,itw,om,fun r' rs' ts' H2 g2 it2 m2 le2 hk=>?_⟩⟩⟩⟩)⟩⟩⟩⟩⟩⟩;have hq2:=g2.same hq;have hpw2:=g2.same hpw;refine Aa U ⟨q,_,Aa U ⟨U,hq2,U,pw,_,Aa U ⟨U,hpw2,U,Cd,fun p5 np5=>⟨E9,fun pp npp=>?_⟩⟩⟩⟩;have g3:Gr S 0 H2 (Ab H2 p5 (.tup [.ref r',ev])):=.new g2.gn.gu np5;have h5:Ab H2 p5 (.tup [.ref r',ev]) p5=some (.tup [.ref r',ev]):=Ad;generalize Ab H2 p5 (.tup [.ref r',ev])=H3 at g3 h5 npp ⊢;have g4:Gr S 0 H3 (Ab H3 pp (.tup [.str z,u,.ref r,.ref p5])):=.new g3.gn.gu npp;have g14:=(g2.trans g3).trans g4;refine Q0 _ _ (g14.up om) (Hd (isl:=true) Ad (AO g14.gn iu) (g14.lst hr1) (AQ g14.gn irs) (.inl rfl) (.inl rfl) (.refl _) ?_);rcases hk with e | e
   . exact .inr (.inr (.inr (.inr (.inr (.inr ⟨ts',_,⟨p5,r',rs',ev,U,g4.same h5,(g3.trans g4).lst e,AQ (g3.trans g4).gn it2,hek.up g14.gn⟩,m2,le2⟩)))))
   . exact .inr (.inr (.inr (.inr (.inl ⟨p5,r',rs',ev,Aa U ⟨g4.same h5,(g3.trans g4).same e,hek.up g14.gn⟩⟩))))
 refine Aa U ⟨U,Aa U (AN (fun _=>?_) (fun _=>?_))⟩
 . refine⟨Cd,fun a1 n1=>⟨EJ,fun a2 n2=>⟨E9,fun a3 n3=>?_⟩⟩⟩;have e1:Gr S 0 H1 (Ab H1 a1 (.tup [.int 0,.str "a"])):=.new tld n1;have h1:Ab H1 a1 (.tup [.int 0,.str "a"]) a1=some (.tup [.int 0,.str "a"]):=Ad;generalize Ab H1 a1 (.tup [.int 0,.str "a"])=G1 at e1 h1 n2 n3 ⊢;have e2:Gr S 0 G1 (Ab G1 a2 (.tup [.str "a"])):=.new e1.gn.gu n2;have h2:Ab G1 a2 (.tup [.str "a"]) a2=some (.tup [.str "a"]):=Ad;generalize Ab G1 a2 (.tup [.str "a"])=G2 at e2 h2 n3 ⊢;have e3:Gr S 0 G2 (Ab G2 a3 (.tup [.non,.ref a1,.ref a2,.int 5])):=.new e2.gn.gu n3;have h3:Ab G2 a3 (.tup [.non,.ref a1,.ref a2,.int 5]) a3=some (.tup [.non,.ref a1,.ref a2,.int 5]):=Ad;generalize Ab G2 a3 (.tup [.non,.ref a1,.ref a2,.int 5])=G3 at e3 h3 ⊢;refine Aa U ⟨c,6,4,U,om,om,fun k H2 k0 k4 x2=>?_⟩;have e4:Gr S 0 G3 H2:=.ext e3.gn.gu x2;have g2:=((e1.trans e2).trans e3).trans e4;obtain⟨ev',eat,hev'⟩:∃ ev',BF [.non,.ref a1,.ref a2,.int 5] k=some ev'/\(jc H2 ev'\/∃ en,jh H2 ev' en):=by
    obtain rfl | rfl | rfl | rfl:k=0\/k=1\/k=2\/k=3:=by exact om
    . exact Aa U (.inr ⟨none,U⟩)
    . exact Aa U (.inr ⟨some (0,"a"),a1,U,((e2.trans e3).trans e4).same h1⟩)
    . exact Aa U (.inl (.inr ⟨a2,"a",U,(e3.trans e4).same h2⟩))
    . exact Aa U (.inl (.inl ⟨5,U⟩))
   refine⟨a3,_,k,Aa U ⟨U,.inl (.inl (e4.same h3)),eat,?_⟩⟩;dsimp only[AZ];have hq2:=g2.same hq;have hpw2:=g2.same hpw;refine Aa U ⟨q,_,Aa U ⟨U,hq2,U,Aa U ⟨q,_,Aa U ⟨U,hq2,U,Aa U ⟨q,_,Aa U ⟨U,hq2,U,Aa U ⟨q,_,Aa U ⟨U,hq2,U,pw,_,Aa U ⟨U,hpw2,U,Aa U ⟨Cd,fun p5 np5=>⟨E9,fun pp npp=>?_⟩⟩⟩⟩⟩⟩⟩⟩⟩⟩⟩;have g3:Gr S 0 H2 (Ab H2 p5 (.tup [.ref r2,ev'])):=.new g2.gn.gu np5;have h5:Ab H2 p5 (.tup [.ref r2,ev']) p5=some (.tup [.ref r2,ev']):=Ad;generalize Ab H2 p5 (.tup [.ref r2,ev'])=H3 at g3 h5 npp ⊢;have g4:Gr S 0 H3 (Ab H3 pp (.tup [.str z,u,.ref r,.ref p5])):=.new g3.gn.gu npp;have g14:=(g2.trans g3).trans g4;refine Q0 _ _ (g14.up om) (Hd (isl:=true) Ad (AO g14.gn iu) (g14.lst hr1) (AQ g14.gn irs) (.inl rfl) (.inl rfl) (.refl _) ?_);rcases hev' with e | ⟨en,e⟩
   . exact .inr (.inr (.inr (.inr (.inr (.inl ⟨p5,r2,os,wy.1,ev',U,g4.same h5,g14.lst ha,AQ g14.gn itw,.refl _,e.up (g3.trans g4)⟩)))))
   . exact .inr (.inr (.inr (.inr (.inr (.inr ⟨wy.1,en,⟨p5,r2,os,ev',U,g4.same h5,g14.lst ha,AQ g14.gn itw,e.up (g3.trans g4).gn⟩,.refl _⟩)))))
 refine Aa U ⟨U,Aa U (AN (fun _=>?_) (fun _=>?_))⟩
 . refine Aa U ⟨q,Aa U ⟨.inr (.inl (.inl hq)),fun l nl=>?_⟩⟩;have e1:Gr S 0 H1 (Ab H1 l (.lst [.str z,u,.ref r,.ref pw])):=.new tld nl;have h1:Ab H1 l (.lst [.str z,u,.ref r,.ref pw]) l=some (.lst [.str z,u,.ref r,.ref pw]):=Ad;generalize Ab H1 l (.lst [.str z,u,.ref r,.ref pw])=G1 at e1 h1 ⊢;refine Aa U (Aa U ⟨q,Aa U ⟨.inl (.inl (e1.same hq)),fun h=>absurd h.2 (by show ¬ HT.sIx 4 4 (some 3)=4;decide),fun b nb=>?_⟩⟩);rw[show B2 [V.str z,u,.ref r,.ref pw] none (some (3:Int))=[V.str z,u,.ref r] from EO (k:=3)];have e2:Gr S 0 G1 (Ab G1 b (.tup [.str z,u,.ref r])):=.new e1.gn.gu nb;have h2:Ab G1 b (.tup [.str z,u,.ref r]) b=some (.tup [.str z,u,.ref r]):=Ad;generalize Ab G1 b (.tup [.str z,u,.ref r])=G2 at e2 h2 ⊢;refine Aa U ⟨EJ,fun d0 nd0=>?_⟩;have e3:Gr S 0 G2 (Ab G2 d0 (.tup [.int 0])):=.new e2.gn.gu nd0;have h3:Ab G2 d0 (.tup [.int 0]) d0=some (.tup [.int 0]):=Ad;generalize Ab G2 d0 (.tup [.int 0])=G3 at e3 h3 ⊢;refine⟨q,d0,_,_,U,U,.inl (.inl (((e1.trans e2).trans e3).same hq)),.inl (.inl h3),by simp,cV,(fun e=>nomatch e),fun _ p np=>?_⟩;have e4:Gr S 0 G3 (Ab G3 p (.tup ([.str z,u,.ref r,.ref pw]++[.int 0]))):=.new e3.gn.gu np;have h4:Ab G3 p (.tup ([.str z,u,.ref r,.ref pw]++[.int 0])) p=some (.tup ([.str z,u,.ref r,.ref pw]++[.int 0])):=Ad;generalize Ab G3 p (.tup ([.str z,u,.ref r,.ref pw]++[.int 0]))=G4 at e4 h4 ⊢;refine⟨E9,fun a3 n3=>?_⟩;have e5:Gr S 0 G4 (Ab G4 a3 (.tup [.ref l,.ref b,.non,.ref p])):=.new e4.gn.gu n3
   have h5:Ab G4 a3 (.tup [.ref l,.ref b,.non,.ref p]) a3=some (.tup [.ref l,.ref b,.non,.ref p]):=Ad;generalize Ab G4 a3 (.tup [.ref l,.ref b,.non,.ref p])=G5 at e5 h5 ⊢;refine Aa U ⟨c,6,4,U,om,om,fun k H2 k0 k4 x2=>?_⟩;have e6:Gr S 0 G5 H2:=.ext e5.gn.gu x2;have g2:=((((e1.trans e2).trans e3).trans e4).trans e5).trans e6;obtain⟨v,eat,hv⟩:∃ v,BF [.ref l,.ref b,.non,.ref p] k=some v/\Lx S H2 z t ts wy v:=by
    obtain rfl | rfl | rfl | rfl:k=0\/k=1\/k=2\/k=3:=by exact om
    . exact Aa U (.inr (.inl ⟨l,Aa U (((((e2.trans e3).trans e4).trans e5).trans e6).lst h1)⟩))
    . exact Aa U (.inr (.inr (.inl ⟨b,u,r,rs,[],U,(((e3.trans e4).trans e5).trans e6).same h2,AO g2.gn iu,g2.lst hr1,AQ g2.gn irs,.inl rfl⟩)))
    . exact Aa U (.inl rfl)
    . exact Aa U (.inr (.inr (.inl ⟨p,u,r,rs,Aa U ⟨(e5.trans e6).same h4,AO g2.gn iu,g2.lst hr1,AQ g2.gn irs,.inr ⟨pw,U,_,_,KD (hw.gr g2),.refl _⟩⟩⟩)))
   exact⟨a3,_,k,Aa U ⟨U,.inl (.inl (e6.same h5)),eat,Q0 v H2 (g2.up om) hv⟩⟩
 refine Aa U ⟨U,Aa U (AN (fun _=>?_) (fun _=>?_))⟩
 . refine Aa U ⟨q,_,Aa U ⟨U,hq,U,Aa U ⟨q,_,Aa U ⟨U,hq,U,Aa U ⟨q,_,Aa U ⟨U,hq,U,Aa U ⟨q,_,Aa U ⟨U,hq,U,pw,Aa U ⟨.inr (.inl (.inl hpw)),fun l nl=>?_⟩⟩⟩⟩⟩⟩⟩⟩⟩;have e1:Gr S 0 H1 (Ab H1 l (.lst [.ref r2,ev])):=.new tld nl;have h1:Ab H1 l (.lst [.ref r2,ev]) l=some (.lst [.ref r2,ev]):=Ad;generalize Ab H1 l (.lst [.ref r2,ev])=G1 at e1 h1 ⊢;refine⟨E9,fun a3 n3=>?_⟩;have e5:Gr S 0 G1 (Ab G1 a3 (.tup [.ref l,.non,.str "ab",.int 5])):=.new e1.gn.gu n3;have h5:Ab G1 a3 (.tup [.ref l,.non,.str "ab",.int 5]) a3=some (.tup [.ref l,.non,.str "ab",.int 5]):=Ad;generalize Ab G1 a3 (.tup [.ref l,.non,.str "ab",.int 5])=G5 at e5 h5 ⊢;refine Aa U ⟨c,6,4,U,om,om,fun k H2 k0 k4 x2=>?_⟩;have e6:Gr S 0 G5 H2:=.ext e5.gn.gu x2;have g2:=(e1.trans e5).trans e6;obtain⟨v,eat,hv⟩:∃ v,BF [.ref l,.non,.str "ab",.int 5] k=some v/\∀ H',Gr S 0 H2 H'->KB S H' wy.1 v:=by
    obtain rfl | rfl | rfl | rfl:k=0\/k=1\/k=2\/k=3:=by exact om
    . exact Aa U (fun H' g=>.inr (.inr (.inr (.inl ⟨l,Aa U (((e5.trans e6).trans g).lst h1)⟩))))
    . exact Aa U (fun H' g=>.inl rfl)
    . exact Aa U (fun H' g=>.inr (.inr (.inl ⟨_,U⟩)))
    . exact Aa U (fun H' g=>.inr (.inl ⟨_,U⟩))
   refine⟨a3,_,k,Aa U ⟨U,.inl (.inl (e6.same h5)),eat,E9,fun pp npp=>?_⟩⟩;have g4:Gr S 0 H2 (Ab H2 pp (.tup [.str z,u,.ref r,v])):=.new g2.gn.gu npp;have g14:=g2.trans g4;exact Q0 _ _ (g14.up om) (Hd (isl:=true) Ad (AO g14.gn iu) (g14.lst hr1) (AQ g14.gn irs) (.inl rfl) (.inl rfl) (.refl _) (hv _ g4))
 exact Aa U (Q0 _ _ (Gr.up (.refl tld) om) (Hd (isl:=true) hq iu hr1 irs (.inl rfl) (.inl rfl) (.refl _) wk))
theorem PD {c:Addr}(ha:H a=some (.tup [x0,x1]))(hc:H c=some (.tup [y0,y1]))(h0:ik H n x0 y0 b0)(h1:ik H n x1 y1 b1):ik H (n+1) (.ref a) (.ref c) (b0 && b1):=by
 refine .inr (.inl ⟨a,c,_,_,fun i=>if i=0 then b0 else b1,U,U,ha,hc,fun i u v e1 e2=>?_,?_⟩)
 . match i,e1,e2 with
   | 0,e1,e2=>cases e1;cases e2;exact h0
   | 1,e1,e2=>cases e1;cases e2;exact h1
   | i+2,e1,e2=>cases e1
 . cases b0 <;> cases b1 <;> rfl
theorem Vi {c:Addr}{x2 x3 y2 y3:V}{b2 b3:Bool}(ha:H a=some (.tup [x0,x1,x2,x3]))(hc:H c=some (.tup [y0,y1,y2,y3]))(h0:ik H n x0 y0 b0)(h1:ik H n x1 y1 b1)(h2:ik H n x2 y2 b2)(h3:ik H n x3 y3 b3):ik H (n+1) (.ref a) (.ref c) (b0 && (b1 && (b2 && b3))):=by
 refine .inr (.inl ⟨a,c,_,_,fun i=>if i=0 then b0 else if i=1 then b1 else if i=2 then b2 else b3,U,U,ha,hc,fun i u v e1 e2=>?_,?_⟩)
 . match i,e1,e2 with
   | 0,e1,e2=>cases e1;cases e2;exact h0
   | 1,e1,e2=>cases e1;cases e2;exact h1
   | 2,e1,e2=>cases e1;cases e2;exact h2
   | 3,e1,e2=>cases e1;cases e2;exact h3
   | i+4,e1,e2=>cases e1
 . cases b0 <;> cases b1 <;> cases b2 <;> cases b3 <;> rfl
theorem TC {c:Addr}{xs ys:List V}(ha:H a=some (.tup xs))(hc:H c=some (.tup ys))(hne:xs.length≠ys.length)(h:∀ (i:Nat) u v,xs[i]? = some u->ys[i]? = some v->∃ b,ik H n u v b):ik H (n+1) (.ref a) (.ref c) false:=by
 have h':∀ i:Nat,∃ b,∀ u v,xs[i]? = some u->ys[i]? = some v->ik H n u v b:=fun i=>by
  cases hx:xs[i]? with
  | none=>exact⟨true,fun _ _ e=>nomatch e⟩
  | some u=>
   cases hy:ys[i]? with
   | none=>exact⟨true,fun _ _ _ e=>nomatch e⟩
   | some v=>obtain⟨b,hb⟩:=h i u v hx hy;exact⟨b,fun u' v' e e'=>by cases e;cases e';exact hb⟩
 obtain⟨e,he⟩:=Classical.axiomOfChoice h';refine .inr (.inl ⟨a,c,_,_,e,U,U,ha,hc,he,?_⟩);rw[show(xs.length == ys.length)=false from by simpa using hne,JJ]
theorem Rp {x y:Str}:ik H 0 (.str x) (.str y) (decide (x=y)):=by
 have z:ik H 0 (V.str x) (V.str y) (Du (V.str x) (V.str y)):=Nn rfl rfl;have e:Du (V.str x) (V.str y)=decide (x=y):=by rw[Cw];simp[Du]
 rw[e] at z;exact z
theorem UA {x:V}(h:Gm H x)(h':EA H y):ik H n x y false:=ik.jd (.inr ⟨U,.inr (.inr (.inr ⟨h,h'⟩))⟩) _
theorem S3 {x:V}(h:EA H x)(h':Gm H y):ik H n x y false:=ik.jd (.inr ⟨U,.inr (.inr (.inl ⟨h,h'⟩))⟩) _
theorem IP {x:V}(h:CD x=true)(h':EA H y\/Gm H y):ik H n x y false:=ik.jd (.inr ⟨U,.inl ⟨h,h'⟩⟩) _
theorem UP (h:jh H v en)(h':jh H v' en'):ik H 1 v v' (decide (en=en')):=by
 cases en' with
 | some e=>
  obtain⟨p,rfl,hp⟩:=h';exact SS h hp
 | none=>
  obtain rfl:v'=V.non:=h';cases en with
  | none=>
   obtain rfl:v=V.non:=h;rw[Be rfl];exact ik.jd (.inl ⟨U,U,(LD rfl).symm⟩) _
  | some e=>
   obtain⟨p,rfl,hp⟩:=h;rw[Bj (by simp)];exact ik.jd (.inr ⟨U,.inr (.inl ⟨.inl ⟨p,Aa U hp⟩,U⟩)⟩) _
theorem e8 (h:jc H v)(h':jh H v' en'):ik H 1 v v' false:=by
 cases en' with
 | none=>
  obtain rfl:v'=V.non:=h';rcases h with⟨i,rfl⟩ | ⟨p,z,rfl,hp⟩
  . exact ik.jd (.inl ⟨U,U,U⟩) _
  . exact ik.jd (.inr ⟨U,.inr (.inl ⟨.inl ⟨p,Aa U hp⟩,U⟩)⟩) _
 | some e=>
  obtain⟨p',rfl,hp'⟩:=h';rcases h with⟨i,rfl⟩ | ⟨p,z,rfl,hp⟩
  . exact IP rfl (.inl ⟨p',Aa U hp'⟩)
  . refine TC hp hp' (by simp) fun i u v e1 e2=>?_
    match i,e1,e2 with
    | 0,e1,e2=>cases e1;cases e2;exact⟨_,Nn rfl rfl⟩
    | i+1,e1,e2=>cases e1
abbrev DG (B:Nat)(ts:List Tm):Prop:=∀ t∈ts,Gd .nd B t
theorem ST (hi:∀ d,S = .num d->∃ kvs,H d=some (.dT kvs)/\iH kvs)(h:ja S H v os en)(h':ja S H v' os' en')(g:DG B os)(g':DG B os'):ik H (B+2) v v' (decide (os=os'/\en=en')):=by
 obtain⟨p,a,ws,ve,rfl,h1,h2,h3,h4⟩:=h;obtain⟨p',a',ws',ve',rfl,h1',h2',h3',h4'⟩:=h';rw[OG];exact PD h1 h1' (Rz (g:=gS .nd) (s:=.nd) hi (fun t ht=>(g t ht).2) (fun t ht=>(g' t ht).2) (fun t ht=>(g t ht).1) h3 h3' h2 h2') (ik.up om (UP h4 h4'))
def jE (S:Sl)(H:Hp)(B:Nat)(wv:V):Prop:=
 wv = .non\/(∃ i:Int,wv = .int i)\/(∃ z,wv = .str z)\/(∃ p xs,wv = .ref p/\H p=some (.lst xs))\/(∃ p a xs ve en,wv = .ref p/\H p=some (.tup [.ref a,ve])/\H a=some (.tup xs)/\jh H ve en)\/
 ∃ p a xs os ve,wv = .ref p/\H p=some (.tup [.ref a,ve])/\H a=some (.lst xs)/\Bs S H os xs/\DG B os/\jc H ve
theorem jE.no (h:jE S H B wv):Qn H wv:=by
 rcases h with h | h | h | h | ⟨p,a,xs,ve,en,h1,h2,h3,_⟩ | ⟨p,a,xs,os,ve,h1,h2,h3,_,_,h6⟩
 . exact .inl h
 . exact .inr (.inl h)
 . exact .inr (.inr (.inl h))
 . exact .inr (.inr (.inr (.inl h)))
 . exact .inr (.inr (.inr (.inr (.inl ⟨p,a,xs,ve,h1,h2,h3⟩))))
 . exact .inr (.inr (.inr (.inr (.inr ⟨p,a,xs,ve,h1,h2,h3,h6⟩))))
theorem jE.up (h:jE S H B wv)(g:Gr S n H H'):jE S H' B wv:=by
 rcases h with h | h | h | ⟨p,xs,h1,h2⟩ | ⟨p,a,xs,ve,en,h1,h2,h3,h4⟩ | ⟨p,a,xs,os,ve,h1,h2,h3,h4,h5,h6⟩
 . exact .inl h
 . exact .inr (.inl h)
 . exact .inr (.inr (.inl h))
 . exact .inr (.inr (.inr (.inl ⟨p,xs,h1,g.lst h2⟩)))
 . exact .inr (.inr (.inr (.inr (.inl ⟨p,a,xs,ve,en,h1,g.gn.keep _ _ h2 rfl,g.gn.keep _ _ h3 rfl,h4.up g.gn⟩))))
 . exact .inr (.inr (.inr (.inr (.inr ⟨p,a,xs,os,ve,h1,g.gn.keep _ _ h2 rfl,g.lst h3,AQ g.gn h4,h5,h6.up g⟩))))
theorem jE.eq (hi:∀ d,S = .num d->∃ kvs,H d=some (.dT kvs)/\iH kvs)(h:jE S H B wv)(h':ja S H v' os' en')(g':DG B os'):ik H (B+2) wv v' false:=by
 obtain⟨p',a',ws',ve',rfl,h1',h2',h3',h4'⟩:=h';have ht:EA H (.ref p'):=⟨p',_,U,h1'⟩
 rcases h with rfl | ⟨i,rfl⟩ | ⟨z,rfl⟩ | ⟨p,xs,rfl,h2⟩ | ⟨p,a,xs,ve,en,rfl,h2,h3,h4⟩ | ⟨p,a,xs,os,ve,rfl,h2,h3,h4,h5,h6⟩
 . exact IP rfl (.inl ht)
 . exact IP rfl (.inl ht)
 . exact IP rfl (.inl ht)
 . exact UA ⟨p,Aa U h2⟩ ht
 . have z:=PD (n:=B+1) h2 h1' (S3 ⟨a,_,U,h3⟩ ⟨a',_,U,h2'⟩) (ik.up om (UP h4 h4'));rw[LA] at z;exact z
 . have z:=PD h2 h1' (Rz (g:=gS .nd) (s:=.nd) hi (fun t ht=>(h5 t ht).2) (fun t ht=>(g' t ht).2) (fun t ht=>(h5 t ht).1) h4 h3' h3 h2') (ik.up om (e8 h6 h4'));rw[JJ] at z;exact z
def jV (S:Sl)(H:Hp)(B:Nat)(v:V):Prop:=
 v = .non\/(∃ p xs,v = .ref p/\H p=some (.lst xs))\/(∃ p z t u r rs ts xs,v = .ref p/\H p=some (.tup (.str z :: u :: .ref r :: xs))/\AE S H t u/\Gd .nd B t/\H r=some (.lst rs)/\Bs S H ts rs/\DG B ts/\(xs=[]\/∃ pw,xs=[.ref pw,.int 0]/\∃ os en,ja S H (.ref pw) os en/\DG B os))\/
 ∃ p z t u r ts wv,v = .ref p/\H p=some (.tup [.str z,u,r,wv])/\AE S H t u/\Gd .nd B t/\jY .nd S H B r ts/\jE S H B wv
theorem jV.no (h:jV S H B v):QS H v:=by
 rcases h with h | h | ⟨p,z,t,u,r,rs,ts,xs,h1,h2,h3,h4,h5,h6,h7,h8⟩ | ⟨p,z,t,u,r,ts,wv,h1,h2,h3,h4,h5,h6⟩
 . exact .inl h
 . exact .inr (.inl h)
 . refine .inr (.inr (.inl ⟨p,_,h1,h2,?_⟩));rcases h8 with rfl | ⟨pw,rfl,_⟩ <;> simp
 . exact .inr (.inr (.inr ⟨p,z,u,r,wv,h1,h2,h6.no⟩))
theorem jV.up (h:jV S H B v)(g:Gr S n H H'):jV S H' B v:=by
 rcases h with h | ⟨p,xs,h1,h2⟩ | ⟨p,z,t,u,r,rs,ts,xs,h1,h2,h3,h4,h5,h6,h7,h8⟩ | ⟨p,z,t,u,r,ts,wv,h1,h2,h3,h4,h5,h6⟩
 . exact .inl h
 . exact .inr (.inl ⟨p,xs,h1,g.lst h2⟩)
 . refine .inr (.inr (.inl ⟨p,z,t,u,r,rs,ts,xs,h1,g.gn.keep _ _ h2 rfl,AO g.gn h3,h4,g.lst h5,AQ g.gn h6,h7,?_⟩));rcases h8 with h8 | ⟨pw,h8,os,en,h9,h10⟩
   . exact .inl h8
   . exact .inr ⟨pw,h8,os,en,h9.up g,h10⟩
 . exact .inr (.inr (.inr ⟨p,z,t,u,r,ts,wv,h1,g.gn.keep _ _ h2 rfl,AO g.gn h3,h4,h5.up g,h6.up g⟩))
theorem Qe {pv:V}(hi:∀ d,S = .num d->∃ kvs,H d=some (.dT kvs)/\iH kvs)(h:jY .nd S H B pv po)(hr:H r=some (.lst rs))(ir:Bs S H ts rs)(g:DG B ts):ik H (B+1) pv (.ref r) (decide (po=some ts)):=by
 cases po with
 | some os=>
  obtain⟨b,ws,rfl,hb,it,hg⟩:=h;have z:=Rz (g:=gS .nd) (s:=.nd) hi (fun t ht=>(hg t ht).2) (fun t ht=>(g t ht).2) (fun t ht=>(hg t ht).1) it ir hb hr;rw[show decide (some os=some ts)=decide (os=ts) by rw[decide_eq_decide];simp];exact z
 | none=>
  rw[Bj (by simp)];rcases h with h | ⟨b,ws,os,rfl,hb,_⟩
  . exact IP h (.inr ⟨r,Aa U hr⟩)
  . exact S3 ⟨b,Aa U hb⟩ ⟨r,Aa U hr⟩
theorem QJ {t:Tm}{u u':V}(hi:∀ d,S = .num d->∃ kvs,H d=some (.dT kvs)/\iH kvs)(h:AE S H t u)(h':AE S H t' u')(g:Gd .nd B t)(g':Gd .nd B t'):ik H B u u' (decide (t=t')):=
 ik.up g.1 (JY (g:=gS .nd) (s:=.nd) (fun d e=>⟨g.2,g'.2,hi d e⟩) h h')
structure Nd (S:Sl)(H:Hp)(B:Nat)(q:Addr)(z:Str)(t:Tm)(ts:List Tm)(wy:List Tm×List Rw):Prop where
 at':IB S H q z t ts wy
 gt:Gd .nd B t
 gs:DG B ts
 gw:DG B wy.1
theorem jV.eq {q:Addr}{t:Tm}(hi:∀ d,S = .num d->∃ kvs,H d=some (.dT kvs)/\iH kvs)(h:jV S H B v)(h':Nd S H B q z t ts wy):ik H (B+3) v (.ref q) false:=by
 obtain⟨⟨u',r',rs',pw',r2',q1,q2,q3,q4,q5⟩,gt,gs,gw⟩:=h';have ht:EA H (.ref q):=⟨q,_,U,q1⟩
 have wk:=KD q5;rcases h with rfl | ⟨p,xs,rfl,h2⟩ | ⟨p,z,t,u,r,rs,ts,xs,rfl,h2,h3,h4,h5,h6,h7,h8⟩ | ⟨p,z,t,u,r,ts,wv,rfl,h2,h3,h4,h5,h6⟩
 . exact IP rfl (.inl ht)
 . exact UA ⟨p,Aa U h2⟩ ht
 . refine TC (n:=B+2) h2 q1 (by rcases h8 with rfl | ⟨pw,rfl,_⟩ <;> simp) fun i x y e1 e2=>?_
   match i,e1,e2 with
   | 0,e1,e2=>cases e1;cases e2;exact⟨_,ik.up om Rp⟩
   | 1,e1,e2=>cases e1;cases e2;exact⟨_,ik.up om (QJ hi h3 q2 h4 gt)⟩
   | 2,e1,e2=>cases e1;cases e2;exact⟨_,ik.up om (Qe hi (po:=some ts) ⟨r,rs,U,h5,h6,h7⟩ q3 q4 gs)⟩
   | 3,e1,e2=>
    cases e2
    rcases h8 with rfl | ⟨pw,rfl,os,en,h9,h10⟩
    . cases e1
    . cases e1;exact⟨_,ST hi h9 wk h10 gw⟩
   | i+4,e1,e2=>cases e2
 . have z:=Vi (n:=B+2) h2 q1 (ik.up om Rp) (ik.up om (QJ hi h3 q2 h4 gt)) (ik.up om (Qe hi h5 q3 q4 gs)) (h6.eq hi wk gw);rw[JJ,JJ,JJ] at z;exact z
theorem jg.eq {q:Addr}{t:Tm}(hi:∀ d,S = .num d->∃ kvs,H d=some (.dT kvs)/\iH kvs)(h:jg .nd S H B v z' tt po os en)(h':Nd S H B q z t ts wy):ik H (B+3) v (.ref q) (decide (z'=z/\tt=t/\po=some ts/\os=wy.1/\en=Ew wy.2)):=by
 obtain⟨⟨u',r',rs',pw',r2',q1,q2,q3,q4,q5⟩,gt,gs,gw⟩:=h';obtain⟨p,vt,vp,vw,rfl,h1,h2,h3,h4,h5,h6⟩:=h;have z:=Vi (n:=B+2) h1 q1 (ik.up om Rp) (ik.up om (QJ hi h2 q2 h3 gt)) (ik.up om (Qe hi h4 q3 q4 gs)) (ST hi h5 (KD q5) h6 gw);rw[<- OG,<- OG,<- OG] at z;exact z
theorem N4 (hB:2<=B)(h:kq ts ts')(g:DG B ts):DG B ts':=fun x hx=>by
 rcases h.1 x hx with h | rfl | rfl
 . exact g x h
 . exact⟨by show(1:Nat)<=B;exact om,Gx⟩
 . exact⟨by show(1:Nat)<=B;exact om,PN⟩
theorem ge {t:Tm}(hB:2<=B)(h:Lx S H z t ts wy v)(gt:Gd .nd B t)(gs:DG B ts)(gw:DG B wy.1):jV S H B v\/∃ z' tt po os en,jg .nd S H B v z' tt po os en/\os.length<=wy.1.length+1:=by
 rcases h with h | h | ⟨p,u,r,rs,xs,h1,h2,h3,h4,h5,h6⟩ | ⟨z',t',ts',isl,wv,⟨⟨p,u,r,rs,h1,h2,h3,h4,h5⟩,_,ht,ho⟩,hw⟩
 . exact .inl (.inl h)
 . exact .inl (.inr (.inl h))
 . refine .inl (.inr (.inr (.inl ⟨p,z,t,u,r,rs,ts,xs,h1,h2,h3,gt,h4,h5,gs,?_⟩)));rcases h6 with h6 | ⟨pw,h6,os,en,h7,h8⟩
   . exact .inl h6
   . exact .inr ⟨pw,h6,os,en,h7,N4 hB h8 gw⟩
 . have gt':Gd .nd B t':=by
    rcases ht with rfl | ⟨n,_,rfl⟩
    . exact gt
    . exact⟨by show(2:Nat)<=B;exact hB,Oi Gx⟩
   have gs':=N4 hB ho gs;have hP:jY .nd S H B (.ref r) (if isl then some ts' else none):=by
    cases isl with
    | true=>exact⟨r,rs,U,h4,h5,gs'⟩
    | false=>exact .inr ⟨r,rs,ts',U,h4,h5,gs'⟩
   have bad:jE S H B wv->jV S H B v:=fun hb=>.inr (.inr (.inr ⟨p,z',t',u,.ref r,_,wv,h1,h2,h3,gt',hP,hb⟩));rcases hw with h | h | h | h | h | ⟨p',a,xs,os,ve,k1,k2,k3,k4,k5,k6⟩ | ⟨os,en,k1,k2⟩
   . exact .inl (bad (.inl h))
   . exact .inl (bad (.inr (.inl h)))
   . exact .inl (bad (.inr (.inr (.inl h))))
   . exact .inl (bad (.inr (.inr (.inr (.inl h)))))
   . exact .inl (bad (.inr (.inr (.inr (.inr (.inl h))))))
   . exact .inl (bad (.inr (.inr (.inr (.inr (.inr ⟨p',a,xs,os,ve,k1,k2,k3,k4,N4 hB k5 gw,k6⟩))))))
   . exact .inr ⟨z',t',_,os,en,⟨p,u,.ref r,wv,h1,h2,h3,gt',hP,k1,N4 hB k2 gw⟩,k2.2⟩
noncomputable abbrev Qt:Tm:=.nd Di (.int 0) AM
structure Hl (K:W.Frag)(mg:gj)(C:Addr):Prop where
 cl:jk K C
 n1:ig K C Go
 n2:ig K C Kv
 j6:mg "Grows" = some (.ref C)
noncomputable def Ua (p:Int) (v:V):List (Str×V):=[(Go,.int p),(Kv,v)]
theorem gA (p:Int)(v:V):AR Kv v (AR Go (.int p) [])=Ua p v:=by
 show(if (Go:Str)=Kv then _ else((Go:Str),V.int p) :: [((Kv:Str),v)])=_;rw[if_neg (by decide +kernel)];rfl
def SO (C:Addr)(H:Hp)(x:Addr)(p:Int)(v:V):Prop:=∃ dx,H x=some (.ins C dx (Ua p v))
def RJ (C:Addr):Sp:=fun vs H Q _=>∃ (p dx:Addr)(pl:Int)(v:V),vs=[.ref p,.int pl,v]/\H p=some (.ins C dx [])/\∀ H',SO C H' p pl v->(∀ b o,H b=some o->b≠p->H' b=some o)->Q .non H'
theorem YU:AA [Ak,Go,Br] [Ak,Go,Br] (Ah J5):=AD
theorem gX (F:gq K C Cj "Grows.__init__" J5)(T:Hl K mg C):AF P w K mg base C 1 Cj [Ak,Go,Br] (RJ C):=by
 refine F.ok YU (fun _ _ _ _ _ _=>Bx fun _ _ _=>rfl) (fun _ _ _ _ h=>KL h fun _ _ _ _=>rfl) (fun f0 ad A outer s H vs Q E hr h=>?_);refine KP h fun p dx pl v hZ=>Ez hZ fun eQ hp k=>?_;clear hZ h;subst eQ;refine⟨_,Ae (Cs (pv 0) (pv 1) rfl) <| Ba (Cs (pv 0) (pv 2) rfl),?_⟩;refine Aa U (Aa U ⟨p,C,dx,[],U,hp,T.cl,T.n1,(by show 0<1000;decide),?_⟩);refine Aa U (Aa U ⟨p,C,dx,Aa U ⟨Ad,T.cl,T.n2,(by show 1<1000;decide),?_⟩⟩);refine k _ ⟨dx,?_⟩ fun b o e hb=>?_
 . rw[Ad,gA]
 . rw[Af hb,Af hb];exact e
def LS (K:W.Frag)(mg:gj)(C:Addr):Sp:=fun vs H Q _=>∃ S x f vh ve b,∃ size:Nat,vs=[.ref x,.ref f,.int size,vh,.ref b]/\SO C H x 0 ve/\gx K mg AU S H f/\iJ S H 2/\AE S H Qt ve/\H b=some (.lst [])/\0<size/\∀ H',Gr S 2 H H'->Q (.bl true) H'
theorem scGN:AA [Ak,Ag,AI,Br,Bt,"empty"] [Ak,Ag,AI,Br,Bt] (Ah J3):=AD
theorem fA (F:gq K C Me Ta J3)(T:Hl K mg C)(Fn:hU P w K mg base 2 G0 [Ag] (Ic K mg))(Fb:hU P w K mg base 2 Jx [Ag,AI,DO] (Dz K mg Di))(Fs:hU P w K mg base 20 GH ["one",F9] Lr)(ml:mg B0=none)(mli:mg "list" = none)(mi:mg DY=none) :
 AF P w K mg base C 21 Me [Ak,Ag,AI,Br,Bt] (LS K mg C):=by
 refine F.ok scGN (fun _ _ _ _ _ _=>FJ fun _ _ _ _ _=>rfl) (fun _ _ _ _ h=>Fx h fun _ _ _ _ _ _ _=>rfl) (fun f0 ad A outer s H vs Q E hr h=>?_);refine EY h fun S x f vh ve b size hZ=>E6 hZ fun eQ gg1 hS hc ie hb hz q=>?_;clear hZ h;subst eQ;obtain⟨dx,hx⟩:=gg1;have nd:=scGN.nd;refine⟨_,Ae (Az (PW.pt (Ge (Dg (Ca (B7 Dp rfl mi CZ (AG (pv 4) (Dn rfl mli Jt))))) (Gs (Au Fg (AW ml (pv 4)) Ac)))) BY AB) <|
  Ae (Ax 5 nd (Ai Fb hr.m (An (pv 1) Ac (Ai Fn hr.m (Ar (pv 1)))))) <|
  Ae (Az (PW.pt (O5 (Au AL (pv 2) Ac) (NF (Dg (Ca Ru))))) BY AB) <|
  Aj (Ai Fs hr (AG (pv 5) (Bi (pv 0) rfl))),?_⟩
 refine Aa U ⟨_,_,_,true,U,.lst hb,VY,Aa U (AK ?_)⟩;refine Aa U ⟨b,[],U,.inl (gy.of hb),_,Aa U ⟨U,Aa U ?_⟩⟩;refine AN (fun c=>?_) (fun c=>?_)
 . exact absurd (Bm c) (by decide)
 refine Aa U (Aa U ⟨S,f,U,hS,hc.dn om,fun v1 H1 g1 i1=>?_⟩);refine⟨S,f,.int 0,_,_,Aa U ⟨hS.up g1.gn,hc.go g1.gn om,U,i1,fun v2 H2 g2 i2=>?_⟩⟩;have g12:=g1.trans g2;have hx2:=g12.same hx;refine Aa U ⟨U,Aa U ?_⟩;refine AN (fun c=>?_) (fun c=>?_)
 . have c':V.int (size:Int)=V.int 0:=Bm c;injection c' with c'
   exact om
 refine AK (Aa U (Aa U ⟨x,C,dx,_,Aa U ⟨hx2,T.cl,T.n2,U,_,_,_,Aa U ⟨JY (g:=gS .nd) (s:=.nd) (fun d e=>⟨LZ Gx,LZ Gx,(hS.up g12.gn).ints d e⟩) i2 (AO g12.gn ie),by show 2<=400;exact om,?_⟩⟩⟩));rw[Be rfl];exact q H2 (g12.up om)
theorem cA:AA [Ak,Ag,AI,Br,Bt,"tops"] [Ak,Ag,AI,Br,Bt] (Ah Ji):=AD
theorem Xu (F:gq K C B1 "Grows.judged" Ji)(T:Hl K mg C)(Mn:AF P w K mg base C 21 Me [Ak,Ag,AI,Br,Bt] (LS K mg C)):AF P w K mg base C 22 B1 [Ak,Ag,AI,Br,Bt] (LS K mg C):=by
 refine F.ok cA (fun _ _ _ _ _ _=>FJ fun _ _ _ _ _=>rfl) (fun _ _ _ _ h=>Fx h fun _ _ _ _ _ _ _=>rfl) (fun f0 ad A outer s H vs Q E hr h=>?_);refine EY h fun S x f vh ve b size hZ=>E6 hZ fun eQ hgr hS hc ie hb hz q=>?_;clear hZ h;subst eQ;obtain⟨dx,hx⟩:=id hgr;refine⟨_,Ae (Az (PW.pt (Ge (Au Dj (Bi (pv 0) rfl) Ac) (Gs (Au Fg (Bi (pv 0) rfl) (pv 2))))) BY AB) <|
  Ae (Az (Au AL (Bi (pv 0) rfl) Ac) (Aj (Ct Mn (pv 0) T.cl hr.m (BH (pv 1) (pv 2) (pv 3) (pv 4)))) AB) BY,?_⟩
 refine Aa U ⟨x,C,dx,_,Aa U ⟨hx,T.cl,T.n1,U,_,Aa U ⟨U,Aa U ?_⟩⟩⟩;refine AN (fun c=>absurd (Bm c) (by decide)) (fun c=>?_);refine Aa U ⟨x,C,dx,_,Aa U ⟨hx,T.cl,T.n1,U,Aa U ⟨_,Aa U ⟨U,Aa U ?_⟩⟩⟩⟩;refine AN (fun c=>?_) (fun c=>?_)
 . have c':(0:Int) > (size:Int):=Bm c;exact om
 refine Aa U ⟨x,C,dx,_,Aa U ⟨hx,T.cl,T.n1,U,U,Aa U (AC ?_)⟩⟩;exact Aa U ⟨x,dx,Aa U ⟨hx,U,Aa U (Aa U (Aa U (Aa U ⟨S,x,f,vh,ve,b,size,U,hgr,hS,hc,ie,hb,hz,q⟩)))⟩⟩
structure ip (S:Sl)(n:Nat)(p:Addr)(H H':Hp):Prop where
 gn:Gn S n H H'
 all:∀ b o,H b=some o->b≠p->S.d≠some b->H' b=some o
theorem ip.trans {a b:Nat}(g:ip S a p H H1)(g2:ip S b p H1 H2):ip S (a+b) p H H2:=⟨g.gn.trans g2.gn,fun c o h n d=>g2.all c o (g.all c o h n d) n d⟩
theorem ip.of (g:Gr S n H H'):ip S n p H H':=⟨g.gn,fun b o h _ d=>g.all b o h d⟩
theorem ip.chg {C:Addr}{fs:List (Str×V)}(t:C3 S H)(h:H p=some (.ins C dx fs)):ip S 0 p H (Ab H p o'):=⟨Gn.chg t h rfl (fun _ e=>nomatch e),fun b o e n _=>by rw[Af n];exact e⟩
theorem ip.up {a b:Nat}(g:ip S a p H H1)(h:a<=b):ip S b p H H1:=⟨g.gn.up h,g.all⟩
theorem Gr.made {C:Addr}(t:C3 S H)(nx:H x=none)(ndx:H dx=none)(nex:dx≠x)(g:ip S n x (Ab (Ab H dx (.own x)) x (.ins C dx [])) H'):Gr S n H H':=by
 have g1:Gr S 0 H (Ab H dx (.own x)):=.new t ndx;have hx:Ab H dx (.own x) x=none:=by rw[Af nex.symm];exact nx
 have g2:Gr S 0 (Ab H dx (.own x)) (Ab (Ab H dx (.own x)) x (.ins C dx [])):=.new g1.gn.gu hx;have g12:=g1.trans g2;exact⟨by simpa using g12.gn.trans g.gn,fun b o h d=>g.all b o (g12.all b o h d) (Aq h nx) d⟩
structure Ga (K:W.Frag)(mg:gj)(C:Addr):Prop where
 cl:jk K C
 n1:ig K C Ag
 n2:ig K C Cr
 n3:ig K C DH
 j6:mg "Follower" = some (.ref C)
noncomputable def EK (f:Addr) (n:Int) (v:V):List (Str×V):=[(Ag,.ref f),(Cr,.int n),(DH,v)]
theorem XG (f:Addr)(n:Int):AR Cr (.int n) (AR Ag (.ref f) [])=([(Ag,.ref f),(Cr,.int n)]:List (Str×V)):=by
 show(if (Ag:Str)=Cr then _ else((Ag:Str),V.ref f) :: [((Cr:Str),V.int n)])=_;rw[if_neg (by decide +kernel)]
theorem Y7 (f:Addr)(n:Int)(v:V):AR DH v ([(Ag,.ref f),(Cr,.int n)]:List (Str×V))=EK f n v:=by
 show(if (Ag:Str)=DH then _ else((Ag:Str),V.ref f) :: (if (Cr:Str)=DH then _ else((Cr:Str),V.int n) :: [((DH:Str),v)]))=_;rw[if_neg (by decide +kernel),if_neg (by decide +kernel)];rfl
theorem WI (f:Addr)(n m:Int)(v:V):AR Cr (.int m) (EK f n v)=EK f m v:=by
 show(if (Ag:Str)=Cr then _ else((Ag:Str),V.ref f) :: (if (Cr:Str)=Cr then((Cr:Str),V.int m) :: [((DH:Str),v)] else _))=_;rw[if_neg (by decide +kernel),if_pos rfl];rfl
theorem c6 (f:Addr)(n:Int)(v u:V):AR DH u (EK f n v)=EK f n u:=by
 show(if (Ag:Str)=DH then _ else((Ag:Str),V.ref f) :: (if (Cr:Str)=DH then _ else((Cr:Str),V.int n) :: (if (DH:Str)=DH then((DH:Str),u) :: [] else _)))=_;rw[if_neg (by decide +kernel),if_neg (by decide +kernel),if_pos rfl];rfl
def jQ (C:Addr)(H:Hp)(x f:Addr)(n:Int)(v:V):Prop:=∃ dx,H x=some (.ins C dx (EK f n v))
theorem jQ.up {C:Addr}{m:Int}(h:jQ C H x f m v)(g:Gr S n H H'):jQ C H' x f m v:=by
 obtain⟨dx,h⟩:=h;exact⟨dx,g.same h⟩
section
variable {C cG cH cL:Addr}
def Oa (K:W.Frag)(mg:gj)(C:Addr):Sp:=fun vs H Q _=>∃ (S:Sl)(p dx f:Addr),vs=[.ref p,.ref f]/\H p=some (.ins C dx [])/\gx K mg AU S H f/\iJ S H 2/\∀ v H',jQ C H' p f 0 v->AE S H' Qt v->ip S 2 p H H'->Q .non H'
theorem YH:AA [Ak,Ag] [Ak,Ag] (Ah J8):=AD
theorem Xk (F:gq K C Cj "Follower.__init__" J8)(T:Ga K mg C)(Fn:hU P w K mg base 2 G0 [Ag] (Ic K mg))(Fb:hU P w K mg base 2 Jx [Ag,AI,DO] (Dz K mg Di)):AF P w K mg base C 3 Cj [Ak,Ag] (Oa K mg C):=by
 refine F.ok YH (fun _ _ _ _ _ _=>CB fun _ _=>rfl) (fun _ _ _ _ h=>KL h fun _ _ _ _=>rfl) (fun f0 ad A outer s H vs Q E hr h=>?_);refine KP h fun S p dx f hZ=>G6 hZ fun eQ hp hS hc k=>?_;clear hZ h;subst eQ;refine⟨_,Ae (Cs (pv 0) (pv 1) rfl) <| Ae (Cs (pv 0) Ac rfl) <| Ba (Cs (pv 0) (Ai Fb hr (An (pv 1) Ac (Ai Fn hr (Ar (pv 1))))) rfl),?_⟩;refine Aa U (Aa U ⟨p,C,dx,[],U,hp,T.cl,T.n1,(by show 0<1000;decide),?_⟩);have k1:ip S 0 p H (Ab H p (.ins C dx (AR Ag (.ref f) []))):=.chg hS.told hp;refine Aa U ⟨p,C,dx,Aa U ⟨Ad,T.cl,T.n2,(by show 1<1000;decide),?_⟩⟩;have k2:ip S 0 p _ (Ab (Ab H p (.ins C dx (AR Ag (.ref f) []))) p (.ins C dx (AR Cr (.int 0) (AR Ag (.ref f) [])))):=.chg k1.gn.gu Ad;have k12:=k1.trans k2;have hS2:=hS.up k12.gn;refine Aa U (Aa U ⟨S,f,U,hS2,hc.go k12.gn om,fun v1 H1 g1 i1=>?_⟩);have k13:=k12.trans (.of g1);refine⟨S,f,.int 0,_,_,Aa U ⟨hS.up k13.gn,hc.go k13.gn om,U,i1,fun v2 H2 g2 i2=>?_⟩⟩;have g12:=g1.trans g2;have k14:=k13.trans (.of g2);have hp2:H2 p=some (.ins C dx (AR Cr (.int 0) (AR Ag (.ref f) []))):=g12.same Ad;rw[XG] at hp2;refine Aa U ⟨p,C,dx,Aa U ⟨hp2,T.cl,T.n3,(by show 2<1000;decide),?_⟩⟩;have k5:ip S 0 p H2 (Ab H2 p (.ins C dx (AR DH v2 [(Ag,.ref f),(Cr,.int 0)]))):=.chg g2.gn.gu hp2;refine k v2 _ ⟨dx,?_⟩ (AO k5.gn i2) ((k14.trans k5).up om)
 rw[Ad,Y7]
def NC (K:W.Frag)(mg:gj)(C:Addr):Sp:=fun vs H Q _=>∃ S x f vh ve b,∃ size:Nat,vs=[.ref x,.int size,vh,.ref b]/\jQ C H x f 0 ve/\gx K mg AU S H f/\iJ S H 2/\AE S H Qt ve/\H b=some (.lst [])/\0<size/\
 ∀ H',ip S 2 x H H'->jQ C H' x f size vh->Q (.bl true) H'
theorem ZM:AA [Ak,AI,Br,Bt] [Ak,AI,Br,Bt] (Ah Iq):=AD
theorem Zs (F:gq K C Jm "Follower.take" Iq)(T:Ga K mg C)(TG:Hl K mg cG)(M:∃ fI,Mk K cG fI)(Mi:AF P w K mg base cG 1 Cj [Ak,Go,Br] (RJ cG))(Mj:AF P w K mg base cG 22 B1 [Ak,Ag,AI,Br,Bt] (LS K mg cG)) :
 AF P w K mg base C 23 Jm [Ak,AI,Br,Bt] (NC K mg C):=by
 refine F.ok ZM (fun _ _ _ _ _ _=>Ho fun _ _ _ _=>rfl) (fun _ _ _ _ h=>Fx h fun _ _ _ _ _ _ _=>rfl) (fun f0 ad A outer s H vs Q E hr h=>?_);refine EY h fun S x f vh ve b size hZ=>E6 hZ fun eQ gg1 hS hc ie hb hz q=>?_;clear hZ h;subst eQ;obtain⟨dx,hx⟩:=gg1;refine⟨_,Ae (Az (Dg (Ca (Ct Mj (JI M Mi hr.m rfl TG.j6 (AG (Bi (pv 0) rfl) (Bi (pv 0) rfl))) TG.cl hr (BH (Bi (pv 0) rfl) (pv 1) (pv 2) (pv 3))))) BY AB) <|
  Ae (Cs (pv 0) (pv 1) rfl) <| Ae (Cs (pv 0) (pv 2) rfl) <| Aj Dx,?_⟩
 refine Aa U ⟨x,C,dx,_,Aa U ⟨hx,T.cl,T.n2,U,Aa U ⟨x,C,dx,_,Aa U ⟨hx,T.cl,T.n3,U,fun y dy ny ndy ney=>⟨y,dy,0,ve,U,Ad,fun H1 hy k1=>⟨U,?_⟩⟩⟩⟩⟩⟩;have all1:∀ b o,H b=some o->H1 b=some o:=fun b o h=>k1 b o (by rw[Af (Aq h ny),Af (Aq h ndy)];exact h) (Aq h ny);have g1:Gr S 0 H H1:=.ext hS.told all1;have hx1:=all1 _ _ hx;obtain⟨dy1,hy1⟩:=id hy;refine⟨y,dy1,Aa U ⟨hy1,U,Aa U ⟨x,C,dx,_,Aa U ⟨hx1,T.cl,T.n1,U,Aa U (Aa U (Aa U ?_))⟩⟩⟩⟩;refine⟨S,y,f,vh,ve,b,size,U,hy,hS.up g1.gn,hc.go g1.gn om,AO g1.gn ie,g1.lst hb,hz,fun H2 g2=>Aa U (AK ?_)⟩;have g12:=g1.trans g2;have hx2:=g12.same hx;refine Aa U (Aa U ⟨x,C,dx,Aa U ⟨hx2,T.cl,T.n2,(by show 3<1000;decide),?_⟩⟩);have k3:ip S 0 x H2 (Ab H2 x (.ins C dx (AR Cr (.int size) (EK f 0 ve)))):=.chg g12.gn.gu hx2;have hx3:Ab H2 x (.ins C dx (AR Cr (.int size) (EK f 0 ve))) x=some (.ins C dx (EK f size ve)):=by rw[Ad,WI]
 refine Aa U (Aa U ⟨x,C,dx,Aa U ⟨hx3,T.cl,T.n3,(by show 3<1000;decide),?_⟩⟩);have k4:ip S 0 x _ (Ab (Ab H2 x (.ins C dx (AR Cr (.int size) (EK f 0 ve)))) x (.ins C dx (AR DH vh (EK f size ve)))):=.chg k3.gn.gu hx3;exact q _ ((((ip.of g12).trans k3).trans k4).up om) ⟨dx,by rw[Ad,c6]⟩
def kf (cH cL:Addr)(H:Hp)(x:Addr)(lk:Bool)(p k:Int)(z:Str)(D:Nat):Prop:=if lk=true then jD cL H x p k D else jF cH H x p k z D
theorem kf.up {p k:Int}(h:kf cH cL H x lk p k z D)(g:Gr S n H H'):kf cH cL H' x lk p k z D:=by
 cases lk
 . exact jF.up (C:=cH) h g
 . exact jD.up (C:=cL) h g
abbrev GV:=Option (Str×Tm×Option (List Tm)×List Tm×Option (Int×Str))
def Jd (S:Sl)(H:Hp)(B:Nat)(v:V):GV->Prop
 | none=>jV S H B v
 | some (z,tt,po,os,en)=>jg .nd S H B v z tt po os en/\os.length<=1000
theorem Jd.up (h:Jd S H B v kp)(g:Gr S n H H'):Jd S H' B v kp:=by
 cases kp with
 | none=>exact jV.up h g
 | some k=>exact⟨h.1.up g,h.2⟩
noncomputable def jB (kp:GV) (lk:Bool) (size place:Int) (th:Tm) (key:Int) (wx:Str) (D:Nat):Bool:=match kp with
 | none=>false
 | some (z,tt,po,os,en)=>if lk=true then K0 po size place th key D z tt os en else Pj po size place th key wx D z tt os en
noncomputable def Rq (kp:GV) (z:Str) (t:Tm) (ts:List Tm) (wy:List Tm×List Rw):Bool:=match kp with
 | none=>false
 | some (z',tt,po,os,en)=>decide (z'=z/\tt=t/\po=some ts/\os=wy.1/\en=Ew wy.2)
theorem Jd.eq {q:Addr}{t:Tm}(hi:∀ d,S = .num d->∃ kvs,H d=some (.dT kvs)/\iH kvs)(h:Jd S H B v kp)(h':Nd S H B q z t ts wy):ik H (B+3) v (.ref q) (Rq kp z t ts wy):=by
 cases kp with
 | none=>exact jV.eq hi h h'
 | some k=>exact jg.eq hi h.1 h'
noncomputable abbrev DP:List Str:=[Ak,Ag,AI,Br,Bt]
abbrev SQ (sH sL:Sp)(cH cL:Addr)(ta:TE)(t:TA):TE:=M9 (M9 (FR cH B1 sH [] E0 ta t) (FR cH B1 F6 [] E0 ta t)) (M9 (FR cL B1 sL [] E0 ta t) (FR cL B1 F6 [] E0 ta t))
theorem Vk {X:Cx}{cH cL:Addr}{sH sL:Sp}{o e:Expr}{es:List Expr}{t:TA}{pl:Sem Bool}(h1:AF X.prog X.w X.K X.mg X.base cH 23 B1 DP sH)(h2:AF X.prog X.w X.K X.mg X.base cH 23 B1 DP F6)(l1:AF X.prog X.w X.K X.mg X.base cL 23 B1 DP sL)(l2:AF X.prog X.w X.K X.mg X.base cL 23 B1 DP F6)(he:PE X o ta)(c:jk X.K cH)(c':jk X.K cL)(hr:ic 23 X.A)(ha:PA X (e :: es) t)
 (hst:Ef X e es:=by rfl)(hpl:DU X es pos:=by rfl)
 (ht:eval (.Call (.Attribute o B1 ae) (e :: es) [] pos) X.env=(do
  let ov <- eval o X.env
  standAt ae.atName
  let (f,first) <- holding [ov] (getMethod ov B1 pl)
  callWith pos f first (backTo pos (starEach (e :: es) X.env)) (backToKw pos (keywordEach [] X.env))):=by rfl):PE X (.Call (.Attribute o B1 ae) (e :: es) [] pos) (SQ sH sL cH cL ta t):=
 Q9 (Q9 (Ct h1 he c hr ha hst hpl ht) (Ct h2 he c hr ha hst hpl ht)) (Q9 (Ct l1 he c' hr ha hst hpl ht) (Ct l2 he c' hr ha hst hpl ht))
theorem j4 {t:TA}{vh:V}(hta:∀ R:VK,R (.ref x) H->ta σ H R)(hta2:∀ R:List V->Hp->Prop,R [.ref f,.int size,vh,v] H->t σ H R)
 (hx:kf cH cL H x lk place key wx D)(hS:gx K mg AU S H f)(hc:iJ S H 100)(ih:AE S H th vh)(gh:Gd .nd B th)(hJ:Jd S H B v kp)(hD:D<=20)(hsz:size<=2 ^ 40)(q:∀ H',Gr S 100 H H'->Q (.bl (jB kp lk size place th key wx D)) H'):SQ (KO K mg cH .nd S B) (L7 K mg cL .nd S B) cH cL ta t σ H Q:=by
 cases lk with
 | false=>
  obtain⟨dx,hx1⟩:=(show jF cH H x place key wx D from hx)
  cases kp with
  | none=>exact .inl (.inr (hta _ ⟨x,dx,_,U,hx1,U,hta2 _ ⟨x,f,size,vh,v,U,jV.no hJ,q H ((Gr.refl hS.told).up om)⟩⟩))
  | some k=>exact .inl (.inl (hta _ ⟨x,dx,_,U,hx1,U,hta2 _ ⟨x,f,size,place,key,wx,D,th,vh,v,_,_,_,_,_,U,⟨dx,hx1⟩,hS,hc,ih,gh,hJ.1,hJ.2,hD,hsz,q⟩⟩))
 | true=>
  obtain⟨dx,hx1⟩:=(show jD cL H x place key D from hx)
  cases kp with
  | none=>exact .inr (.inr (hta _ ⟨x,dx,_,U,hx1,U,hta2 _ ⟨x,f,size,vh,v,U,jV.no hJ,q H ((Gr.refl hS.told).up om)⟩⟩))
  | some k=>exact .inr (.inl (hta _ ⟨x,dx,_,U,hx1,U,hta2 _ ⟨x,f,size,place,key,D,th,vh,v,_,_,_,_,_,U,⟨dx,hx1⟩,hS,hc,ih,gh,hJ.1,hJ.2,hD,hsz,q⟩⟩))
def MQ (K:W.Frag)(mg:gj)(C cH cL:Addr)(S:Sl)(B:Nat):Sp:=fun vs H Q _=>∃ (x y f:Addr)(size place key:Int)(wx:Str)(D:Nat)(th:Tm)(vh v:V)(lk:Bool)(kp:GV),vs=[.ref x,.ref y,v]/\jQ C H x f size vh/\kf cH cL H y lk place key wx D/\gx K mg AU S H f/\iJ S H 100/\AE S H th vh/\Gd .nd B th/\Jd S H B v kp/\D<=20/\size<=2 ^ 40/\∀ H',Gr S 100 H H'->Q (.bl (jB kp lk size place th key wx D)) H'
theorem fz:AA [Ak,J2,Bt] [Ak,J2,Bt] (Ah HV):=AD
theorem X3 (S:Sl)(B:Nat)(F:gq K C HZ "Follower.judge" HV)(T:Ga K mg C)(cl:jk K cH)(cl':jk K cL)(h1:AF P w K mg base cH 23 B1 DP (KO K mg cH .nd S B))(h2:AF P w K mg base cH 23 B1 DP F6)(l1:AF P w K mg base cL 23 B1 DP (L7 K mg cL .nd S B))(l2:AF P w K mg base cL 23 B1 DP F6):AF P w K mg base C 24 HZ [Ak,J2,Bt] (MQ K mg C cH cL S B):=by
 refine F.ok fz (fun _ _ _ _ _ _=>Bx fun _ _ _=>rfl) (fun _ _ _ _ h=>Ue h fun _ _ _ _ _ _ _ _ _ _ _ _ _=>rfl) (fun f0 ad A outer s H vs Q E hr h=>?_);refine TX h fun x y f size place key wx D th vh v lk kp hZ=>Gw hZ fun eQ gg1 hy hS hc ih gh hJ hD hsz q=>?_;clear hZ h;subst eQ;obtain⟨dx,hx⟩:=gg1;refine⟨_,Aj (Vk h1 h2 l1 l2 (pv 1) cl cl' hr (BH (Bi (pv 0) rfl) (Bi (pv 0) rfl) (Bi (pv 0) rfl) (pv 2))),?_⟩;exact j4 (fun R r=>Aa U r) (fun R r=>Aa U ⟨x,C,dx,_,Aa U ⟨hx,T.cl,T.n1,U,Aa U ⟨x,C,dx,_,Aa U ⟨hx,T.cl,T.n2,U,Aa U ⟨x,C,dx,_,Aa U ⟨hx,T.cl,T.n3,U,Aa U r⟩⟩⟩⟩⟩⟩) hy hS hc ih gh hJ hD hsz q
end
noncomputable def DF (kvs:List (Al×V)) (k:Int):Option Str:=match AX kvs (.inl k) with
 | some (.str x)=>some x
 | _=>none
theorem Wj (hw:jf D kvs)(hs:iw kvs ac){k:Int}{x:Str}:(k,x)∈ac↔((.inl k:Al),V.str x)∈kvs:=by
 have p:(k,V.str x)∈ac.map (fun r=>(r.1,V.str r.2))↔(k,V.str x)∈kvs.map (fun q=>(C0 q.1,q.2)):=hs.2.mem_iff
 constructor
 . intro h;obtain⟨q,hq,e⟩:=List.mem_map.mp (p.mp (List.mem_map.mpr ⟨(k,x),h,U⟩));obtain⟨i,y,rfl,_⟩:=hw.all q hq;have e:(i,V.str y)=(k,V.str x):=e;cases e;exact hq
 . intro h;obtain⟨r,hr,e⟩:=List.mem_map.mp (p.mpr (List.mem_map.mpr ⟨_,h,U⟩));obtain⟨k',x'⟩:=r;have e:(k',V.str x')=(k,V.str x):=e;cases e;exact hr
theorem dH (hw:jf D kvs)(hs:iw kvs ac){k:Int}{x:Str}:DF kvs k=some x↔(k,x)∈ac:=by
 rw[Wj hw hs];unfold DF
 constructor
 . intro h;split at h
   . rename_i y e;cases h;exact UV e
   . cases h
 . intro h;rw[Rh hw.nd h]
theorem gc (hw:jf D kvs)(k:Int):AX kvs (.inl k)=(DF kvs k).map V.str:=by
 unfold DF;cases e:AX kvs (.inl k) with
 | none=>rfl
 | some v=>
  obtain⟨i,x,e2,_⟩:=hw.all _ (UV e);cases e2;rfl
theorem W6 (hw:jf D kvs)(hs:iw kvs ac):∀ r∈ac,Of r.1 D:=fun r hr=>by
 obtain⟨k,x⟩:=r;obtain⟨i,y,e,h⟩:=hw.all _ ((Wj hw hs).mp hr);cases e;exact h
theorem cO (ok:∀ e∈es,Er D e)(hh:held<=es.length) :
 jB kp lk size place (FA D (es.take held)) key wx deep=true↔size=(held:Int)/\0<=place/\place<size/\deep=D/\Of key D/\∃ e,es[place.toNat]? = some e/\DF e.2.1 key=(if lk=true then none else some wx)/\Rq kp e.1 (CQ D e.2.2) (CG ((es.take held).map (Bv D)) place.toNat) (Bd D e.2.2 key)=true:=by
 cases kp with
 | none=>
  constructor
  . intro h;cases h
  . rintro⟨_,_,_,_,_,e,_,_,h⟩;cases h
 | some k=>
 obtain⟨z,tt,po,os,en⟩:=k;have w:=YB (fun e he=>⟨(ok e he).s.kM (ok e he).w,W6 (ok e he).w (ok e he).s⟩) hh (po:=po) (size:=size) (place:=place) (key:=key) (deep:=deep) (z:=z) (tt:=tt) (os:=os) (en:=en);have hE:∀ e∈es,∀ x,Ew (Bd D e.2.2 key).2=some (key,x)↔DF e.2.1 key=some x:=fun e he x=>by
  rw[fu ((ok e he).s.kM (ok e he).w),dH (ok e he).w (ok e he).s]
 cases lk with
 | false=>
  show(decide (en=some (key,wx)) && FP po size place (FA D (es.take held)) key deep z tt os en)=true↔_;rw[Gc,w,decide_eq_true_eq]
  constructor
  . rintro⟨h1,⟨a,b,c,d,e,f,g1,g2,g3,g4,g5,g6⟩⟩;exact⟨a,b,c,d,e,f,g1,(hE f (CK g1) wx).mp (by rw[<- g6];exact h1),Be ⟨g2,g3,g4,g5,g6⟩⟩
  . rintro⟨a,b,c,d,e,f,g1,g2,g3⟩;obtain⟨g4,g5,g6,g7,g8⟩:=Bm (show decide _=true from g3);exact⟨by rw[g8];exact(hE f (CK g1) wx).mpr g2,⟨a,b,c,d,e,f,g1,g4,g5,g6,g7,g8⟩⟩
 | true=>
  show K0 po size place (FA D (es.take held)) key deep z tt os en=true↔_;unfold K0;rw[Gc,w]
  constructor
  . rintro⟨h1,⟨a,b,c,d,e,f,g1,g2,g3,g4,g5,g6⟩⟩;refine⟨a,b,c,d,e,f,g1,?_,Be ⟨g2,g3,g4,g5,g6⟩⟩;cases ht:DF f.2.1 key with
    | none=>rfl
    | some x=>
     have z:=(hE f (CK g1) x).mpr ht;rw[g6,z] at h1;simp at h1
  . rintro⟨a,b,c,d,e,f,g1,g2,g3⟩;obtain⟨g4,g5,g6,g7,g8⟩:=Bm (show decide _=true from g3);refine⟨?_,⟨a,b,c,d,e,f,g1,g4,g5,g6,g7,g8⟩⟩;have g2:DF f.2.1 key=none:=g2;cases en with
    | none=>rfl
    | some y=>
     obtain⟨k',x⟩:=y;show(!decide (k'=key))=true;rw[Bj];rfl;rintro rfl;rw[(hE f (CK g1) x).mp g8.symm] at g2;cases g2
theorem KE:∀ (b:Nat)(ac:List Rw),BW .nd (BQ b ac)
 | b,[]=>by rw[HA];exact Gx
 | b,[r]=>by rw[Hj];exact PN
 | 0,_ :: _ :: _=>Gx
 | b+1,x :: y :: r=>by rw[LI (by simp)];exact Pw (KE b _) (KE b _)
theorem Vx:∀ (b:Nat)(ac:List Rw)(k:Int),∀ t∈(Bd b ac k).1,BW .nd t
 | 0,_,_,t,ht=>(nomatch ht)
 | b+1,ac,k,t,ht=>by
  by_cases h2:2<=ac.length
  . rw[FL h2] at ht;rcases List.mem_cons.mp ht with rfl | ht
    . exact KE _ _
    . exact Vx b _ k t ht
  . rw[FC om] at ht;cases ht
theorem Wo (h:D<=16):Gd .nd 70 (CQ D ac):=⟨by show max 0 (BQ D ac).dep+1<=70;have:=Kj D ac;exact om,Oi (KE D ac)⟩
theorem Nr (h:D<=16):∀ t∈es.map (Bv D),t.dep<=20/\BW .nd t:=fun t ht=>by
 obtain⟨e,_,rfl⟩:=List.mem_map.mp ht;exact⟨by show max 0 (max 0 (BQ D e.2.2).dep+1)+1<=20;have:=Kj D e.2.2;exact om,R4 (Oi (KE _ _))⟩
theorem Sj (h:D<=16)(hl:es.length<=38){p:Nat}:DG 70 (CG (es.map (Bv D)) p):=fun t ht=>
 ⟨Bu (Ys (n:=38) (by rw[AS];exact hl) (fun t ht=>(Nr h t ht).1) t ht) om,Z7 (fun t ht=>(Nr h t ht).2) t ht⟩
theorem Wi (h:D<=16)(hl:es.length<=38):Gd .nd 70 (FA D es):=by
 have z:=LV 38 (es.map (Bv D)) 20 (by rw[AS];exact hl) (fun t ht=>(Nr h t ht).1);exact⟨by show max 0 (DC (es.map (Bv D))).dep+1<=70;exact om,LZ (V7 fun t ht=>(Nr h t ht).2)⟩
theorem Ud (h:D<=16){k:Int}:DG 70 (Bd D ac k).1:=fun t ht=>⟨Bu (Wg D ac k t ht) om,Vx D ac k t ht⟩
theorem SF {q:Addr}{p:Nat}{k:Int}(h:IB S H q z (CQ D ac) (CG ((es.take n).map (Bv D)) p) (Bd D ac k))(hD:D<=16)(hl:es.length<=38):Nd S H 70 q z (CQ D ac) (CG ((es.take n).map (Bv D)) p) (Bd D ac k):=
 ⟨h,Wo hD,Sj hD (by rw[Cc];exact om),Ud hD⟩
theorem ij.kD {t u:TE}{a b:Bool}(h:ij t σ H (.bl a))(h2:ij u σ H (.bl b)):ij (Uq t u) σ H (.bl (a && b)):=fun Q q=>h _ ⟨a,U,by
 cases a with
 | true=>exact AC (h2 Q q)
 | false=>exact AK q⟩
theorem ij.var (h:σ[i]? = some (some v)):ij (Eh i) σ H v:=fun _ q=>⟨v,h,q⟩
theorem ij.eq {t u:TE}{x:V}(h:ij t σ H x)(h2:ij u σ H y)(hs:QY x y=true):ij (Im RN t u) σ H (.bl (decide (x=y))):=fun _ q=>h _ (h2 _ ⟨hs,q⟩)
theorem ij.ifv {c:TT}{t u:TE}{b:Bool}(h:MJ c σ H b)(h1:b=true->ij t σ H v)(h2:b=false->ij u σ H v):ij (RS c t u) σ H v:=fun Q q=>h _ (by
 cases b with
 | true=>exact AC (h1 rfl Q q)
 | false=>exact AK (h2 rfl Q q))
theorem ij.chain {tb tc:TE}{i j k:Int}{p p':Int->Int->Bool}(h1:ij ta σ H (.int i))(h2:ij tb σ H (.int j))(h3:ij tc σ H (.int k)):ij (S6 (E7 fun a b=>.bl (p a b)) (E7 fun a b=>.bl (p' a b)) ta tb tc) σ H (.bl (p i j && p' j k)):=by
 intro Q q;refine h1 _ (h2 _ ⟨i,j,U,U,Aa U ?_⟩);cases e:p i j with
 | true=>rw[e] at q;exact AC (h3 _ ⟨j,k,U,U,q⟩)
 | false=>rw[e] at q;exact AK q
theorem ij.tells {t:TE}{b:Bool}(h:ij t σ H (.bl b)):MJ (tB t) σ H b:=fun _ q=>h _ ⟨b,U,q⟩
theorem eY {rest:TS}{D:DE}(h:ij te σ H v)(k:g v σ H (rest D)):GA (HY te g) rest D σ H:=h _ k
section
variable {C cH cL cF:Addr}
structure kg (K:W.Frag)(mg:gj)(S:Sl)(f b:Addr)(D:Nat)(es:List En)(us:List V)(n:Nat)(H:Hp):Prop where
 sl:gx K mg AU S H f
 jC:iJ S H n
 bk:jm S H D b es us
theorem kg.go {m k:Nat}(h:kg K mg S f b D es us n H)(g:Gr S m H H')(hk:m+k<=n):kg K mg S f b D es us k H':=⟨h.sl.up g.gn,h.jC.go g.gn hk,h.bk.up g⟩
structure DR (K:W.Frag)(mg:gj)(C cC:Addr):Prop where
 cl:jk K C
 mgB:mg "Claim" = some (.ref cC)
 fo:W.findIn K (.ref C) "__class__" = some (some (.builtin "object.__class__"))
 sp:W.specialIn K (.builtin "object.__class__") "__get__" = some (some (.builtin "getset_descriptor.__get__"))
 tk:W.takesIn K (.builtin "object.__class__")=some true
 mo:W.mroIn K C (.type "object")=some true
 kB:W.kitOne K (.ref C) (.ref cC)=some true
theorem kf.isc {p k:Int}(h:kf cH cL H x lk p k z D)(IH:DR K mg cH cC)(IL:DR K mg cL cC):∃ t,D6 K H (.ref x) t/\W.kitOne K t (.ref cC)=some true:=by
 cases lk with
 | false=>
  obtain⟨dx,hx⟩:=(show jF cH H x p k z D from h)
  exact⟨_,.ins hx IH.cl IH.fo IH.sp IH.tk IH.mo,IH.kB⟩
 | true=>
  obtain⟨dx,hx⟩:=(show jD cL H x p k D from h)
  exact⟨_,.ins hx IL.cl IL.fo IL.sp IL.tk IL.mo,IL.kB⟩
noncomputable abbrev MN:List Str:=[Bo,BB,EE,BO,EN]
noncomputable abbrev nO:List Str:=[Bo,BB,EE,BO,EN,Ep,Fh,Em,DA,"_law_deep","_law_there","_law_said","_law_lacks","_law_asked",KQ,"_law_named","_law_claim","_law_head","_law_found","_law_due","_law_follower"]
theorem scO:AA nO MN (Ah CF):=AD
theorem Xz (S:Sl)(hr:ic 59 (A.deeper (PyProof.Rows.envOfC Ds (Ah CF) s.heap.objs.size f0 ad)))(TF:Ga K mg cF)(MF:∃ fI,Mk K cF fI)(kW:AF P w K mg base cF 3 Cj [Ak,Ag] (Oa K mg cF))(kT:AF P w K mg base cF 23 Jm [Ak,AI,Br,Bt] (NC K mg cF))(kO:AF P w K mg base cF 24 HZ [Ak,J2,Bt] (MQ K mg cF cH cL S 70))(IH:DR K mg cH cC)(IL:DR K mg cL cC)(mi:mg DY=none)(mb:mg "bool" = none) :
 ∃ t,i0 (BU Bh P w K mg base nO Ds (Ah CF) f0 ad A outer s H0 E).jN ((By CF).drop 18) t/\
  ∀ (f x:Addr) (th:Tm) (vh v:V) (size:Nat) (place key:Int) (wx:Str) (deep:Nat) (lk:Bool) (kp:GV) (H:Hp) (o1 o2 o3 o4 o6 o7 o8 o9 o10 o11 o12 o13 o15:Option V) (d:Bool),gx K mg AU S H f->iJ S H 300->kf cH cL H x lk place key wx deep->AE S H th vh->Gd .nd 70 th->Jd S H 70 v kp->deep<=20->0<size->size<=38->d=jB kp lk size place th key wx deep->(∀ H',Gr S 300 H H'->Q (.bl true) H')->
   t { nx:=fun _ H'=>Q .non H',rt:=Q } [some (.ref f),o1,o2,o3,o4,some (.int size),o6,o7,o8,o9,o10,o11,o12,o13,some v,o15,some (.ref x),some vh,some (.bl (jB kp lk size place th key wx deep)),some (.bl d),none] H:=by
 have nd:=scO.nd;refine⟨_,Ae (Ax 20 nd (JI MF kW hr.m rfl TF.j6 (Ar (pv 0)))) <|
  Ae (Az (PW.pt (Ge (Dg (Ca (Ct kT (pv 20) TF.cl hr.m (An (pv 5) (pv 17) (Ci CP))))) (Gs (Au Qx (Ct kO (pv 20) TF.cl hr.m (AG (pv 16) (pv 14))) (pv 18))))) BY AB) <|
  Aj (BV (B7 YZ rfl mi CZ (AG (pv 16) (KC (v:=.ref cC) rfl IH.mgB rfl))) (BV (B7 Dp rfl mi CZ (AG (pv 18) (Dn rfl mb QK))) (EF (CL AL (pv 18) (pv 19))))),?_⟩
 intro f x th vh v size place key wx deep lk kp H o1 o2 o3 o4 o6 o7 o8 o9 o10 o11 o12 o13 o15 d hS hc hx ih gh hJ hD hz h38 hd q;subst hd;refine Aa U (fun y dy ny ndy ney=>?_);have gz:Gr S 0 H (Ab (Ab H dy (.own y)) y (.ins cF dy [])):=by
  have g1:Gr S 0 H (Ab H dy (.own y)):=.new hS.told ndy;exact g1.trans (.new g1.gn.gu (by rw[Af ney.symm];exact ny))
 refine⟨S,y,dy,f,U,Ad,hS.up gz.gn,hc.go gz.gn om,fun v1 H1 hy i1 k1=>⟨U,?_⟩⟩;have g1:Gr S 2 H H1:=Gr.made hS.told ny ndy ney k1;obtain⟨dy1,hy1⟩:=id hy;refine Aa U ⟨y,dy1,Aa U ⟨hy1,U,Aa U (Aa U ⟨Dk,fun p2 hp2=>?_⟩)⟩⟩;have g2:Gr S 0 H1 (Ab H1 p2 (.lst [])):=.new g1.gn.gu hp2;have g12:=g1.trans g2;refine⟨S,y,f,vh,v1,p2,size,U,hy.up g2,hS.up g12.gn,hc.go g12.gn om,AO g2.gn i1,Ad,hz,fun H3 k3 hy3=>?_⟩;have g3:Gr S 4 H H3:=⟨(g12.gn.trans k3.gn).up om,fun b o e d=>k3.all b o (g12.all b o e d) (Aq e ny) d⟩
 refine Aa U (AK ?_);obtain⟨dy3,hy4⟩:=id hy3;refine Aa U ⟨y,dy3,Aa U ⟨hy4,U,Aa U (Aa U ?_)⟩⟩;refine⟨y,x,f,size,place,key,wx,deep,th,vh,v,lk,kp,U,hy3,hx.up g3,hS.up g3.gn,hc.go g3.gn om,AO g3.gn ih,gh,hJ.up g3,hD,om,fun H4 g4=>Aa U ⟨U,Aa U ?_⟩⟩;have g34:=g3.trans g4;rw[Be (show V.bl (jB kp lk size place th key wx deep)=V.bl (jB kp lk size place th key wx deep) from rfl)];obtain⟨ty,h1,h2⟩:=(hx.up g34).isc IH IL;refine AK (Aa U ⟨_,ty,cC,true,U,h1,h2,Aa U (AC (Aa U ⟨_,_,_,true,U,.bl _,Dv,Aa U (AC (Aa U (Aa U ⟨U,?_⟩)))⟩))⟩);dsimp only;rw[Be rfl];exact q H4 (g34.up om)
noncomputable def oS (o:Option Str):V:=(o.map V.str).getD .non
theorem dU:decide (oS o = .non)=decide (o=none):=by cases o <;> simp[oS]
theorem bw {x:Str}:decide (oS o = .str x)=decide (o=some x):=by cases o <;> simp[oS]
theorem Ps {i j:Int}:decide (V.int i=V.int j)=decide (i=j):=by rw[decide_eq_decide];simp
theorem cQ (S:Sl)(hr:ic 59 (A.deeper (PyProof.Rows.envOfC Ds (Ah CF) s.heap.objs.size f0 ad)))(TF:Ga K mg cF)(MF:∃ fI,Mk K cF fI)(kW:AF P w K mg base cF 3 Cj [Ak,Ag] (Oa K mg cF))(kT:AF P w K mg base cF 23 Jm [Ak,AI,Br,Bt] (NC K mg cF))(kO:AF P w K mg base cF 24 HZ [Ak,J2,Bt] (MQ K mg cF cH cL S 70))(IH:DR K mg cH cC)(IL:DR K mg cL cC)(mi:mg DY=none)(mb:mg "bool" = none)
 (j7:hU P w K mg base 21 Hh [Bo,EE,Em,DA,Ep,BO] (Lb K mg)) :
 ∃ t,i0 (BU Bh P w K mg base nO Ds (Ah CF) f0 ad A outer s H0 E).jN ((By CF).drop 15) t/\
  ∀ (f b x:Addr) (D:Nat) (es:List En) (us:List V) (vh v:V) (size held:Nat) (place key named:Int) (wx:Str) (deep:Nat) (lk:Bool) (th:Option Str) (kp:GV) (H:Hp) (o1 o4 o13:Option V),kg K mg S f b D es us 7500 H->(∀ e∈es,Er D e)->D<=16->es.length<=38->kf cH cL H x lk place named wx deep->AE S H (FA D (es.take held)) vh->Jd S H 70 v kp->deep<=20->0<size->size<=es.length->held<=es.length->Of key D->(Of named D->named=key)->(∀ e,0<=place->place<(size:Int)->es[place.toNat]? = some e->th=DF e.2.1 key)->(∀ H',Gr S 7500 H H'->Q (.bl true) H')->
   t { nx:=fun _ H'=>Q .non H',rt:=Q } [some (.ref f),o1,some (.ref b),some (.int (D:Int)),o4,some (.int (size:Int)),some (.int (held:Int)),some (.int place),some (.int key),some (.int (deep:Int)),some (oS th),some (.str wx),some (.bl lk),o13,some v,some (.int named),some (.ref x),some vh,some (.bl (jB kp lk size place (FA D (es.take held)) named wx deep)),none,none] H:=by
 have nd:=scO.nd;have hun:=hr.un;obtain⟨tr,htr,hrest⟩:=Xz (P:=P) (w:=w) (base:=base) (outer:=outer) (H0:=H0) (E:=E) (Q:=Q) S hr TF MF kW kT kO IH IL mi mb;refine⟨_,Ae (Ax 19 nd (BV (CL AL (pv 6) (pv 5)) (BV (VN QM Dj Ac (pv 7) (pv 5)) (BV (CL AL (pv 9) (pv 3)) (EF (CL AL (pv 15) (pv 8))))))) <|
  Ae (Az (Ca (pv 19)) (Ba (Ax 19 nd (F7 (Ca (pv 12)) (CL GS (pv 10) Db) (CL AL (pv 10) (pv 11))))) AB) <|
  Ae (Az (Ca (pv 19)) (Ba (Ax 19 nd (CL PQ (pv 14) (Ai j7 hr.m (BR (pv 0) (BR (pv 2) (BH (pv 7) (pv 8) (pv 5) (pv 3)))))))) AB) <|
  htr,?_⟩
 intro f b x D es us vh v size held place key named wx deep lk th kp H o1 o4 o13 h oks D16 l38 hx ih hJ hD hz hsz hhd hk hnk hth q;have gh:=Wi D16 (es:=es.take held) (by rw[Cc];exact om);have hj:=cO oks hhd (kp:=kp) (lk:=lk) (size:=(size:Int)) (place:=place) (key:=named) (wx:=wx) (deep:=deep);generalize hfb:jB kp lk size place (FA D (es.take held)) named wx deep=fb at hj ⊢;have fin:∀ (H1:Hp) (d:Bool),Gr S 7000 H H1->d=fb->tr { nx:=fun _ H'=>Q .non H',rt:=Q } [some (.ref f),o1,some (.ref b),some (.int (D:Int)),o4,some (.int (size:Int)),some (.int (held:Int)),some (.int place),some (.int key),some (.int (deep:Int)),some (oS th),some (.str wx),some (.bl lk),o13,some v,some (.int named),some (.ref x),some vh,some (.bl fb),some (.bl d),none] H1:=fun H1 d g1 hd=>by
  rw[<- hfb];exact hrest f x _ vh v size place named wx deep lk kp H1 _ _ _ _ _ _ _ _ _ _ _ _ _ d (h.sl.up g1.gn) (h.jC.go g1.gn om) (hx.up g1) (AO g1.gn ih) gh (hJ.up g1) hD hz om (by rw[hd,hfb]) fun H' g=>q H' ((g1.trans g).up om)
 have r0:Gr S 7000 H H:=(Gr.refl h.sl.told).up om;refine eY (v:=.bl (decide (held=size) && ((decide (0<=place) && decide (place<(size:Int))) && (decide (deep=D) && decide (named=key))))) ?_ ?_
 . have e1:decide (V.int (held:Int)=V.int (size:Int))=decide (held=size):=by rw[Ps,decide_eq_decide];exact om
   have e2:decide (V.int (deep:Int)=V.int (D:Int))=decide (deep=D):=by rw[Ps,decide_eq_decide];exact om
   rw[<- e1,<- e2,<- Ps (i:=named)];exact ij.kD (.eq (.var rfl) (.var rfl) rfl) (.kD (.chain (fun _ q=>q) (.var rfl) (.var rfl)) (.kD (.eq (.var rfl) (.var rfl) rfl) (.eq (.var rfl) (.var rfl) rfl)))
 dsimp only[AZ];generalize hb1:(decide (held=size) && ((decide (0<=place) && decide (place<(size:Int))) && (decide (deep=D) && decide (named=key))))=b1;cases b1 with
 | false=>
  refine QP (ij.tells (b:=false) (.var rfl)) rfl (QP (ij.tells (b:=false) (.var rfl)) rfl (fin H false r0 ?_));cases fb with
  | false=>rfl
  | true=>
   obtain⟨a1,a2,a3,a4,a5,_⟩:=hj.mp rfl;rw[Be (show held=size by exact om),Be a2,Be a3,Be a4,Be (hnk a5)] at hb1;exact absurd hb1 (by decide)
 | true=>
 simp only[Gc,decide_eq_true_eq] at hb1;obtain⟨rfl,⟨p0,p1⟩,rfl,rfl⟩:=hb1;obtain⟨p,rfl⟩:∃ p:Nat,place=(p:Int):=⟨place.toNat,om⟩
 have hp:p<es.length:=by exact om
 have ee:es[p]? = some es[p]:=Bc hp;have eth:=hth es[p] p0 p1 (by rw[show((p:Nat):Int).toNat=p by exact om];exact ee);have hj:fb=true↔DF es[p].2.1 named=(if lk=true then none else some wx)/\Rq kp es[p].1 (CQ deep es[p].2.2) (CG ((es.take held).map (Bv deep)) p) (Bd deep es[p].2.2 named)=true:=by
  rw[hj]
  constructor
  . rintro⟨_,_,_,_,_,e,a1,a2,a3⟩;rw[show((p:Nat):Int).toNat=p by exact om,ee] at a1;cases a1
    rw[show((p:Nat):Int).toNat=p by exact om] at a3;exact⟨a2,a3⟩
  . rintro⟨a2,a3⟩;exact⟨U,p0,p1,U,hk,_,by rw[show((p:Nat):Int).toNat=p by exact om];exact ee,a2,by rw[show((p:Nat):Int).toNat=p by exact om];exact a3⟩
 refine RC (ij.tells (b:=true) (.var rfl)) rfl ?_;refine(show ij _ _ _ (.bl (decide (th=if lk=true then none else some wx))) from ?_) _ ?_
 . refine ij.ifv (b:=lk) (ij.tells (.var rfl)) (fun e=>?_) (fun e=>?_)
   . subst e;intro Q q;refine Aa U ⟨U,?_⟩;rw[dU];exact q
   . subst e;intro Q q;refine Aa U (Aa U ⟨by cases th <;> rfl,?_⟩);rw[bw];exact q
 dsimp only[AZ];cases hb2:decide (th=if lk=true then none else some wx) with
 | false=>
  refine QP (ij.tells (b:=false) (.var rfl)) rfl (fin H false r0 ?_);cases fb with
  | false=>rfl
  | true=>exact absurd (by rw[eth];exact(hj.mp rfl).1) (B8 hb2)
 | true=>
 have hb3:=Bm hb2;refine RC (ij.tells (b:=true) (.var rfl)) rfl ?_;refine Aa U (Aa U (Aa U (Aa U (Aa U (Aa U (Aa U ⟨S,f,b,deep,es,us,p,held,named,es[p],U,h.sl,h.jC.dn om,h.bk,oks,D16,l38,om,hhd,ee,fun q2 H2 g2 hP=>?_⟩))))));refine⟨73,_,(hJ.up g2).eq (h.sl.up g2.gn).ints (SF hP D16 l38),by show(A.deeper (PyProof.Rows.envOfC Ds (Ah CF) s.heap.objs.size f0 ad)).units+73+1<cLine;exact om,?_⟩;refine fin H2 _ g2 ?_;rw[Cw,hj];exact⟨fun z=>⟨by rw[<- eth];exact hb3,z⟩,fun z=>z.2⟩
end
theorem bV {K:W.Frag}{mg:gj}{b2:Addr}{js:List Nat}{R:Addr->Hp->Prop}(hS:gx K mg AU S H f)(hc:iJ S H 100)(hB:Paired (jy S H D) es us)(hn:n<=es.length)(l38:es.length<=38)(hb:H b2=some (.lst (us.take n)))
 (he:∀ (e:En)(x:V) H' Qb,jy S H' D e x->gx K mg AU S H' f->iJ S H' 1->(∀ v H3,Gr S 1 H' H3->AE S H3 (Bv D e) v->Qb v H3)->te (some x :: CS js σ) H' Qb)
 (hd:∀ DD ys H',Gr S n H H'->H' DD=some (.lst ys)->Bs S H' ((es.take n).map (Bv D)) ys->R DD H') :
 ∀ D,H D=none->∃ W:Nat->Nat->List V->Hp->Prop,(∃ m,W 0 m [] (Ab H D (.lst [])))/\∀ i m ys H,W i m ys H->
  ((Ea K b2).stop i H/\R D H)\/((Ea K b2).go i H/\∀ x H',(Ea K b2).jT i H x H'->if true=true then te (some x :: CS js σ) H' fun y H3=>H3 D=some (.lst ys)/\ys.length<sizeLine/\∃ m',m'<m/\W (i+1) m' (ys++[y]) (Ab H3 D (.lst (ys++[y])))
   else ∃ m',m'<m/\W (i+1) m' ys H'):=by
 have lu:=Bq hB;have ltn:(us.take n).length=n:=by rw[Cc];exact om
 refine OI (K:=K) (xs:=us.take n) (fun DD i ys H'=>Gr S i H H'/\H' DD=some (.lst ys)/\ys.length=i/\Bs S H' ((es.take i).map (Bv D)) ys) (fun DD hD=>⟨.new hS.told hD,Ad,U,.nil⟩) (fun DD i ys H' hD h=>gy.of (h.1.lst hb)) ?_ ?_
 . rintro DD i x ys H2 Qb hD hx ⟨g2,hD2,yl,it⟩ hQ;have hx2:us[i]? = some x:=by
    rw[Po] at hx;split at hx
    . exact hx
    . cases hx
   have hi':=(List.getElem?_eq_some_iff.mp hx2).1;have hi:i<es.length:=by exact om
   have eE:es[i]? = some es[i]:=Bc hi;refine he es[i] x H2 Qb ((NU hB eE hx2).up g2) (hS.up g2.gn) (hc.go g2.gn om) fun v5 H5 g5 i5=>?_;have g25:=g2.trans g5;refine hQ v5 H5 (g5.lst hD2) (by rw[Bf];exact om) ⟨(g25.own hD).up om,Ad,by simp;exact om,?_⟩;have et:es.take (i+1)=es.take i++[es[i]]:=by rw[J9,eE];rfl
   rw[et,Ex];have g6:Gn S 0 H5 (Ab H5 DD (.lst (ys++[v5]))):=Gn.chg g5.gn.gu (g5.lst hD2) rfl (fun _ e=>nomatch e);exact Dy (AQ g6 (AQ g5.gn it)) (.cons (AO g6 i5) .nil)
 . rintro DL ysL H1 hDL ⟨g1,hL,ylL,itL⟩;rw[ltn] at itL g1;exact hd DL ysL H1 g1 hL itL
section
variable {C cH cL cF:Addr}
structure Pg (P:Program)(w:World)(K:W.Frag)(mg:gj)(base:Heap)(cH cL cF cC:Addr):Prop where
 TF:Ga K mg cF
 MF:∃ fI,Mk K cF fI
 kW:AF P w K mg base cF 3 Cj [Ak,Ag] (Oa K mg cF)
 kT:AF P w K mg base cF 23 Jm [Ak,AI,Br,Bt] (NC K mg cF)
 kO:∀ S,AF P w K mg base cF 24 HZ [Ak,J2,Bt] (MQ K mg cF cH cL S 70)
 IH:DR K mg cH cC
 IL:DR K mg cL cC
 TH:Jy K mg cH
 TL:IE K mg cL
 MH:∃ fI,Mk K cH fI
 ML:∃ fI,Mk K cL fI
 Mhi:AF P w K mg base cH 1 Cj [Ak,Aw,AH,Eo,At] (UK cH)
 Mli:AF P w K mg base cL 1 Cj [Ak,Aw,AH,At] (Wl cL)
 h1:∀ S,AF P w K mg base cH 23 B1 DP (KO K mg cH .nd S 70)
 h2:AF P w K mg base cH 23 B1 DP F6
 l1:∀ S,AF P w K mg base cL 23 B1 DP (L7 K mg cL .nd S 70)
 l2:AF P w K mg base cL 23 B1 DP F6
 j7:hU P w K mg base 21 Hh [Bo,EE,Em,DA,Ep,BO] (Lb K mg)
 Flt:hU P w K mg base 11 KJ [Bo,FD] (Lh K mg 9)
 Fl:CV P w K mg base Bh 1 (DK K mg AU)
 mi:mg DY=none
 mb:mg "bool" = none
theorem bb (S:Sl)(hr:ic 59 (A.deeper (PyProof.Rows.envOfC Ds (Ah CF) s.heap.objs.size f0 ad)))(G:Pg P w K mg base cH cL cF cC) :
 ∃ t,i0 (BU Bh P w K mg base nO Ds (Ah CF) f0 ad A outer s H0 E).jN ((By CF).drop 12) t/\
  ∀ (f b:Addr) (D:Nat) (es:List En) (us:List V) (v:V) (size held:Nat) (place key named:Int) (wx:Str) (deep:Nat) (lk:Bool) (th:Option Str) (kp:GV) (H:Hp) (o1 o4 o13:Option V),kg K mg S f b D es us 7900 H->(∀ e∈es,Er D e)->D<=16->es.length<=38->Jd S H 70 v kp->deep<=20->0<size->size<=es.length->held<=es.length->Of key D->(Of named D->named=key)->(∀ e,0<=place->place<(size:Int)->es[place.toNat]? = some e->th=DF e.2.1 key)->(∀ H',Gr S 7900 H H'->Q (.bl true) H')->
   t { nx:=fun _ H'=>Q .non H',rt:=Q } [some (.ref f),o1,some (.ref b),some (.int (D:Int)),o4,some (.int (size:Int)),some (.int (held:Int)),some (.int place),some (.int key),some (.int (deep:Int)),some (oS th),some (.str wx),some (.bl lk),o13,some v,some (.int named),none,none,none,none,none] H:=by
 have nd:=scO.nd;obtain⟨tr,htr,hrest⟩:=cQ (P:=P) (w:=w) (base:=base) (outer:=outer) (H0:=H0) (E:=E) (Q:=Q) S hr G.TF G.MF G.kW G.kT (G.kO S) G.IH G.IL G.mi G.mb G.j7;refine' ⟨_,Ae (Ax 16 nd (F7 (Ca (pv 12)) (JI G.ML G.Mli hr.m rfl G.TL.j6 (An (pv 7) (pv 15) (pv 9))) (JI G.MH G.Mhi hr.m rfl G.TH.j6 (BH (pv 7) (pv 15) (pv 11) (pv 9))))) <|
  Ae (Ax 17 nd (C2 (i:=0) G.Fl hr.m BD rfl (Or.inr (Or.inl rfl)) (An AT (pv 6) (Ai G.Flt hr.m (AG (pv 0) (JK (ys:=[Bo]) (js:=[0]) ?ok (EB (Cg C9 (pv 2) Co (Cm (pv 6)))) (fun _ _ _=>Gz) ?he)))))) <|
  Ae (Ax 18 nd (Vk (G.h1 S) G.h2 (G.l1 S) G.l2 (pv 16) G.TH.cl G.TL.cl hr.m (BH (pv 0) (pv 5) (pv 17) (pv 14)))) <|
  htr,?rd⟩
 case ok=>
  refine⟨U,U,U,by decide +kernel,by decide +kernel,U,by decide +kernel,JE (fun p hp=>?_),U,fun i y h=>?_,U⟩
  . simp only[Dc,CW,or_false] at hp;rcases hp with rfl <;> rfl
  . match i,h with
    | 0,h=>simp at h;subst h;exact⟨0,U,U,U,U⟩
    | i+1,h=>simp at h
 case he=>
  exact fun _ _ _=>RI (i:=1) K rfl G.Fl hr.m BD rfl (Or.inr (Or.inl rfl)) (An AT (As (pv 0)) (As (pv 0)))
 case rd=>
 intro f b D es us v size held place key named wx deep lk th kp H o1 o4 o13 h oks D16 l38 hJ hD hz hsz hhd hk hnk hth q;refine EG (fun v' H'=>∃ x,v' = .ref x/\Gr S 0 H H'/\kf cH cL H' x lk place named wx deep) (fun Q' hQ=>?_) ?_
 . have made:∀ (x dx c:Addr) (H1:Hp),H x=none->H dx=none->(∀ b o,Ab (Ab H dx (.own x)) x (.ins c dx []) b=some o->b≠x->H1 b=some o)->Gr S 0 H H1:=fun x dx c H1 nx ndx k1=>
    .ext h.sl.told fun b o e=>k1 b o (by rw[Af (Aq e nx),Af (Aq e ndx)];exact e) (Aq e nx)
   cases lk with
   | true=>
    exact Aa U (Aa U (AC (Aa U (Aa U (Aa U (fun x dx nx ndx nex=>⟨x,dx,place,named,deep,U,Ad,fun H1 hx k1=>⟨U,hQ _ _ ⟨x,U,made x dx _ H1 nx ndx k1,hx⟩⟩⟩))))))
   | false=>
    exact Aa U (Aa U (AK (Aa U (Aa U (Aa U (Aa U (fun x dx nx ndx nex=>⟨x,dx,place,named,wx,deep,U,Ad,fun H1 hx k1=>⟨U,hQ _ _ ⟨x,U,made x dx _ H1 nx ndx k1,hx⟩⟩⟩)))))))
 rintro _ H1 ⟨x,rfl,g1,hx⟩;dsimp only[AZ];have h1:=h.go (k:=7900) g1 om;have hb1:=h1.bk;refine⟨f,U,h1.sl.iK,Aa U (Aa U (Aa U (Aa U (Aa U ⟨b,us,U,gy.of hb1.1,fun b2 nb2=>⟨b2,U,⟨_,gy.of Ad⟩,?_⟩⟩))))⟩;have g2:Gr S 0 H1 (Ab H1 b2 (.lst (B2 us none (some (held:Int))))):=.new h1.sl.told nb2;have l2:Ab H1 b2 (.lst (B2 us none (some (held:Int)))) b2=some (.lst (us.take held)):=by rw[Ad,show B2 us none (some (held:Int))=us.take held from EO]
 generalize Ab H1 b2 (.lst (B2 us none (some (held:Int))))=H2 at g2 l2 ⊢;have h2:=h1.go (k:=7900) g2 om;refine bV h2.sl (h2.jC.dn om) h2.bk.2 hhd l38 l2 (fun e x' H' Qb hx' hS' hc' hq=>?_) fun DL ys H3 g3 hL it3=>?_
 . obtain⟨p,d,u,rfl,hp,hd,iu⟩:=hx';exact⟨f,U,hS'.iK,Aa U ⟨p,_,Aa U ⟨U,hp,U,Aa U ⟨p,_,Aa U ⟨U,hp,U,hS'.iK,S,_,.str e.1,CQ D e.2.2,_,_,hS',hc',U,U,iu,hq⟩⟩⟩⟩⟩
 have h3:=h2.go (k:=7800) g3 om;have lt:((es.take held).map (Bv D)).length=held:=by rw[AS,Cc];exact om
 have cl:=bc ((es.take held).map (Bv D));refine⟨S,f,DL,ys,Aa U ⟨h3.sl,gy.of hL,it3,by rw[lt];exact om,h3.jC.dn om,fun v4 H4 g4 i4=>?_⟩⟩;have h4:=h3.go (k:=7700) g4 om;have ei:(held:Int)=((es.take held).length:Int):=by rw[Cc,HW hhd]
 refine⟨h4.sl.iK,S,_,.int (held:Int),DC ((es.take held).map (Bv D)),_,_,h4.sl,h4.jC.dn om,U,U,i4,fun vh H5 g5 i5=>?_⟩;have h5:=h4.go (k:=7600) g5 om;have g15:=((g2.trans g3).trans g4).trans g5;have g05:=g1.trans g15;have i5:AE S H5 (FA D (es.take held)) vh:=by
  show AE S H5 (.nd Di (.int ((es.take held).length:Int)) (DC ((es.take held).map (Bv D)))) vh;rw[<- ei];exact i5
 have gh:=Wi D16 (es:=es.take held) (by rw[Cc];exact om);dsimp only[AZ];refine j4 (fun R r=>Aa U r) (fun R r=>Aa U (Aa U (Aa U (Aa U r)))) (hx.up g15) h5.sl (h5.jC.dn om) i5 gh (hJ.up g05) hD om fun H6 g6=>?_;dsimp only[AZ];have g06:=g05.trans g6;have g16:=g15.trans g6;exact hrest f b x D es us vh v size held place key named wx deep lk th kp H6 _ _ _ (h5.go g6 om) oks D16 l38 (hx.up g16) (AO g6.gn i5) (hJ.up g06) hD hz hsz hhd hk hnk hth fun H' g=>q H' ((g06.trans g).up om)
end
section
variable {C cH cL cF:Addr}
structure Pd (P:Program)(w:World)(K:W.Frag)(mg:gj)(base:Heap):Prop where
 Fd:hU P w K mg base 1 Eu [BB,Cz,Ed] HQ
 Fwd:hU P w K mg base 2 IW [BB] OD
 Fbe:hU P w K mg base 3 Nb [Bo,KQ,BB] (TY K mg)
 ml:mg B0=none
 mm:mg "min" = none
 mx:mg "max" = none
theorem V2 {pl:Int}(h:0<n):∃ i:Nat,i<n/\(if (if (n:Int) - 1<pl then(n:Int) - 1 else pl) > 0 then(if (n:Int) - 1<pl then(n:Int) - 1 else pl) else 0)=(i:Int)/\(0<=pl->pl<(n:Int)->i=pl.toNat):=by
 by_cases h1:(n:Int) - 1<pl
 . rw[if_pos h1];by_cases h2:(n:Int) - 1 > 0
   . rw[if_pos h2];exact⟨n - 1,om,om,om⟩
   . rw[if_neg h2];exact⟨0,om,U,om⟩
 . rw[if_neg h1];by_cases h2:pl > 0
   . rw[if_pos h2];exact⟨pl.toNat,om,om,om⟩
   . rw[if_neg h2];exact⟨0,om,U,om⟩
theorem Yt {p:Nat}(h:ts.length=n)(hp:p<n)(hn:n<=38):(CG ts p).length<=1000:=by
 have z:=(Gb.path_turns AM AJ n ts p h hp).1;have y:=Gb.turns_len 40 n p (Bu hn (by decide));have z:(CG ts p).length=(Gb.turnsT n p).length:=z;exact om
theorem ZB (S:Sl)(hr:ic 59 (A.deeper (PyProof.Rows.envOfC Ds (Ah CF) s.heap.objs.size f0 ad)))(G:Pg P w K mg base cH cL cF cC)(Z:Pd P w K mg base) :
 ∃ t,i0 (BU Bh P w K mg base nO Ds (Ah CF) f0 ad A outer s H0 E).jN ((By CF).drop 9) t/\
  ∀ (f b aN:Addr) (c:Int) (D:Nat) (es:List En) (us:List V) (ks:List Int) (size held:Nat) (place key:Int) (wx:Str) (deep:Nat) (lk:Bool) (th:Option Str) (H:Hp),kg K mg S f b D es us 15000 H->(∀ e∈es,Er D e)->D<=16->es.length<=38->H aN=some (.lst (ks.map V.int))->0<ks.length->deep<=20->0<size->size<=es.length->held<=es.length->Of key D->(∀ e,0<=place->place<(size:Int)->es[place.toNat]? = some e->th=DF e.2.1 key)->(∀ H',Gr S 15000 H H'->Q (.bl true) H')->
   t { nx:=fun _ H'=>Q .non H',rt:=Q } [some (.ref f),some (.int c),some (.ref b),some (.int (D:Int)),some (.ref aN),some (.int (size:Int)),some (.int (held:Int)),some (.int place),some (.int key),some (.int (deep:Int)),some (oS th),some (.str wx),some (.bl lk),none,none,none,none,none,none,none,none] H:=by
 have nd:=scO.nd;obtain⟨tr,htr,hrest⟩:=bb (P:=P) (w:=w) (base:=base) (outer:=outer) (H0:=H0) (E:=E) (Q:=Q) S hr G;refine⟨_,Ae (Ax 13 nd (F7 (Au Fg (Ai Z.Fd hr.m (An (pv 1) Ac Ac)) Ac)
  (Bp (AG (B7 (VS rfl) rfl Z.mx PyProof.Rows.boot_max (AG Ac (B7 (Qm rfl) rfl Z.mm OX (AG (pv 7) (Ao CC (pv 5) Ac))))) (pv 8)))
  (Bp (AG (Ai Z.Fd hr.m (An (pv 1) Ac (pv 5))) (Bw BP (pv 4) Ac))))) <|
  Ae (Ax 14 nd (Ai Z.Fbe hr.m (An (pv 0) (Ai G.j7 hr.m (BR (pv 0) (BR (pv 2) (BH (As (pv 13)) (As (pv 13)) (pv 5) (pv 3))))) (pv 1)))) <|
  Ae (Ax 15 nd (Ao CI (pv 8) (Ao ET (Ao Li Ac (pv 3)) (Bw FE (Bp (BR Ac (BR Ac (BR Ac (BH Ac Ac Ac (Op Ou Ac)))))) (Ai Z.Fd hr.m (An (pv 1) Ac Ac)))))) <|
  htr,?_⟩
 intro f b aN c D es us ks size held place key wx deep lk th H h oks D16 l38 hN k0 hD hz hsz hhd hk hth q;refine EG (fun v' H'=>∃ (pA:Addr) (ap:Nat) (ak:Int),v' = .ref pA/\Gr S 0 H H'/\H' pA=some (.tup [.int (ap:Int),.int ak])/\ap<size) (fun Q' hQ=>?_) ?_
 . refine Aa U ⟨c,14,5,U,om,om,fun v1 H1 _ _ x1=>⟨_,Aa U ⟨U,Aa U ?_⟩⟩⟩;have g1:Gr S 0 H H1:=.ext h.sl.told x1;refine AN (fun _=>?_) (fun _=>?_)
   . refine Aa U (Aa U ⟨_,Aa U ⟨U,_,Aa U ⟨_,Aa U ?_⟩⟩⟩);obtain⟨i,hi,ei,_⟩:=V2 (pl:=place) hz;dsimp only;rw[ei];refine Aa U ⟨Cd,fun pA nA=>hQ _ _ ⟨pA,i,key,U,g1.trans (.new g1.gn.gu nA),Ad,hi⟩⟩
   . refine Aa U (Aa U ⟨c,15,Aa U ⟨om,om,fun v2 H2 a2 b2 x2=>?_⟩⟩);have g2:Gr S 0 H H2:=g1.trans (.ext g1.gn.gu x2);obtain⟨i,rfl⟩:∃ i:Nat,v2=(i:Int):=⟨v2.toNat,om⟩
     have e0:(ks.map V.int)[0]? = some (.int ks[0]):=by rw[BG,Bc k0];rfl
     refine Aa U ⟨aN,_,0,Aa U ⟨U,gy.of (g2.lst hN),BK (j:=0) e0,Cd,fun pA nA=>hQ _ _ ⟨pA,i,ks[0],U,g2.trans (.new g2.gn.gu nA),Ad,om⟩⟩⟩
 rintro _ H1 ⟨pA,ap,ak,rfl,g1,hA,hap⟩;dsimp only[AZ];have h1:=h.go (k:=15000) g1 om;have hp:ap<es.length:=by exact om
 have ee:es[ap]? = some es[ap]:=Bc hp;refine Aa U (Aa U (Aa U (Aa U ⟨pA,_,Aa U ⟨U,hA,U,Aa U ⟨pA,_,Aa U ⟨U,hA,U,Aa U (Aa U ⟨S,f,b,D,es,us,ap,size,ak,es[ap],U,h1.sl,h1.jC.dn om,h1.bk,oks,D16,l38,hap,hsz,ee,fun q2 H2 g2 hP=>?_⟩)⟩⟩⟩⟩)));have h2:=h1.go (k:=8000) g2 om;have eo:=oks _ (D3 hp);have lt:((es.take size).map (Bv D)).length=size:=by rw[AS,Cc];exact om
 refine Aa U ⟨S,f,q2,c,_,_,_,Aa U ⟨h2.sl,h2.jC.dn om,hP,Yt lt hap om,Bu (Hv _ _ _) om,eo.z,fun v H3 g3 hB=>?_⟩⟩;have h3:=h2.go (k:=7900) g3 om;obtain⟨kp,hJ⟩:∃ kp,Jd S H3 70 v kp:=by
  rcases ge (B:=70) om hB (Wo D16) (Sj D16 (by rw[Cc];exact om)) (Ud D16) with z | ⟨z',tt,po,os,en,z,z2⟩
  . exact⟨none,z⟩
  . exact⟨some (z',tt,po,os,en),z,Bu z2 (by have:=Hv D es[ap].2.2 ak;exact om)⟩
 dsimp only[AZ];refine Aa U (Aa U ⟨_,Aa U ⟨U,⟨om,om,om⟩,Aa U ⟨Xw,fun pt npt=>?_⟩⟩⟩);have g4:Gr S 0 H3 (Ab H3 pt (.tup [.int 0,.int 0,.int 0,.int 0,.int 0,.int 1,.int (-1)])):=.new h3.sl.told npt;have e4:Ab H3 pt (.tup [.int 0,.int 0,.int 0,.int 0,.int 0,.int 1,.int (-1)]) pt=some (.tup [.int 0,.int 0,.int 0,.int 0,.int 0,.int 1,.int (-1)]):=Ad;refine Aa U ⟨c,1,7,U,om,om,fun v5 H5 a5 b5 x5=>?_⟩;have g5:Gr S 0 H3 H5:=g4.trans (.ext g4.gn.gu x5);obtain⟨tv,et,ht⟩:∃ tv:Int,BF [V.int 0,.int 0,.int 0,.int 0,.int 0,.int 1,.int (-1)] v5=some (.int tv)/\(tv=0\/tv=1\/tv = -1):=by
  obtain rfl | rfl | rfl | rfl | rfl | rfl | rfl:v5=0\/v5=1\/v5=2\/v5=3\/v5=4\/v5=5\/v5=6:=by exact om
  . exact⟨0,U,.inl rfl⟩
  . exact⟨0,U,.inl rfl⟩
  . exact⟨0,U,.inl rfl⟩
  . exact⟨0,U,.inl rfl⟩
  . exact⟨0,U,.inl rfl⟩
  . exact⟨1,U,.inr (.inl rfl)⟩
  . exact⟨-1,U,.inr (.inr rfl)⟩
 refine⟨pt,_,v5,_,U,U,.inl (.inl (x5 _ _ e4)),et,_,_,U,U,.inr (by rcases ht with rfl | rfl | rfl <;> decide),_,_,U,U,?_⟩;dsimp only[AZ];have g15:=((g1.trans g2).trans g3).trans g5;refine hrest f b D es us v size held place key _ wx deep lk th kp H5 _ _ _ (h3.go g5 om) oks D16 l38 (hJ.up g5) hD hz hsz hhd hk (fun hn=>?_) hth fun H' g=>q H' ((g15.trans g).up om);have e2:(1:Int) * 2 ^ ((D:Int)).toNat=2 ^ D:=by rw[Km];rfl
 rw[e2] at hn ⊢;have hn:0<=key+2 ^ D * tv/\key+2 ^ D * tv<2 ^ D:=hn;have hk:0<=key/\key<2 ^ D:=hk;rcases ht with rfl | rfl | rfl <;> exact om
theorem de (S:Sl)(hr:ic 59 (A.deeper (PyProof.Rows.envOfC Ds (Ah CF) s.heap.objs.size f0 ad)))(G:Pg P w K mg base cH cL cF cC)(Z:Pd P w K mg base) :
 ∃ t,i0 (BU Bh P w K mg base nO Ds (Ah CF) f0 ad A outer s H0 E).jN ((By CF).drop 5) t/\
  ∀ (f b aN:Addr) (c:Int) (D:Nat) (es:List En) (us:List V) (ks:List Int) (size held:Nat) (place key:Int) (H:Hp),kg K mg S f b D es us 15000 H->(∀ e∈es,Er D e)->1<=D->D<=16->es.length<=38->H aN=some (.lst (ks.map V.int))->0<ks.length->0<size->size<=es.length->held<=es.length->Of key D->(∀ H',Gr S 15000 H H'->Q (.bl true) H')->
   t { nx:=fun _ H'=>Q .non H',rt:=Q } [some (.ref f),some (.int c),some (.ref b),some (.int (D:Int)),some (.ref aN),some (.int (size:Int)),some (.int (held:Int)),some (.int place),some (.int key),none,none,none,none,none,none,none,none,none,none,none,none] H:=by
 have nd:=scO.nd;have hu:=Hq hr;obtain⟨tr,htr,hrest⟩:=ZB (P:=P) (w:=w) (base:=base) (outer:=outer) (H0:=H0) (E:=E) (Q:=Q) S hr G Z;refine⟨_,Ae (Ax 9 nd (Ao CI (pv 3) (Bw FE (Bp (BR Ac (BR Ac (BH Ac Ac Ac (Op Ou Ac))))) (Ai Z.Fd hr.m (An (pv 1) Ac Ac))))) <|
  Ae (Ax 10 nd (ZN hu (As (Bw BP (pv 2) (B7 (VS rfl) rfl Z.mx PyProof.Rows.boot_max (AG Ac (B7 (Qm rfl) rfl Z.mm OX (AG (pv 7) (Ao CC (pv 5) Ac))))))) (pv 8) ⟨U,U,U,U⟩)) <|
  Ae (Ax 11 nd (F7 (PW.pt (Ge (Au AL (Ai Z.Fd hr.m (An (pv 1) Ac Ac)) Ac) (Gs (Au GS (pv 10) Db)))) (Ai Z.Fwd hr.m (Ar (pv 1))) (pv 10))) <|
  Ae (Ax 12 nd (F7 (Au AL (Ai Z.Fd hr.m (An (pv 1) Ac Ac)) Ac) (CL AL (Ai Z.Fd hr.m (An (pv 1) Ac Ac)) Ac) (CL GS (pv 10) Db))) <|
  htr,?_⟩
 intro f b aN c D es us ks size held place key H h oks D1 D16 l38 hN k0 hz hsz hhd hk q;refine EG (fun v' H'=>∃ deep:Nat,v' = .int (deep:Int)/\Gr S 0 H H'/\deep<=20) (fun Q' hQ=>?_) ?_
 . refine Aa U (Aa U ⟨Wq,fun pt npt=>?_⟩);have g4:Gr S 0 H (Ab H pt (.tup [.int 0,.int 0,.int 0,.int 0,.int 1,.int (-1)])):=.new h.sl.told npt;have e4:Ab H pt (.tup [.int 0,.int 0,.int 0,.int 0,.int 1,.int (-1)]) pt=some (.tup [.int 0,.int 0,.int 0,.int 0,.int 1,.int (-1)]):=Ad;refine Aa U ⟨c,10,6,U,om,om,fun v5 H5 a5 b5 x5=>?_⟩;obtain⟨tv,et,ht⟩:∃ tv:Int,BF [V.int 0,.int 0,.int 0,.int 0,.int 1,.int (-1)] v5=some (.int tv)/\(-1<=tv/\tv<=1):=by
    obtain rfl | rfl | rfl | rfl | rfl | rfl:v5=0\/v5=1\/v5=2\/v5=3\/v5=4\/v5=5:=by exact om
    all_goals exact⟨_,U,om⟩
   refine⟨pt,_,v5,Aa U ⟨U,.inl (.inl (x5 _ _ e4)),et,_,Aa U ⟨U,?_⟩⟩⟩;dsimp only;obtain⟨dp,e⟩:∃ dp:Nat,(D:Int)+tv=(dp:Int):=⟨((D:Int)+tv).toNat,om⟩
   rw[e];exact hQ _ _ ⟨dp,U,g4.trans (.ext g4.gn.gu x5),om⟩
 rintro _ H1 ⟨deep,rfl,g1,hD⟩;dsimp only[AZ];have h1:=h.go (k:=15000) g1 om;obtain⟨i,hi,ei,hpl⟩:=V2 (pl:=place) hz;have hp:i<es.length:=by exact om
 have ee:es[i]? = some es[i]:=Bc hp;obtain⟨v,eu,pt,d,u,rfl,hpt,hd,iu⟩:=Od h1.bk.2 ee;have eo:=oks _ (D3 hp);refine Aa U (Aa U (Aa U ⟨_,Aa U ⟨U,_,Aa U ⟨_,Aa U ?_⟩⟩⟩));dsimp only;rw[ei];refine⟨b,_,_,Aa U ⟨U,gy.of h1.bk.1,BK eu,pt,_,Aa U ⟨U,hpt,U,d,U,.inl ⟨_,.inl hd⟩,Aa U ⟨_,iN.k (k:=.inl key) hd,?_⟩⟩⟩⟩;rw[gc eo.w];dsimp only[AZ];have hth:∀ e,0<=place->place<(size:Int)->es[place.toNat]? = some e->DF es[i].2.1 key=DF e.2.1 key:=fun e a1 a2 a3=>by
  rw[<- hpl a1 a2,ee] at a3;cases a3;rfl
 generalize DF es[i].2.1 key=th at hth;refine EG (fun v' H'=>∃ wx:Str,v' = .str wx/\Gr S 0 H1 H') (fun Q' hQ=>?_) ?_
 . refine Aa U ⟨c,11,5,U,om,om,fun v2 H2 _ _ x2=>⟨U,Aa U ?_⟩⟩;have g2:Gr S 0 H1 H2:=.ext h1.sl.told x2;have wd:∀ σ:St,σ[1]? = some (some (.int c))->Hs OD [] E0 (Cu (Eh 1) D7) σ H2 Q':=fun σ e=>⟨_,e,c,U,fun ys H3 _ _ x3=>hQ _ _ ⟨_,U,g2.trans (.ext g2.gn.gu x3)⟩⟩
   refine AN (fun _=>AC (wd _ rfl)) (fun _=>Aa U ⟨U,Aa U ?_⟩);cases th with
   | none=>exact AC (wd _ rfl)
   | some x=>exact AK ⟨_,U,hQ _ _ ⟨x,U,g2⟩⟩
 rintro _ H2 ⟨wx,rfl,g2⟩;dsimp only[AZ];refine EG (fun v' H'=>∃ lk:Bool,v' = .bl lk/\Gr S 0 H2 H') (fun Q' hQ=>?_) ?_
 . refine Aa U ⟨c,12,4,U,om,om,fun v3 H3 _ _ x3=>⟨U,Aa U ?_⟩⟩;have g3:Gr S 0 H2 H3:=.ext g2.gn.gu x3;refine AN (fun _=>Aa U ⟨c,13,2,U,om,om,fun v4 H4 _ _ x4=>⟨U,hQ _ _ (Aa U (g3.trans (.ext g3.gn.gu x4)))⟩⟩) (fun _=>Aa U ⟨U,hQ _ _ (Aa U g3)⟩)
 rintro _ H3 ⟨lk,rfl,g3⟩;dsimp only[AZ];have g23:=(g1.trans g2).trans g3;exact hrest f b aN c D es us ks size held place key wx deep lk th H3 (h.go g23 om) oks D16 l38 (g23.lst hN) k0 hD hz hsz hhd hk hth fun H' g=>q H' ((g23.trans g).up om)
def Qq (K:W.Frag)(mg:gj):Sp:=fun vs H Q _=>∃ (S:Sl)(f b aN:Addr)(c:Int)(D:Nat)(es:List En)(us:List V)(ks:List Int),vs=[.ref f,.int c,.ref b,.int (D:Int),.ref aN]/\kg K mg S f b D es us 15000 H/\(∀ e∈es,Er D e)/\1<=D/\D<=16/\0<es.length/\es.length<=38/\H aN=some (.lst (ks.map V.int))/\0<ks.length/\(∀ k∈ks,Of k D)/\∀ H',Gr S 15000 H H'->Q (.bl true) H'
theorem ZF (F:gp K mg Ds CF)(G:Pg P w K mg base cH cL cF cC)(Z:Pd P w K mg base):hU P w K mg base 60 Ds MN (Qq K mg):=by
 refine F.ok scO (fun _ _ _ _ _ _=>FJ fun _ _ _ _ _=>rfl) (fun _ _ _ _ h=>Iz h fun _ _ _ _ _ _ _ _ _=>rfl) (fun f0 ad A outer s H vs Q E hr h=>?_);refine Ig h fun S f b aN c D es us ks hZ=>?_;clear h;refine Gw hZ fun eQ h oks D1 D16 l1 l38 hN k0 hks q=>?_;clear hZ;subst eQ;have nd:=scO.nd;obtain⟨tr,htr,hrest⟩:=de (P:=P) (w:=w) (base:=base) (outer:=outer) (H0:=H) (E:=E) (Q:=Q) S hr G Z;refine⟨_,Ae (Ax 5 nd (Ao CI Ac (Ai Z.Fd hr.m (An (pv 1) Ac (AW Z.ml (pv 2)))))) <|
  Ae (Ax 6 nd (F7 (Au AL (Ai Z.Fd hr.m (An (pv 1) Ac Ac)) Ac) (Ao CI Ac (Ai Z.Fd hr.m (An (pv 1) Ac (AW Z.ml (pv 2))))) (pv 5))) <|
  Ae (Ax 7 nd (F7 (Au AL (Ai Z.Fd hr.m (An (pv 1) Ac Ac)) Ac) (Ai Z.Fd hr.m (An (pv 1) Ac (Ao CI (pv 5) Ac))) (Ai Z.Fd hr.m (An (pv 1) Ac (pv 5))))) <|
  Ae (Az (Au AL (Ai Z.Fd hr.m (An (pv 1) Ac Ac)) Ac) (Ba (Ax 7 nd (Bw FE (Bp (AG (Op Ou Ac) (Ao CC Ac (pv 5)))) (Ai Z.Fd hr.m (An (pv 1) Ac Ac))))) AB) <|
  Ae (Ax 8 nd (Ao UI (Bw BP (pv 4) (Ai Z.Fd hr.m (An (pv 1) Ac (AW Z.ml (pv 4))))) (Ai Z.Fd hr.m (An (pv 1) Ac Ac)))) <|
  htr,?_⟩
 have lu:=Bq h.bk.2;have tld:=h.sl.told;refine EG (fun v' H'=>∃ size:Nat,v' = .int (size:Int)/\Gr S 0 H H'/\0<size/\size<=es.length) (fun Q' hQ=>?_) ?_
 . refine Aa U (Aa U ⟨b,us,U,.inl (gy.of h.bk.1),c,0,Aa U ⟨om,om,fun v H1 a1 b1 x1=>⟨_,Aa U ⟨U,?_⟩⟩⟩⟩);dsimp only;rw[show(1:Int)+v=((1+v).toNat:Int) by exact om];exact hQ _ _ (Aa U ⟨.ext tld x1,om,om⟩)
 rintro _ H1 ⟨size,rfl,g1,hz,hsz⟩;dsimp only[AZ];refine EG (fun v' H'=>∃ held:Nat,v' = .int (held:Int)/\Gr S 0 H1 H'/\held<=es.length) (fun Q' hQ=>?_) ?_
 . refine Aa U ⟨c,2,6,U,om,om,fun v H2 _ _ x2=>⟨U,Aa U (AN (fun _=>?_) (fun _=>Aa U (hQ _ _ ⟨size,U,.ext g1.gn.gu x2,hsz⟩)))⟩⟩;have g2:Gr S 0 H1 H2:=.ext g1.gn.gu x2;refine Aa U (Aa U ⟨b,us,U,.inl (gy.of ((g1.trans g2).lst h.bk.1)),c,1,Aa U ⟨om,om,fun v3 H3 a3 b3 x3=>⟨_,Aa U ⟨U,?_⟩⟩⟩⟩);dsimp only;rw[show(1:Int)+v3=((1+v3).toNat:Int) by exact om];exact hQ _ _ (Aa U ⟨g2.trans (.ext g2.gn.gu x3),om⟩)
 rintro _ H2 ⟨held,rfl,g2,hhd⟩;dsimp only[AZ];refine EG (fun v' H'=>∃ place:Int,v' = .int place/\Gr S 0 H2 H') (fun Q' hQ=>?_) ?_
 . refine Aa U ⟨c,4,5,U,om,om,fun v H3 _ _ x3=>⟨U,Aa U ?_⟩⟩;have g3:Gr S 0 H2 H3:=.ext g2.gn.gu x3;refine AN (fun _=>Aa U (Aa U ⟨_,Aa U ⟨U,c,3,Aa U ⟨om,om,fun v4 H4 _ _ x4=>hQ _ _ (Aa U (g3.trans (.ext g3.gn.gu x4)))⟩⟩⟩)) (fun _=>Aa U (Aa U ⟨c,3,Aa U ⟨om,om,fun v4 H4 _ _ x4=>hQ _ _ (Aa U (g3.trans (.ext g3.gn.gu x4)))⟩⟩))
 rintro _ H3 ⟨place0,rfl,g3⟩;dsimp only[AZ];have g13:=(g1.trans g2).trans g3;refine MR (fun σ H'=>∃ place:Int,Gr S 0 H3 H'/\σ=[some (.ref f),some (.int c),some (.ref b),some (.int (D:Int)),some (.ref aN),some (.int (size:Int)),some (.int (held:Int)),some (.int place),none,none,none,none,none,none,none,none,none,none,none,none,none]) (fun D' hD'=>?_) ?_
 . refine Aa U ⟨c,6,9,U,om,om,fun v H4 _ _ x4=>⟨U,Aa U ?_⟩⟩;have g4:Gr S 0 H3 H4:=.ext g3.gn.gu x4;refine AN (fun _=>?_) (fun _=>hD' _ _ ⟨place0,g4,U⟩);refine Aa U (Aa U ⟨_,Aa U ⟨U,Cd,fun pt npt=>?_⟩⟩);have g5:Gr S 0 H4 (Ab H4 pt (.tup [.int (-1),.int (0 - (size:Int))])):=.new g4.gn.gu npt;have e5:Ab H4 pt (.tup [.int (-1),.int (0 - (size:Int))]) pt=some (.tup [.int (-1),.int (0 - (size:Int))]):=Ad;refine Aa U ⟨c,7,2,U,om,om,fun v6 H6 a6 b6 x6=>?_⟩;have g6:=(g4.trans g5).trans (.ext g5.gn.gu x6);obtain⟨tv,et⟩:∃ tv:Int,BF [V.int (-1),.int (0 - (size:Int))] v6=some (.int tv):=by
    obtain rfl | rfl:v6=0\/v6=1:=by exact om
    . exact⟨_,U⟩
    . exact⟨_,U⟩
   exact⟨pt,_,v6,Aa U ⟨U,.inl (.inl (x6 _ _ e5)),et,hD' _ _ ⟨tv,g6,U⟩⟩⟩
 rintro _ H4 ⟨place,g4,rfl⟩;have g14:=g13.trans g4;refine EG (fun v' H'=>∃ key:Int,v' = .int key/\Gr S 0 H4 H'/\Of key D) (fun Q' hQ=>?_) ?_
 . refine Aa U (Aa U (Aa U ⟨aN,Aa U ⟨.inl (gy.of (g14.lst hN)),c,8,Aa U ⟨om,by rw[AS];exact om,fun v1 H5 a1 b1 x5=>?_⟩⟩⟩));have g5:Gr S 0 H4 H5:=.ext g4.gn.gu x5;rw[AS] at b1;have hv:v1.toNat<ks.length:=by exact om
   have ek:BF (ks.map V.int) v1=some (.int ks[v1.toNat]):=by
    have z:BF (ks.map V.int) ((v1.toNat:Nat):Int)=some (.int ks[v1.toNat]):=BK (by rw[BG,Bc hv];rfl);rw[show((v1.toNat:Nat):Int)=v1 by exact om] at z;exact z
   obtain⟨r0,r1⟩:=hks _ (D3 hv);refine⟨aN,_,v1,Aa U ⟨U,gy.of ((g14.trans g5).lst hN),ek,Aa U ⟨c,9,2,U,om,om,fun v2 H6 a2 b2 x6=>⟨_,Aa U ⟨U,hQ _ _ (Aa U ⟨g5.trans (.ext g5.gn.gu x6),?_⟩)⟩⟩⟩⟩⟩;obtain rfl | rfl:v2=0\/v2=1:=by exact om
   . have e0:Builtin.bitXor ks[v1.toNat] 0=ks[v1.toNat]:=by rw[Sf,RD];exact om
     rw[e0];exact⟨r0,r1⟩
   . exact V3 D1 r0 r1
 rintro _ H5 ⟨key,rfl,g5,hk⟩;dsimp only[AZ];have g15:=g14.trans g5;exact hrest f b aN c D es us ks size held place key H5 (h.go g15 om) oks D1 D16 l38 (g15.lst hN) k0 hz hsz hhd hk fun H' g=>q H' ((g15.trans g).up om)
end
def R1 (K:W.Frag)(mg:gj)(Pt:Addr):Sp:=fun vs H Q _=>∃ (a:Addr)(ns:List Int),vs=[.ref a]/\j9 K H a (ns.map V.int)/\ns.length<=63/\H Pt=some (.iZ #[])/\∀ H',Q (.bl true) H'
theorem Yh {X:Cx}{C:Addr}{k:Nat}{ps:List Str}{sp:Sp}{d:V}{m:Str}{o e:Expr}{es:List Expr}{t:TA}{pl:PySem.Sem Bool}(F:ke X.prog X.w X.K X.mg X.base C k m ps sp d)(he:PE X o ta)(c:jk X.K C)(hr:ic k X.A)(ha:PA X (e :: es) t)
 (hst:PySem.starEach (e :: es) X.env=(false,PySem.eval e X.env) :: PySem.starEach es X.env:=by rfl)(hpl:(PySem.backTo pos (PySem.starEach es X.env)).any (·.1)=false:=by rfl)
 (ht:PySem.eval (.Call (.Attribute o m ae) (e :: es) [] pos) X.env=(do
  let ov <- PySem.eval o X.env
  PySem.standAt ae.atName
  let (f,first) <- PySem.holding [ov] (PySem.getMethod ov m pl)
  PySem.callWith pos f first (PySem.backTo pos (PySem.starEach (e :: es) X.env)) (PySem.backToKw pos (PySem.keywordEach [] X.env))):=by rfl):PE X (.Call (.Attribute o m ae) (e :: es) [] pos) (FR C m sp [d] E0 ta t):=by
 obtain⟨f,fd,dv,h1,h2,h3,h4,h5⟩:=F;exact Tq he c h1 h5 hr h3 (.cons h4 .nil) BD ha hst hpl ht
theorem Zv {tb rest:TS}{D:DE}(h:ij te σ H v)(k:GA (Pz (OP (Cu (tC v) D7)) g tb) rest D σ H):GA (Pz (OP (Cu te D7)) g tb) rest D σ H:=h _ k
theorem PM {C:Addr}(h:Ab (Ab H dx (.own x)) x (.ins C dx []) p=none):H p=none:=by
 cases z:H p with
 | none=>rfl
 | some o=>
  by_cases h1:p=x
  . subst h1;rw[Ad] at h;cases h
  . rw[Af h1] at h;by_cases h2:p=dx
    . subst h2;rw[Ad] at h;cases h
    . rw[Af h2,z] at h;cases h
section
variable {C cT cH cL cF:Addr}
noncomputable abbrev nL:List Str:=[CN,Bo,BO,"_law_wide",EN,Lw,EE,Em,"_law_at"]
theorem scL:AA nL [CN] (Ah GN):=AD
theorem dN (hr:ic 99 (A.deeper (PyProof.Rows.envOfC "law" (Ah GN) s.heap.objs.size f0 ad)))(cl:jk K C)(Mp:ke P w K mg base C 22 Bt [Ak,Aw,AH,AI] (QN K mg C cT) .non)(j7:hU P w K mg base 21 Hh [Bo,EE,Em,DA,Ep,BO] (Lb K mg))(Fo:hU P w K mg base 60 Ds MN (Qq K mg))
 (ml:mg B0=none)(mr:mg "range" = none)(mm:mg "min" = none)(q:∀ H',Q (.bl true) H') :
 ∃ t,i0 (BU Bh P w K mg base nL "law" (Ah GN) f0 ad A outer s H0 E).jN ((By GN).drop 6) t/\
  ∀ (S:Sl) (a f x b aN aT aL aB:Addr) (ns ks:List Int) (D:Nat) (wd:Int) (es:List En) (us:List V) (H:Hp),kg K mg S f b D es us 5000000 H->iE C cT S H x f aT aL aB D es->j9 K H a (ns.map V.int)->H aN=some (.lst (ks.map V.int))->ns.length<=63->0<ks.length->(∀ k∈ks,Of k D)->1<=D->D<=16->0<es.length->es.length<=38->
   t { nx:=fun _ H'=>Q .non H',rt:=Q } [some (.ref a),some (.ref f),some (.int (D:Int)),some (.int wd),some (.ref aN),some (.ref x),some (.ref b),none,none] H:=by
 have nd:=scL.nd;have hun:=hr.un;refine⟨_,Ae (Gv PassesOwn.never rfl (WF (Bp (An Ac (Ao Gi (AW ml (pv 6)) Ac) (Ao CC (AW ml (pv 6)) Ac)))) (Fm (i:=7) nd rfl (Or.inl rfl)) <|
  Ba (Az (Au Ry (Yh Mp (pv 5) cl hr.m (AG (pv 7) (Bw BP (pv 4) Ac))) (Ai j7 hr.m (BR (pv 1) (BR (pv 6) (BH (pv 7) (Bw BP (pv 4) Ac) (AW ml (pv 6)) (pv 2)))))) BY AB)) <|
  Ae (Gv PassesOwn.never rfl (Ke rfl mr (Ar (F7 (Au Fg (pv 3) Ac) (B7 (Qm rfl) rfl mm OX (AG (AW ml (pv 0)) Ac)) (AW ml (pv 0))))) (Fm (i:=8) nd rfl (Or.inl rfl)) <|
   Ba (Az (Dg (Ca (Ai Fo hr.m (BR (pv 1) (BH (Ao CI (Bw BP (pv 0) (pv 8)) (Ao ET Ac (pv 8))) (pv 6) (pv 2) (pv 4)))))) BY AB)) <|
  Aj Dx,?_⟩
 intro S a f x b aN aT aL aB ns ks D wd es us H h hK hq hN h63 k0 hks D1 D16 l1 l38;have oks:=hK.ok;have lu:=Bq h.bk.2;have e0:(ks.map V.int)[0]? = some (.int ks[0]):=by rw[BG,Bc k0];rfl
 refine Aa U ⟨b,us,U,.inl (gy.of h.bk.1),_,Aa U ⟨U,⟨by decide,om⟩,Aa U ⟨b,us,U,.inl (gy.of h.bk.1),_,Aa U ⟨U,Eg,fun pT npT=>⟨pT,U,⟨_,jx.of Ad⟩,?_⟩⟩⟩⟩⟩;rw[<- lu];have g1:Gr S 0 H (Ab H pT (.tup [.int 0,.int ((es.length:Int) / 2),.int ((es.length:Int) - 1)])):=.new h.sl.told npT;have hT:Ab H pT (.tup [.int 0,.int ((es.length:Int) / 2),.int ((es.length:Int) - 1)]) pT=some (.tup [.int 0,.int ((es.length:Int) / 2),.int ((es.length:Int) - 1)]):=Ad;generalize Ab H pT (.tup [.int 0,.int ((es.length:Int) / 2),.int ((es.length:Int) - 1)])=H1 at g1 hT ⊢;refine cy (K:=K) (xs:=[.int 0,.int ((es.length:Int) / 2),.int ((es.length:Int) - 1)]) (fun i σ H'=>Gr S (20000 * i) H1 H'/\∃ o7,σ=[some (.ref a),some (.ref f),some (.int (D:Int)),some (.int wd),some (.ref aN),some (.ref x),some (.ref b),o7,none]) ⟨.refl g1.gn.gu,none,U⟩ (fun i σ H' _ h=>jx.of (h.1.same hT)) ?_ ?_
 . rintro i y σ H2 hy ⟨g2,o7,rfl⟩;have hi:i<3:=(List.getElem?_eq_some_iff.mp hy).1;obtain⟨p,rfl,hp⟩:∃ p:Nat,y = .int (p:Int)/\p<es.length:=by
    obtain rfl | rfl | rfl:i=0\/i=1\/i=2:=by exact om
    . cases hy;exact⟨0,U,om⟩
    . cases hy;exact⟨es.length / 2,U,om⟩
    . cases hy;exact⟨es.length - 1,by rw[show((es.length:Int) - 1)=((es.length - 1:Nat):Int) by exact om],om⟩
   dsimp only[AZ];have g12:=g1.trans g2;have h2:=h.go (k:=4900000) g12 om;have K2:=hK.up g12;obtain⟨dx,ob⟩:=K2.ob;have ee:es[p]? = some es[p]:=Bc hp;refine Aa U ⟨x,dx,Aa U ⟨ob,U,Aa U (Aa U ⟨aN,_,0,Aa U ⟨U,gy.of (g12.lst hN),BK (j:=0) e0,?_⟩⟩)⟩⟩;refine⟨S,x,f,aT,aL,aB,D,es,(p:Int),ks[0],.non,U,K2,h2.sl,.inl rfl,om,D16,h2.jC.dn om,fun n e q1 H3 en _ _ ee' g3 P3=>?_,fun hn=>hn es.length rfl ⟨⟨om,om⟩,hks _ (D3 k0)⟩⟩;have en:some es.length=some n:=en;cases en
   rw[show((p:Nat):Int).toNat=p by exact om] at ee' P3;rw[ee] at ee';cases ee'
   have h3:=h2.go (k:=4800000) g3 om;have g13:=g12.trans g3;refine Aa U (Aa U (Aa U (Aa U ⟨aN,_,0,Aa U ⟨U,gy.of (g13.lst hN),BK (j:=0) e0,Aa U ⟨b,us,U,.inl (gy.of h3.bk.1),Aa U ⟨S,f,b,D,es,us,p,us.length,ks[0],es[p],U,h3.sl,h3.jC.dn om,h3.bk,oks,D16,l38,om,om,ee,fun q2 H4 g4 P4=>?_⟩⟩⟩⟩)));rw[<- lu] at P4;have h4:=h3.go (k:=4700000) g4 om;have P3:IB S H4 q1 es[p].1 (CQ D es[p].2.2) (CG ((es.take es.length).map (Bv D)) p) (Bd D es[p].2.2 ks[0]):=by
    obtain⟨u,r,rs,pw,r2,z1,z2,z3,z4,z5⟩:=P3;exact⟨u,r,rs,pw,r2,g4.same z1,AO g4.gn z2,g4.lst z3,AQ g4.gn z4,z5.gr g4⟩
   have due:=SF P4 D16 l38;have kp:jg .nd S H4 70 (.ref q1) es[p].1 (CQ D es[p].2.2) (some (CG ((es.take es.length).map (Bv D)) p)) (Bd D es[p].2.2 ks[0]).1 (Ew (Bd D es[p].2.2 ks[0]).2):=by
    obtain⟨u,r,rs,pw,r2,z1,z2,z3,z4,z5⟩:=P3;exact⟨q1,u,.ref r,.ref pw,U,z1,z2,due.gt,⟨r,rs,U,z3,z4,due.gs⟩,KD z5,due.gw⟩
   refine⟨73,_,kp.eq h4.sl.ints due,by show(A.deeper (PyProof.Rows.envOfC "law" (Ah GN) s.heap.objs.size f0 ad)).units+73+1<cLine;exact om,?_⟩;rw[Be ⟨U,U,U,U,U⟩];refine Aa U (AK ⟨((g2.trans g3).trans g4).up om,_,U⟩)
 rintro σ H2 ⟨g2,o7,rfl⟩;have g12:=g1.trans g2;have h2:=h.go (k:=4000000) g12 (by simp);have hq2:=hq.up g12.gn;have hN2:=g12.lst hN;clear hT g1;obtain⟨m,hm,em⟩:∃ m:Nat,m<=ns.length/\m=(if wd > 4 then min 9 ns.length else ns.length):=⟨_,by split <;> exact om,U⟩
 dsimp only;refine Zv (v:=.int (m:Int)) ?_ ?_
 . refine ij.ifv (b:=decide (wd > 4)) (fun Q q=>Aa U ⟨_,Aa U ⟨U,Aa U q⟩⟩) (fun c Q q=>?_) (fun c Q q=>?_)
   . rw[if_pos (Bm c)] at em;refine Aa U ⟨a,Aa U ⟨.inl hq2.sq,_,Aa U ?_⟩⟩;rw[AS,show(if (9:Int)<(ns.length:Int) then(9:Int) else(ns.length:Int))=((min 9 ns.length:Nat):Int) by split <;> exact om,<- em];exact q
   . rw[if_neg (B8 c)] at em;refine Aa U ⟨a,Aa U ⟨.inl hq2.sq,?_⟩⟩;rw[AS,<- em];exact q
 refine Aa U ⟨om,om,?_⟩;rw[show((m:Nat):Int).toNat=m from rfl];refine QI (n:=m) (fun i σ H'=>Gr S (15000 * i) H2 H'/\∃ o8,σ=[some (.ref a),some (.ref f),some (.int (D:Int)),some (.int wd),some (.ref aN),some (.ref x),some (.ref b),o7,o8]) ⟨.refl g12.gn.gu,none,U⟩ ?_ ?_
 . rintro i σ H3 hi ⟨g3,o8,rfl⟩;have ei:(0:Int)+(i:Int)=(i:Int):=by exact om
   have hin:i<ns.length:=by exact om
   have eat:BF (ns.map V.int) ((i:Nat):Int)=some (.int ns[i]):=BK (by rw[BG,Bc hin];rfl);have h3:=h2.go (k:=15000) g3 om;have hq3:=hq2.up g3.gn;dsimp only[AZ];refine⟨_,U,_,U,_,U,a,_,_,_,U,U,hq3.sq,by rw[ei];exact eat,_,U,_,_,U,U,.inl ⟨by decide,om⟩,_,_,U,U,_,U,_,U,_,U,S,f,b,aN,_,D,es,us,ks,U,h3,oks,D1,D16,l1,l38,g3.lst hN2,k0,hks,fun H4 g4=>⟨_,U,AK ⟨(g3.trans g4).up om,_,U⟩⟩⟩
 rintro σ H3 ⟨g3,o8,rfl⟩;exact q H3
theorem gW (F:gp K mg "law" GN)(TK:DW K mg C)(MK:∃ fI,Mk K C fI)(Mki:ke P w K mg base C 3 Cj [Ak,Ag,At] (So C cT) (.int 8))(Mp:ke P w K mg base C 22 Bt [Ak,Aw,AH,AI] (QN K mg C cT) .non)(j7:hU P w K mg base 21 Hh [Bo,EE,Em,DA,Ep,BO] (Lb K mg))(Fo:hU P w K mg base 60 Ds MN (Qq K mg))
 (Fsb:hU P w K mg base 2 MU [CN] (R5 K mg Pt))(Fc:hU P w K mg base 1 J7 [CN,Cz] (N9 K))(Fd:hU P w K mg base 1 Eu [BB,Cz,Ed] HQ)(Ffi:hU P w K mg base 22 Jo [Bo,Lw,CN,BO,EN] (UR K mg C cT))
 (ml:mg B0=none)(mr:mg "range" = none)(mm:mg "min" = none):hU P w K mg base 100 "law" [CN] (R1 K mg Pt):=by
 refine F.ok scL (fun _ _ _ _ _ _=>CM fun _=>rfl) (fun _ _ _ _ h=>HJ h fun _ _=>rfl) (fun f0 ad A outer s H vs Q E hr h=>?_);refine HD h fun a ns hZ=>G6 hZ fun eQ hq h63 hP q=>?_;clear hZ h;subst eQ;have nd:=scL.nd;obtain⟨tt,htt,rtt⟩:=dN (outer:=outer) (H0:=H) (E:=E) (Q:=Q) hr TK.cl Mp j7 Fo ml mr mm q;refine' ⟨_,Ae (Ax 1 nd (Ai Fsb hr.m (Ar (pv 0)))) <|
  Ae (GY (i:=2) nd rfl (Or.inr rfl) (Ao CI Ac (Ao De (Ai Fc hr.m (AG (pv 0) Ac)) Ac))) <|
  Ae (Ax 3 nd (F7 (Au AL (Ao De (Ai Fc hr.m (AG (pv 0) Ac)) Ac) Ac) Ac Ac)) <|
  Ae (GP (iz:=4) (ys:=[CN,BO]) (js:=[0,2]) ?ok (Ke rfl mr (Ar (pv 3))) (fun _ _ _=>Gz) ?he nd rfl (Or.inl rfl) (Or.inl rfl) rfl) <|
  Ae (Ax 5 nd (JI MK Mki.full hr.m rfl TK.j6 (AG (pv 1) (pv 2)))) <|
  Ae (Ax 6 nd (Ai Ffi hr.m (BR (pv 1) (BH (pv 5) (pv 0) (pv 2) (pv 4))))) <|
  htt,?rd⟩
 case ok=>
  refine⟨U,U,U,by decide +kernel,by decide +kernel,U,by decide +kernel,JE (fun p hp=>?_),U,fun i y h=>?_,U⟩
  . simp only[Dc,CW,or_false] at hp;rcases hp with rfl | rfl <;> rfl
  . match i,h with
    | 0,h=>simp at h;subst h;exact⟨0,U,U,U,U⟩
    | 1,h=>simp at h;subst h;exact⟨2,U,U,U,U⟩
    | i+2,h=>simp at h
 case he=>
  exact fun _ _ _=>Ai Fd hr.m (An (Ao CI (Ai Fc hr.m (AG (pv 1) Ac)) (pv 0)) Ac (Ao Li Ac (pv 2)))
 case rd=>
 refine Aa U ⟨a,ns,U,hq.sq,hP,fun S f H1 hS hc hk1=>?_⟩;have hq1:j9 K H1 a (ns.map V.int):=by
  rcases hq with⟨o,h⟩ | h
  . exact .inl ⟨o,hk1 _ _ h (by rintro rfl;rw[hP] at h;cases h)⟩
  . exact .inr h
 refine Aa U ⟨a,ns,0,U,hq1.sq,om,fun v0=>⟨_,Aa U ⟨U,(by show(0:Int)<16;decide),_,Aa U ⟨U,?_⟩⟩⟩⟩;obtain⟨D,eD,D1,D16⟩:∃ D:Nat,(1:Int)+v0 % 16=(D:Int)/\1<=D/\D<=16:=⟨(1+v0 % 16).toNat,om,om,om⟩
 dsimp only[AZ];rw[eD];have e2D:(1:Int) * 2 ^ ((D:Int)).toNat=2 ^ D:=by rw[Km,Int.toNat_natCast]
 have p2D:(0:Int)<2 ^ D:=by
  have:((2 ^ D:Nat):Int)=(2:Int) ^ D:=by norm_cast
  have h1:=Nu (n:=D);exact om
 refine EG (fun v' H'=>H1=H'/\∃ wd:Nat,v' = .int (wd:Int)/\0<wd/\wd<=40) (fun Q' hQ=>?_) ?_
 . refine Aa U ⟨a,ns,1,U,hq1.sq,om,fun v1=>⟨_,Aa U ⟨U,(by show(0:Int)<5;decide),U,Aa U ?_⟩⟩⟩;exact AN (fun _=>hQ _ _ ⟨U,40,U,om,om⟩) (fun _=>hQ _ _ ⟨U,4,U,om,om⟩)
 rintro _ _ ⟨rfl,wd,rfl,w0,w40⟩;dsimp only[AZ];refine Aa U (Aa U ⟨om,om,?_⟩);rw[show((wd:Nat):Int).toNat=wd from rfl];refine RT (n:=wd) (fun Da i ys H'=>(∀ b o,H1 b=some o->H' b=some o)/\H' Da=some (.lst ys)/\∃ ks:List Int,ys=ks.map V.int/\ks.length=i/\∀ k∈ks,Of k D) (fun Da hD=>⟨fun b o e=>by rw[Af (Aq e hD)];exact e,Ad,[],U,U,by simp⟩) ?_ ?_
 . rintro Da i ys H' Qb hD hi ⟨kp,hDa,ks,rfl,kl,hks⟩ hQ;have hq':j9 K H' a (ns.map V.int):=by
    rcases hq1 with⟨o,h⟩ | h
    . exact .inl ⟨o,kp _ _ h⟩
    . exact .inr h
   refine Aa U ⟨a,ns,1,U,hq'.sq,om,fun v1=>Aa U ⟨_,Aa U ⟨U,Aa U ⟨_,Aa U ⟨U,⟨om,om,om⟩,?_⟩⟩⟩⟩⟩;dsimp only;rw[e2D];refine⟨_,5,Aa U ⟨om,p2D,fun v2 H2 a2 b2 x2=>hQ _ _ (x2 _ _ hDa) (by rw[AS,Bf];exact om) ⟨fun b o e=>?_,Ad,ks++[v2],by rw[Ex];rfl,by rw[Cf,kl];rfl,fun k hk=>?_⟩⟩⟩
   . rw[Af (Aq e hD)];exact x2 _ _ (kp _ _ e)
   . rcases List.mem_append.mp hk with z | z
     . exact hks k z
     . rw[List.mem_singleton.mp z];exact⟨a2,b2⟩
 rintro aN ys H2 nN ⟨k2,hN2,ks,rfl,kl,hks⟩;dsimp only[AZ];have g2:Gr S 0 H1 H2:=.ext hS.told k2;refine Aa U (Aa U (fun x dx nx ndx nex=>⟨S,x,dx,f,D,U,?_,Ad,fun aT aL aB H3 K3 k3 f1 f2 f3=>⟨U,?_⟩⟩))
 . have g1:Gr S 0 H2 (Ab H2 dx (.own x)):=.new g2.gn.gu ndx;exact(g1.trans (.new g1.gn.gu (by rw[Af nex.symm];exact nx))).gn.gu
 have x3:∀ b o,H2 b=some o->H3 b=some o:=fun b o e=>k3 b o (by rw[Af (Aq e nx),Af (Aq e ndx)];exact e) (Aq e nx);have g3:Gr S 0 H2 H3:=.ext g2.gn.gu x3;have e1:=PM f1;have e2:=PM f2;have e3:=PM f3
 have nN3:aN∉[aT,aL,aB]:=fun z=>by
  simp only[Dc,CW,or_false] at z;rcases z with rfl | rfl | rfl
  . rw[hN2] at e1;cases e1
  . rw[hN2] at e2;cases e2
  . rw[hN2] at e3;cases e3
 have g13:=g2.trans g3;have hS3:=hS.up g13.gn;have hq3:=hq1.up g13.gn;have hN3:=x3 _ _ hN2;dsimp only[AZ];refine Aa U (Aa U (Aa U (Aa U (Aa U ⟨S,f,x,a,aN,aT,aL,aB,D,ns,ks,U,hS3,hc.go g13.gn om,K3,hN3,nN3,hq3,om,om,hks,D1,D16,fun b H4 es us L4 K4 B4 l1 l38 nb _=>?_⟩))));dsimp only[AZ];exact rtt S a f x b aN aT aL aB ns ks D (wd:Int) es us H4 ⟨hS3.up L4.gn,(hc.go g13.gn (b:=9000000) om).go L4.gn om,B4⟩ K4 (hq3.up L4.gn) (L4.lst hS3.told hN3 nN3) h63 om hks D1 D16 om l38
end
theorem WW {K:W.Frag}:W.kitOne K (.type "int") (.type "dict")=some false:=by unfold W.kitOne;rw[if_neg (by simp)];kernel_rfl
section
variable {C cT cE cP cG cF cH cL cD:Addr}
theorem Z8 {tf tm:PySem.Tok}(kb:K.In base)(nb:base.Ns mainGlobals mg)(X0:SI K mg base c0 Pt)
 (F_split:gp K mg Jp OA)(F_none:gp K mg G0 MM)(F_leaf:gp K mg JQ Ow)(F_pair:gp K mg Lg Mz)(F_book:gp K mg Jx Oc)(F_top:gp K mg "top_of" NN)(F_path:gp K mg Oj Os)(F_turns:gp K mg Ni OH)(F_risen:gp K mg "risen" LH)(F_ind:gp K mg Ix MV)(F_row:gp K mg K7 N2)(F_fork:gp K mg JN Om)(F_tabs:gp K mg Ku Mo)(F_part:gp K mg JU OF)(F_topp:gp K mg IJ Mg)(F_isk:gp K mg "is_key" NE)(F_rdk:gp K mg Oe Mf)(F_rda:gp K mg N7 Nt)(F_tks:gp K mg OE On)(F_chg:gp K mg MW O7)(F_ckp:gp K mg IA Ny)(F_same:gp K mg GH JT)(F_lst:gp K mg LN NZ)(F_isn:gp K mg NQ NJ)(F_ise:gp K mg Hg JL)(F_isw:gp K mg Hz Lz)(F_ikp:gp K mg FM La)(F_fits:gp K mg N5 LW)(F_topw:gp K mg Nq NV)(F_wst:gp K mg IU LG)(F_cell:gp K mg J7 LX)(F_plain:gp K mg JV Kh)(F_turned:gp K mg KU JM)(F_numbering:gp K mg FK F5)(F_sealby:gp K mg MU MZ)(F_draw:gp K mg Eu GU)(F_word:gp K mg IW GW)(F_lsplit:gp K mg Lk NM)(F_ltop:gp K mg KJ Md)(F_lpath:gp K mg MS MP)(F_lpart:gp K mg Iy N1)(F_ltab:gp K mg Ox NB)(F_lway:gp K mg Iu IG)(F_text:gp K mg JS LB)(F_behind:gp K mg Ob MA)(F_filled:gp K mg Jo HX)(F_lpap:gp K mg Hh Oq)(F_lbt:gp K mg Np ME)(F_bent:gp K mg Nb Oy)(F_one:gp K mg Ds CF)(F_law:gp K mg "law" GN)
 (ml:mg B0=none)(mr:mg "range" = none)(ms:mg "str" = none)(mso:mg "sorted" = none)(mm:mg "min" = none)(mx:mg "max" = none)(mn:mg "int" = none)(ma:mg "all" = none)(me:mg "enumerate" = none)(mli:mg "list" = none)(mt:mg "tuple" = none)(mi:mg DY=none)(mb:mg "bool" = none)(md:mg "dict" = none)(mz:mg "zip" = none)(mre:mg "reversed" = none)
 (fg:mg "FIGURES" = some (.str "0123456789" tf))(mf:mg "MOST_FIGURES" = some (.int 9 tm))(xc:Ei K cP)(hP:mg "BadPaper" = some (.ref cP))(xe:Ei K cE)(hE:mg "NoPlace" = some (.ref cE))
 (TT:Txt K mg cT)(MT:∃ fI,Mk K cT fI)(T_init:KF K cT Cj "Table.__init__" Ja [8])(T_check:gq K cT Jj "Table.check" Jf)(T_put:gq K cT "put" "Table.put" IQ)(T_cut:gq K cT "cut" "Table.cut" Ih)(T_head:gq K cT Br "Table.head" Jn)(T_way:gq K cT Dt "Table.way" JD)(T_twin:gq K cT "twin" "Table.twin" Ir)(T_rows:gq K cT Dl "Table.rows" II)
 (TK:DW K mg C)(MK:∃ fI,Mk K C fI)(K_init:iB K C Cj "Keeper.__init__" IV (.int 8))(K_add:gq K C "add" "Keeper.add" IY)(K_sow:gq K C Nw Wm Js)(K_tb:gq K C KR V1 Jb)(K_text:gq K C Dh "Keeper.text" Jl)(K_th:gq K C O2 "Keeper.table_head" Jh)(K_path:iB K C Ek "Keeper.path" Il .non)(K_way:gq K C Dt "Keeper.way" IZ)(K_paper:iB K C Bt "Keeper.paper" J1 .non)
 (TG:Hl K mg cG)(MG:∃ fI,Mk K cG fI)(G_init:gq K cG Cj "Grows.__init__" J5)(G_judged:gq K cG B1 "Grows.judged" Ji)(G_none:gq K cG Me Ta J3)
 (TF:Ga K mg cF)(MF:∃ fI,Mk K cF fI)(F_finit:gq K cF Cj "Follower.__init__" J8)(F_take:gq K cF Jm "Follower.take" Iq)(F_judge:gq K cF HZ "Follower.judge" HV)
 (TH:Jy K mg cH)(IH:DR K mg cH cC)(MH:∃ fI,Mk K cH fI)(H_init:gq K cH Cj "Holds.__init__" Jz)(H_judged:gq K cH B1 PY Hf)
 (TL:IE K mg cL)(IL:DR K mg cL cD)(ML:∃ fI,Mk K cL fI)(L_init:gq K cL Cj "Lacks.__init__" IC)(L_judged:gq K cL B1 QX Hk):hU P w K mg base 100 "law" [CN] (R1 K mg Pt):=by
 have ec:=IH.mgB.symm.trans IL.mgB;injection ec with ec
 injection ec with ec
 subst ec;have Sl:=Wu (P:=P) (w:=w) (base:=base) (Y5 F_plain) (df F_turned) ml;have Cl:=Xl (P:=P) (w:=w) (base:=base) F_cell ml;have Sp:=Xh (P:=P) (w:=w) (base:=base) F_split;have Lsp:=cb (P:=P) (w:=w) (base:=base) F_lsplit;have No:=gB (P:=P) (w:=w) (base:=base) F_none Sl;have Pa:=bS (P:=P) (w:=w) (base:=base) F_pair Sl;have Bk:=fP (P:=P) (w:=w) (base:=base) F_book Sl;have Lf:=fQ (P:=P) (w:=w) (base:=base) F_leaf Sl;have Tp:=VG F_top Sp No Pa ml;have Lt:=Uh F_ltop Lsp Sl ml;have Lp:=ZL F_lpath Lsp Lt ml 9 om;have Pt':=Z6 F_path Sp Tp ml 9 om;have PaO:=fk (P:=P) (w:=w) (base:=base) F_part;have Ro:=Ya (P:=P) (w:=w) (base:=base) F_row Sl;have Fk:=Yg (P:=P) (w:=w) (base:=base) F_fork Sl;have Ts:=bY (P:=P) (w:=w) (base:=base) F_tabs Sl;have TpP:=eP F_topp No Ro Fk PaO ml;have TpA:hU P w K mg base 19 IJ [Ag,Dl,JC] (IN K mg):=hU.any fun b hb=>(TpP b).mono om;have LpA:hU P w K mg base 19 Iy [Bo,E5,Hx] (IN K mg):=hU.any fun b hb=>(W1 F_lpart Sl ml b om).mono om;have In:=XT (P:=P) (w:=w) (base:=base) F_ind;have Ck:=Zx T_check TT In;have Rs:=aX (P:=P) (w:=w) (base:=base) T_rows TT mso;have Th:=bz T_head TT Ts TpA Rs;have Dr:=Xm (P:=P) (w:=w) (base:=base) F_draw;have Ik:=Yb (P:=P) (w:=w) (base:=base) F_isk fg mf ml ma;have Ra:=ZP F_rda (Y6 F_rdk Ik In mn) ml
 have St:=ej F_tks TT ⟨xe,hE⟩ (gQ T_put TT Ck) (XW T_cut TT Ck);obtain⟨fI,MT⟩:=MT;obtain⟨fI',fdI,hm,FI⟩:=T_init;have e:=MT.init.symm.trans hm.at_;cases e
 have GI:=fO (P:=P) (w:=w) (base:=base) FI TT;have bI:=FI.binds (ps:=[Ak,Ag,At]) fun _ _ _ _ _ _ _ _=>Bx fun _ _ _=>⟨_,U,U⟩
 have Ch:=Zh F_chg TT (Y8 T_twin TT MT GI bI md) Ra St me;have Wy:=bF T_way TT Ck Rs TpA PaO ml;have Ki:=eF K_init TK TT MT GI bI;have Ka:=Xo K_add TK TT Ch Lf Th ml;have Ks:=aq (P:=P) (w:=w) (base:=base) (cT:=cT) K_sow TK ml;have Cp:=bW (P:=P) (w:=w) (base:=base) F_ckp;have Kb:=aY (cT:=cT) K_tb TK Cp ml;have Kx:=cg (cT:=cT) K_text TK Cp ml;have Kt:=fM K_th TK TT Kb Th;have Kp:=aH K_path TK Ks Cp Pt';have Kw:=X4 K_way TK TT Kb Wy;have Kq:=YK K_paper TK Kp.full Kx Kt Kw;have Sm:=Z5 (P:=P) (w:=w) (base:=base) F_same mb;have Ri:=dr F_risen (Zn F_turns Sp) Pa xc hP ml mli mi mz mre VY;have Ls:=eh F_lst Ri Bk Sm xc hP .nd 95;have Tw:=bt F_topw No Ro Fk ml mre;have Ie:=c9 F_ise (aU (P:=P) (w:=w) (base:=base) F_isn mi mn mb) ml mi mt ms;have Nk:=WU F_ikp (ZW F_isw (eL (P:=P) (w:=w) (base:=base) F_ise ml mi mt) ml mi mt mli) ml mi mt ms;have Ws:∀ S,hU P w K mg base 22 IU [Ag,AI,Br,Aw,AH,At,Bt] (L9 K mg .nd S 70):=fun S=>Y3 .nd S 70 om om rfl F_wst (Zg S F_fits In ml) Ts Tw Sm Lf Ls;have Ip:∀ S,hU P w K mg base 4 FM [Cb] (Ol .nd S 70):=fun S=>WT .nd S 70 F_ikp (X7 S F_isw Ie ml mi mt mli) ml mi mt ms;have H1:∀ S,AF P w K mg base cH 23 B1 DP (KO K mg cH .nd S 70):=fun S=>aj .nd S 70 H_judged TH (Ip S) Sm (Ws S);have L1:∀ S,AF P w K mg base cL 23 B1 DP (L7 K mg cL .nd S 70):=fun S=>YE .nd S 70 L_judged TL (Ip S) (Ws S)
 have H2:=ZZ H_judged Nk;have L2:=WB L_judged Nk;have Lpp:=eB F_lpap Sl Lp (WJ F_lway LpA ml) mso;have G:Pg P w K mg base cH cL cF cC:=⟨TF,MF,Xk F_finit TF No Bk,Zs F_take TF TG MG (gX G_init TG) (Xu G_judged TG (fA G_none TG No Bk Sm ml mli mi)),fun S=>X3 S 70 F_judge TF TH.cl TL.cl (H1 S) H2 (L1 S) L2,IH,IL,TH,TL,MH,ML,WO H_init TH,XY L_init TL,H1,H2,L1,L2,Lpp,Lt 9 om,Sl,mi,mb⟩
 have Wd:=cW F_word Dr ml mr;have Z:Pd P w K mg base:=⟨Dr,Wd,cz F_bent Sl Dr (eO F_lbt Sl Dr ml mt) mli,ml,mm,mx⟩
 have Fi:=gG F_filled TK ⟨mi,md,Dv,WW⟩ Cl (d7 F_text (cY F_draw) Dr Wd ml mr ms) (Yx F_behind md) Ka (dZ F_ltab Sl LpA mso) ml mr;exact gW F_law TK MK Ki Kq Lpp (ZF F_one G Z) (YO F_sealby Cl (gO F_numbering kb nb X0) F_plain F_turned) Cl Dr Fi ml mr mm
end
theorem dL {K:W.Frag}{mg:gj}{C:Addr}(X:K.In h)(G:h.Ns mainGlobals mg)(aC:W.nsIn K mainGlobals "Table" = some (some (.ref C)))
 (pg:W.plainGet K C Str.empty=true)(hd:W.hasDictIn K C=true)(po:W.plainOver K C=true)(sa:W.findIn K (.ref C) "__setattr__" = some (some (.builtin "object.__setattr__")))(mk:W.makesIn K C=true)(kc:W.keepIn K (.ref C)=true)
 (n0:W.findIn K (.ref C) "seal" = some none)(n1:W.findIn K (.ref C) "depth" = some none)(n2:W.findIn K (.ref C) "held" = some none)(aI:W.findIn K (.ref C) "__init__" = some (some (.ref fI)))(iI:W.isFn K (.ref fI)=true)
 (M0:KF K C "__init__" "Table.__init__" Ja [8])(M1:gq K C "check" "Table.check" Jf)(M2:gq K C "put" "Table.put" IQ)(M3:gq K C "cut" "Table.cut" Ih)(M4:gq K C "head" "Table.head" Jn)(M5:gq K C "way" "Table.way" JD)(M6:gq K C "twin" "Table.twin" Ir)(M7:gq K C "rows" "Table.rows" II) :
 ∃ C,Txt K mg C/\(∃ fI,Mk K C fI)/\KF K C "__init__" "Table.__init__" Ja [8]/\gq K C "check" "Table.check" Jf/\gq K C "put" "Table.put" IQ/\gq K C "cut" "Table.cut" Ih/\gq K C "head" "Table.head" Jn/\gq K C "way" "Table.way" JD/\gq K C "twin" "Table.twin" Ir/\gq K C "rows" "Table.rows" II:=
 ⟨C,⟨⟨pg,hd,po,sa⟩,n0,n1,n2,E2 X G aC⟩,⟨fI,mk,aI,iI,kc⟩,M0,M1,M2,M3,M4,M5,M6,M7⟩
theorem fj {K:W.Frag}{mg:gj}{C:Addr}(X:K.In h)(G:h.Ns mainGlobals mg)(aC:W.nsIn K mainGlobals "Keeper" = some (some (.ref C)))
 (pg:W.plainGet K C Str.empty=true)(hd:W.hasDictIn K C=true)(po:W.plainOver K C=true)(sa:W.findIn K (.ref C) "__setattr__" = some (some (.builtin "object.__setattr__")))(mk:W.makesIn K C=true)(kc:W.keepIn K (.ref C)=true)
 (n0:W.findIn K (.ref C) "seal" = some none)(n1:W.findIn K (.ref C) "depth" = some none)(n2:W.findIn K (.ref C) "texts" = some none)(n3:W.findIn K (.ref C) "leaves" = some none)(n4:W.findIn K (.ref C) "tables" = some none)(aI:W.findIn K (.ref C) "__init__" = some (some (.ref fI)))(iI:W.isFn K (.ref fI)=true)
 (M0:iB K C "__init__" "Keeper.__init__" IV (.int 8))(M1:gq K C "add" "Keeper.add" IY)(M2:gq K C "size_or_whole" "Keeper.size_or_whole" Js)(M3:gq K C "table_behind" "Keeper.table_behind" Jb)(M4:gq K C "text" "Keeper.text" Jl)(M5:gq K C "table_head" "Keeper.table_head" Jh)(M6:iB K C "path" "Keeper.path" Il .non)(M7:gq K C "way" "Keeper.way" IZ)(M8:iB K C "paper" "Keeper.paper" J1 .non) :
 ∃ C,DW K mg C/\(∃ fI,Mk K C fI)/\iB K C "__init__" "Keeper.__init__" IV (.int 8)/\gq K C "add" "Keeper.add" IY/\gq K C "size_or_whole" "Keeper.size_or_whole" Js/\gq K C "table_behind" "Keeper.table_behind" Jb/\gq K C "text" "Keeper.text" Jl/\gq K C "table_head" "Keeper.table_head" Jh/\iB K C "path" "Keeper.path" Il .non/\gq K C "way" "Keeper.way" IZ/\iB K C "paper" "Keeper.paper" J1 .non:=
 ⟨C,⟨⟨pg,hd,po,sa⟩,n0,n1,n2,n3,n4,E2 X G aC⟩,⟨fI,mk,aI,iI,kc⟩,M0,M1,M2,M3,M4,M5,M6,M7,M8⟩
theorem WL {K:W.Frag}{mg:gj}{C:Addr}(X:K.In h)(G:h.Ns mainGlobals mg)(aC:W.nsIn K mainGlobals "Grows" = some (some (.ref C)))
 (pg:W.plainGet K C Str.empty=true)(hd:W.hasDictIn K C=true)(po:W.plainOver K C=true)(sa:W.findIn K (.ref C) "__setattr__" = some (some (.builtin "object.__setattr__")))(mk:W.makesIn K C=true)(kc:W.keepIn K (.ref C)=true)
 (n0:W.findIn K (.ref C) "old" = some none)(n1:W.findIn K (.ref C) "early" = some none)(aI:W.findIn K (.ref C) "__init__" = some (some (.ref fI)))(iI:W.isFn K (.ref fI)=true)
 (M0:gq K C "__init__" "Grows.__init__" J5)(M1:gq K C "judged" "Grows.judged" Ji)(M2:gq K C "judged_from_none" "Grows.judged_from_none" J3) :
 ∃ C,Hl K mg C/\(∃ fI,Mk K C fI)/\gq K C "__init__" "Grows.__init__" J5/\gq K C "judged" "Grows.judged" Ji/\gq K C "judged_from_none" "Grows.judged_from_none" J3:=
 ⟨C,⟨⟨pg,hd,po,sa⟩,n0,n1,E2 X G aC⟩,⟨fI,mk,aI,iI,kc⟩,M0,M1,M2⟩
theorem aG {K:W.Frag}{mg:gj}{C:Addr}(X:K.In h)(G:h.Ns mainGlobals mg)(aC:W.nsIn K mainGlobals "Follower" = some (some (.ref C)))
 (pg:W.plainGet K C Str.empty=true)(hd:W.hasDictIn K C=true)(po:W.plainOver K C=true)(sa:W.findIn K (.ref C) "__setattr__" = some (some (.builtin "object.__setattr__")))(mk:W.makesIn K C=true)(kc:W.keepIn K (.ref C)=true)
 (n0:W.findIn K (.ref C) "seal" = some none)(n1:W.findIn K (.ref C) "count" = some none)(n2:W.findIn K (.ref C) "latest" = some none)(aI:W.findIn K (.ref C) "__init__" = some (some (.ref fI)))(iI:W.isFn K (.ref fI)=true)
 (M0:gq K C "__init__" "Follower.__init__" J8)(M1:gq K C "take" "Follower.take" Iq)(M2:gq K C "judge" "Follower.judge" HV) :
 ∃ C,Ga K mg C/\(∃ fI,Mk K C fI)/\gq K C "__init__" "Follower.__init__" J8/\gq K C "take" "Follower.take" Iq/\gq K C "judge" "Follower.judge" HV:=
 ⟨C,⟨⟨pg,hd,po,sa⟩,n0,n1,n2,E2 X G aC⟩,⟨fI,mk,aI,iI,kc⟩,M0,M1,M2⟩
theorem Yi {K:W.Frag}{mg:gj}{C:Addr}(X:K.In h)(G:h.Ns mainGlobals mg)(aC:W.nsIn K mainGlobals "Holds" = some (some (.ref C)))
 (pg:W.plainGet K C Str.empty=true)(hd:W.hasDictIn K C=true)(po:W.plainOver K C=true)(sa:W.findIn K (.ref C) "__setattr__" = some (some (.builtin "object.__setattr__")))(mk:W.makesIn K C=true)(kc:W.keepIn K (.ref C)=true)
 (n0:W.findIn K (.ref C) "place" = some none)(n1:W.findIn K (.ref C) "key" = some none)(n2:W.findIn K (.ref C) "wanted" = some none)(n3:W.findIn K (.ref C) "depth" = some none)(aI:W.findIn K (.ref C) "__init__" = some (some (.ref fI)))(iI:W.isFn K (.ref fI)=true)
 {cdB:ClassData}(aB:W.nsIn K mainGlobals "Claim" = some (some (.ref cC))) (lB:K.lookup cC=some ⟨.type "type",dB,.cls cdB,slB⟩)
 (fo:W.findIn K (.ref C) "__class__" = some (some (.builtin "object.__class__")))(sp:W.specialIn K (.builtin "object.__class__") "__get__" = some (some (.builtin "getset_descriptor.__get__")))
 (tk:W.takesIn K (.builtin "object.__class__")=some true)(mo:W.mroIn K C (.type "object")=some true)(kB:W.mroIn K C (.ref cC)=some true)(ne:C≠cC)
 (M0:gq K C "__init__" "Holds.__init__" Jz)(M1:gq K C "judged" "Holds.judged" Hf) :
 ∃ C cC,Jy K mg C/\DR K mg C cC/\(∃ fI,Mk K C fI)/\gq K C "__init__" "Holds.__init__" Jz/\gq K C "judged" "Holds.judged" Hf:=
 ⟨C,cC,⟨⟨pg,hd,po,sa⟩,n0,n1,n2,n3,E2 X G aC⟩,⟨⟨pg,hd,po,sa⟩,E2 X G aB,fo,sp,tk,mo,Wn ne lB kB⟩,⟨fI,mk,aI,iI,kc⟩,M0,M1⟩
theorem Zk {K:W.Frag}{mg:gj}{C:Addr}(X:K.In h)(G:h.Ns mainGlobals mg)(aC:W.nsIn K mainGlobals "Lacks" = some (some (.ref C)))
 (pg:W.plainGet K C Str.empty=true)(hd:W.hasDictIn K C=true)(po:W.plainOver K C=true)(sa:W.findIn K (.ref C) "__setattr__" = some (some (.builtin "object.__setattr__")))(mk:W.makesIn K C=true)(kc:W.keepIn K (.ref C)=true)
 (n0:W.findIn K (.ref C) "place" = some none)(n1:W.findIn K (.ref C) "key" = some none)(n2:W.findIn K (.ref C) "depth" = some none)(aI:W.findIn K (.ref C) "__init__" = some (some (.ref fI)))(iI:W.isFn K (.ref fI)=true)
 {cdB:ClassData}(aB:W.nsIn K mainGlobals "Claim" = some (some (.ref cC))) (lB:K.lookup cC=some ⟨.type "type",dB,.cls cdB,slB⟩)
 (fo:W.findIn K (.ref C) "__class__" = some (some (.builtin "object.__class__")))(sp:W.specialIn K (.builtin "object.__class__") "__get__" = some (some (.builtin "getset_descriptor.__get__")))
 (tk:W.takesIn K (.builtin "object.__class__")=some true)(mo:W.mroIn K C (.type "object")=some true)(kB:W.mroIn K C (.ref cC)=some true)(ne:C≠cC)
 (M0:gq K C "__init__" "Lacks.__init__" IC)(M1:gq K C "judged" "Lacks.judged" Hk) :
 ∃ C cC,IE K mg C/\DR K mg C cC/\(∃ fI,Mk K C fI)/\gq K C "__init__" "Lacks.__init__" IC/\gq K C "judged" "Lacks.judged" Hk:=
 ⟨C,cC,⟨⟨pg,hd,po,sa⟩,n0,n1,n2,E2 X G aC⟩,⟨⟨pg,hd,po,sa⟩,E2 X G aB,fo,sp,tk,mo,Wn ne lB kB⟩,⟨fI,mk,aI,iI,kc⟩,M0,M1⟩
theorem Vy (x:Str){K:W.Frag}{mg:gj}(X:K.In h)(G:h.Ns mainGlobals mg){cP cB N:Addr}{nm q:Str}{bs:List Value}{hdct:Bool}{sn:List Str}{sub:List Value}{ab:Bool}{col:Option Bool}{dd dn1 dn2:Option Addr}{k0 k1 k2 k3 k5:Option Value}{cdB:ClassData}{sn1 sn2:Array (Option Value)}{cn1 cn2:Value}{es1 es2:Array DictEntry}{ep1 ep2:Nat}
 (a1:W.nsIn K mainGlobals x=some (some (.ref cP)))
 (lB:K.lookup cB=some ⟨.type "type",dB,.cls cdB,slB⟩)
 (lk:K.lookup cP=some (excClassObj nm q cP N bs (.ref cB :: HS) hdct sn sub ab col dd k0 k1 k2 k3 k5 "ValueError.__new__"))
 (l1:K.lookup N=some ⟨cn1,dn1,.dict es1 ep1,sn1⟩)(l2:K.lookup cdB.ns=some ⟨cn2,dn2,.dict es2 ep2,sn2⟩)(e1:(es1.toList.all fun e=>match e.key with | .str _ _=>true | _=>false)=true)(e2:(es2.toList.all fun e=>match e.key with | .str _ _=>true | _=>false)=true)
 (b1:W.nsIn K N "__init__" = some none)(b2:W.nsIn K N "__getattribute__" = some none)(b3:W.nsIn K N "__getattr__" = some none)(b4:W.nsIn K N "args" = some none)
 (c1:W.nsIn K cdB.ns "__init__" = some none)(c2:W.nsIn K cdB.ns "__getattribute__" = some none)(c3:W.nsIn K cdB.ns "__getattr__" = some none)(c4:W.nsIn K cdB.ns "args" = some none)
 (ga:W.findIn K (.ref cP) "__getattribute__" = some (some (.builtin "BaseException.__getattribute__")))(gn:W.findIn K (.ref cP) "__getattr__" = some none)
 (fo:W.findIn K (.ref cP) "__class__" = some (some (.builtin "object.__class__")))(sp:W.specialIn K (.builtin "object.__class__") "__get__" = some (some (.builtin "getset_descriptor.__get__")))
 (tk:W.takesIn K (.builtin "object.__class__")=some true)(mo:W.mroIn K cP (.type "object")=some true):∃ cP,Ei K cP/\mg x=some (.ref cP):=
 ⟨cP,aJ lk (jq.q ⟨Tu l1 e1,b1,b2,b3,b4⟩) (Zy lB ⟨Tu l2 e2,c1,c2,c3,c4⟩) (by simp) ga gn fo sp tk mo,E2 X G a1⟩
theorem WS {K:W.Frag}{mg:gj}{tf tm:PySem.Tok}(X:K.In h)(G:h.Ns mainGlobals mg)(mf:W.nsIn K mainGlobals "FIGURES" = some (some (.str "0123456789" tf)))(mm:W.nsIn K mainGlobals "MOST_FIGURES" = some (some (.int 9 tm))):∃ tf tm,mg "FIGURES" = some (.str "0123456789" tf)/\mg "MOST_FIGURES" = some (.int 9 tm):=
 ⟨tf,tm,E2 X G mf,E2 X G mm⟩
end My
namespace PySem.W.Fast
def tw5507266681609059129:=Nat
def tw14647208983313673817:=Nat
def tw18118088839397331218:=Nat
def tw9227389732297969533:=Nat
def tw2850166952267375588:=Nat
def tw1533740339291859924:=Nat
def tw15841377116897338292:=Nat
def tw12731587035887181922:=Nat
def tw3673044626986112268:=Nat
def tw3368227100675934317:=Nat
def tw2955723829890911640:=Nat
def tw6990360735202082672:=Nat
def tw38278973470030405:=Nat
def tw6674462951816013474:=Nat
def tw12050000401765073585:=Nat
def tw3884290331203284364:=Nat
def tw11267957494595500046:=Nat
def tw6928686298627617680:=Nat
def tw6828211412285296991:=Nat
def tw2711724945791118207:=Nat
def tw11600335971211171529:=Nat
def tw11565630670639107325:=Nat
def tw10187033927027447899:=Nat
def tw7016523502968882168:=Nat
def tw9918203712526046719:=Nat
def tw7311697769595435816:=Nat
def tw7271601871283224132:=Nat
def tw17261448271181992850:=Nat
def tw417222693106302979:=Nat
def tw296377582763583932:=Nat
def tw139547578327525977:=Nat
def tw12367615504189231193:=Nat
def tw12963840290323247428:=Nat
def tw16721619619626693410:=Nat
def tw17128832063642912203:=Nat
def tw4603282290532793854:=Nat
def tw14622814375117123812:=Nat
def tw7232532128375419311:=Nat
def tw18058468956110584984:=Nat
def tw4114040379618602526:=Nat
def tw5306327594249033674:=Nat
def tw7874333336940184043:=Nat
def tw14819921670604986558:=Nat
def tw3526219824970046196:=Nat
def tw2213174892717435289:=Nat
def tw3695087911393529262:=Nat
def tw14364860007512323100:=Nat
def tw16367970636356844708:=Nat
def tw4415293492201420961:=Nat
def tw3787327004330079278:=Nat
def tw10484816805007295205:=Nat
def tw13798839599765650627:=Nat
def tw17581458621773257392:=Nat
def tw16290512354363274948:=Nat
def tw6468332120169219518:=Nat
def tw14137786369941745250:=Nat
def tw5634845938959432755:=Nat
def tw8669504945155199144:=Nat
def tw10596266363798988756:=Nat
def tw4416177606072986301:=Nat
def tw11845040675728346541:=Nat
def tw2697617130648431334:=Nat
def tw12864870837334762965:=Nat
def tw3232427272942341194:=Nat
def tw16218134134631499111:=Nat
def tw10358536860515790490:=Nat
def tw16359989767037270049:=Nat
def tw16165784865513562782:=Nat
def tw1890193058355506283:=Nat
def tw3341868802787685929:=Nat
def tw13247620272447557952:=Nat
def tw15163491831813093419:=Nat
def tw2827964626892383868:=Nat
def tw9765068269763098963:=Nat
def tw18295203539741983109:=Nat
def tw15521219970413826042:=Nat
def tw8735933256445373299:=Nat
def tw6583640947424808726:=Nat
def tw15965839934987405689:=Nat
def tw9453132550086725874:=Nat
def tw17445348729458063677:=Nat
def tw13341330420020974761:=Nat
def tw1162890712742016758:=Nat
def tw7234150535050278461:=Nat
def tw7054393985675698360:=Nat
def tw13248405631901553434:=Nat
def tw6212267932931073257:=Nat
def tw14365888570641984908:=Nat
def tw4006704051913513876:=Nat
def tw16784516589005416750:=Nat
def tw6413967501143528900:=Nat
def tw4706340117533333817:=Nat
def tw1887996765008227289:=Nat
def tw227928178645152453:=Nat
def tw16589424261292093321:=Nat
def tw10408043010950572091:=Nat
def tw16579340055735660253:=Nat
def tw8885370784347257816:=Nat
def tw5877410149372381439:=Nat
def tw11384961760807654527:=Nat
def tw12582388096201078391:=Nat
def tw5421671531065804567:=Nat
def tw14876353354129428796:=Nat
def tw12659909775252148710:=Nat
def tw18014927110749874920:=Nat
def tw2401838620295908168:=Nat
def tw8243159251617088450:=Nat
def tw9550961524156477678:=Nat
def tw266761667932409099:=Nat
def tw7485853081018236980:=Nat
def tw7882477764453450491:=Nat
def tw3294235498053314584:=Nat
def tw13713820656632648377:=Nat
def tw3760243433237566872:=Nat
def tw15448722929931045672:=Nat
def tw8573189176362478664:=Nat
def tw3207319726603204952:=Nat
def tw2207154033359646579:=Nat
def tw6282258197318737799:=Nat
def tw9661159411441827270:=Nat
def tw5574955796920576865:=Nat
def tw14755531252616904811:=Nat
def tw14846852143421291422:=Nat
def tw187165134941453652:=Nat
def tw6425688265406826919:=Nat
def tw18360873004569950073:=Nat
def tw15168319102572043247:=Nat
def tw13861812389691022802:=Nat
def tw13220513956327286895:=Nat
def tw9786206372799023115:=Nat
def tw17667714103435845621:=Nat
def tw149066320033177642:=Nat
def tw9570017971478561614:=Nat
def tw4208651572983340610:=Nat
def tw17476981743326615439:=Nat
def tw2124709818386274415:=Nat
def tw3682973874986908107:=Nat
def tw13013169919183041436:=Nat
def tw2535743954190907643:=Nat
def tw3928545304424981835:=Nat
def tw4841921459620365929:=Nat
def tw1164629058164478389:=Nat
def tw18330737974211133065:=Nat
def tw119486318706047358:=Nat
def tw6794897896484795844:=Nat
def tw11445320748763153075:=Nat
def tw6165806221810175823:=Nat
def tw11306348423542325130:=Nat
def tw2898986245643486538:=Nat
def tw3521387261406186871:=Nat
def tw8218183644098431498:=Nat
def tw5563497181987842480:=Nat
def tw15210576603309116959:=Nat
def tw17871707502033209276:=Nat
def tw12874851272105482180:=Nat
def tw13015695574618582000:=Nat
def tw13842570019567416810:=Nat
def tw17723839865081948782:=Nat
def tw17404477294589945930:=Nat
def tw411372605890568714:=Nat
def tw13209333294605458918:=Nat
def tw5516270351632642058:=Nat
def tw2665430253594062244:=Nat
def tw4814270663824199946:=Nat
def tw1815906426279232817:=Nat
def tw10357054781497105205:=Nat
def tw4501527282640677122:=Nat
def tw7313073598556953909:=Nat
def tw3132213229938226917:=Nat
def tw3681249434244030018:=Nat
def tw9938644858474425441:=Nat
def tw4205311138613342269:=Nat
def tw15193702167245539596:=Nat
def tw17979611618202303653:=Nat
def tw11122170652887853793:=Nat
def tw10835709170305408761:=Nat
def tw16872707060605125188:=Nat
def tw17657243703476996781:=Nat
def tw11531147974231043459:=Nat
def tw8792352573797390959:=Nat
def tw9303707149006799110:=Nat
def tw7409179625468747273:=Nat
def tw5101789237140171781:=Nat
def tw5773139015590393031:=Nat
def tw9638102535370653043:=Nat
def tw3455957898215518409:=Nat
def tw1421076049028062620:=Nat
def tw16332918140750313433:=Nat
def tw17497266107843168481:=Nat
def tw7384738269962990009:=Nat
def tw5988039777659380896:=Nat
def tw14151463844144136487:=Nat
def tw12472607624081724572:=Nat
def tw17907761025802060739:=Nat
def tw15445288793879514370:=Nat
def tw6092439379975347812:=Nat
def tw7226277596283428542:=Nat
def tw6364776069748352356:=Nat
def tw2829589391587526340:=Nat
def tw12839500471964327801:=Nat
def tw1616124660759331163:=Nat
def tw9098077452350943986:=Nat
def tw2341439624783558796:=Nat
def tw3937835701852542358:=Nat
def tw6886872052904833097:=Nat
def tw2150034112585546760:=Nat
def tw16961452875524002972:=Nat
def tw14349984369135505890:=Nat
def tw4785565984443072789:=Nat
def tw17022632768549709154:=Nat
def tw1991129399612019004:=Nat
def tw5370650535274587830:=Nat
def tw3812418646661054219:=Nat
def tw11956421338286375976:=Nat
def tw17892412010190436519:=Nat
def tw12219852183736134247:=Nat
def tw10850854610307289393:=Nat
def tw2010974583309964560:=Nat
def tw1526993670457186107:=Nat
def tw3964839903571583209:=Nat
def tw5490489905901293974:=Nat
def tw3716120922638426675:=Nat
def tw16933966380412812563:=Nat
def tw17612060905499627516:=Nat
def tw6154498137833286902:=Nat
def tw13722476248063400326:=Nat
def tw9621134857262063710:=Nat
def tw1559529629897377117:=Nat
def tw14891066865949161828:=Nat
def tw17416630636033190892:=Nat
def tw16330071327982412190:=Nat
def tw5675834553283729485:=Nat
def tw10805182998138422609:=Nat
def tw14308649147568813463:=Nat
def tw17192326380719792833:=Nat
def tw323824433509693523:=Nat
def tw2933798529865233070:=Nat
def tw568532636246184805:=Nat
def tw16752988772742340079:=Nat
def tw12461184775123886636:=Nat
def tw6649195539168813933:=Nat
def tw10994382202013562062:=Nat
def tw18304212515229572145:=Nat
def tw8432875461067261260:=Nat
def tw10959115458199760977:=Nat
def tw15568968485715326764:=Nat
def tw14501611753486321792:=Nat
def tw4516586881361630089:=Nat
def tw7170410735571818629:=Nat
def tw1182622676310538076:=Nat
def tw2012648472270752967:=Nat
def tw13937679710283886409:=Nat
def tw13692652208179202361:=Nat
def tw17306129270860976130:=Nat
def tw14192225794424944266:=Nat
def tw10608092098992862068:=Nat
def tw8617561343909702283:=Nat
def tw13320766301674139936:=Nat
def tw16483853424746904530:=Nat
def tw18164629567280328806:=Nat
def tw3306005386936756140:=Nat
def tw13236931805417540518:=Nat
def tw16121004947097657074:=Nat
def tw16830828898018422821:=Nat
def tw10022979263542752776:=Nat
def tw8750693210284137989:=Nat
def tw7752222562263551046:=Nat
def tw9351187016656193568:=Nat
def tw6113941170424192421:=Nat
def tw5470124738644303148:=Nat
def tw3248832431166756841:=Nat
def tw10376242535055801204:=Nat
def tw8139431428587158891:=Nat
def tw6011354112103434220:=Nat
def tw8343368619788752652:=Nat
def tw529694929878602522:=Nat
def tw6549443792243002121:=Nat
def tw3065090644017617460:=Nat
def tw17022720010050578906:=Nat
def tw1335839364952673353:=Nat
def tw4691294082085642096:=Nat
def tw9392127503624151057:=Nat
def tw4709412225988678760:=Nat
def tw12690465841905979224:=Nat
def tw7772376945832385992:=Nat
def tw2707727997741178581:=Nat
def tw5026155465898681476:=Nat
def tw16143507042185517018:=Nat
def tw11057956950442423462:=Nat
def tw9999657902740689009:=Nat
def tw10643717584598461635:=Nat
def tw5071168484911966769:=Nat
def tw11527057629749230103:=Nat
def tw10703858678646882982:=Nat
def tw923868867127809781:=Nat
def tw1455198216960490924:=Nat
def tw10235895706521095524:=Nat
def tw12151355635003592523:=Nat
def tw7860173258868281755:=Nat
def tw12525184840214275952:=Nat
def tw9277168614894831666:=Nat
def tw12020677033847592566:=Nat
def tw16111615882589406695:=Nat
def tw17111256908521208110:=Nat
def tw14932276565200485694:=Nat
def tw15099150851730308964:=Nat
def tw188200487733419309:=Nat
def tw545253607879127839:=Nat
def tw10110101676545720706:=Nat
def tw3255859822565285607:=Nat
def tw14432339643542934836:=Nat
def tw9104983326054170739:=Nat
def tw8535527848457411789:=Nat
def tw4278059592049578820:=Nat
def tw201746983174564264:=Nat
def tw7426098511012691666:=Nat
def tw5930397859439744750:=Nat
def tw3261946059355941301:=Nat
def tw12065592546822204057:=Nat
def tw16877935756106630056:=Nat
def tw14271093477041102032:=Nat
def tw8383632558753024846:=Nat
def tw16327163018885253579:=Nat
def tw1842914509719911955:=Nat
def tw11652629674629133326:=Nat
def tw16277873960011363087:=Nat
def tw1479644079158558075:=Nat
def tw15191588342644361431:=Nat
def tw18043298281001550535:=Nat
def tw4745153349486658828:=Nat
def tw18262395508039941791:=Nat
def tw11020491606053024685:=Nat
def tw15264819099209773626:=Nat
def tw14667716953834447760:=Nat
def tw12084017854310867313:=Nat
def tw10693502716968959201:=Nat
def tw18440643138614780338:=Nat
def tw7625021466824133126:=Nat
def tw4735850474697183555:=Nat
def tw1507602724626827654:=Nat
def tw3960374346437184099:=Nat
def tw17305330390082193889:=Nat
def tw1571961557158033860:=Nat
def tw14668409130085977474:=Nat
def tw12927589987960454408:=Nat
def tw11171876822358026089:=Nat
def tw18038894414248442369:=Nat
def tw6967496095976740250:=Nat
def tw5006493476380507740:=Nat
def tw4373400990166301367:=Nat
def tw10045021115567353145:=Nat
def tw15407480712625469023:=Nat
def tw13097790398309227091:=Nat
def tw10621868842377979719:=Nat
def tw5250959681370413694:=Nat
def tw3412829548556483236:=Nat
def tw7939115048009653139:=Nat
def tw6938539461848464888:=Nat
def tw5855950325207541424:=Nat
def tw16967550846040292388:=Nat
def tw603717057333206507:=Nat
def tw10619632810239948356:=Nat
def tw10607080388930290534:=Nat
def tw8101510198000665595:=Nat
def tw13392071138889431015:=Nat
def tw7424499417600801818:=Nat
def tw9289604488235238693:=Nat
def tw8934690234480175710:=Nat
def tw8814564697906914082:=Nat
def tw594504371805277593:=Nat
def tw3464478792692157442:=Nat
def tw10576421739689570454:=Nat
def tw15821623030854216424:=Nat
def tw9545810930113400358:=Nat
def tw17726355026045826626:=Nat
def tw9536782740866780121:=Nat
def tw1579488903172013638:=Nat
def tw14510065872770005542:=Nat
def tw17458394603230425596:=Nat
def tw939085069949647542:=Nat
def tw8720115405749034945:=Nat
def tw13344710036480204217:=Nat
def tw4030760871032866075:=Nat
def tw9706962212993942847:=Nat
def tw5778430581048639780:=Nat
def tw4994068454183139901:=Nat
def tw2354590503023865890:=Nat
def tw16426721423438897504:=Nat
def tw4010580623352264696:=Nat
def tw14697276154315184645:=Nat
def tw10084849915534294641:=Nat
def tw13408359991379257850:=Nat
def tw6642303956492705215:=Nat
def tw14616010255610433260:=Nat
def tw13176227976751865838:=Nat
def tw14940493789144887968:=Nat
def tw14167866051947126470:=Nat
def tw7157670308666549010:=Nat
def tw9898107415647129371:=Nat
def tw7570881045058255502:=Nat
def tw1996513450978709204:=Nat
def tw11086861004565685556:=Nat
def tw6971876459929212577:=Nat
def tw9415653419361794844:=Nat
def tw11088906256626074443:=Nat
def tw8524241818788702205:=Nat
def tw794708926932751131:=Nat
def tw9434647763127933373:=Nat
def tw2057804373791180025:=Nat
def tw7613331498406922392:=Nat
def tw7117651663487480041:=Nat
def tw3288872793042443817:=Nat
def tw15144437933775559921:=Nat
def tw1924026973749934039:=Nat
def tw10292671568667090200:=Nat
def tw210690229912497913:=Nat
def tw13544421471685078447:=Nat
def tw1043825570159227647:=Nat
def tw3294997574551688810:=Nat
def tw1084704573722927635:=Nat
def tw882009529968119850:=Nat
def tw1771108458676351075:=Nat
def tw16063715514932047077:=Nat
def tw9298866578804942426:=Nat
def tw7825100535072789601:=Nat
def tw15970551231822072089:=Nat
def tw14344459734145320084:=Nat
def tw336350816178741177:=Nat
def tw2785667012290199755:=Nat
def tw15728051091351878665:=Nat
def tw4624829128202553908:=Nat
def tw2156015662300712565:=Nat
def tw9305234572873151586:=Nat
def tw3912128295023163722:=Nat
def tw3696008423647775812:=Nat
def tw2549625803027529035:=Nat
def tw10107315539200821582:=Nat
def tw5653933954802260517:=Nat
def tw7508185692050064455:=Nat
def tw663437296201684615:=Nat
def tw9289052363653855492:=Nat
def tw8647147742620476317:=Nat
def tw17650488062954931464:=Nat
def tw13126094882819309675:=Nat
def tw12235499707480095452:=Nat
def tw13163846995763594446:=Nat
def tw8040896086921809756:=Nat
def tw2987927632877734260:=Nat
def tw18409907411622542821:=Nat
def tw10032779302950314631:=Nat
def tw15496649758809672095:=Nat
def tw1309120327385218603:=Nat
def tw9465640304616558169:=Nat
def tw9445386058848338457:=Nat
def tw8345464447857616261:=Nat
def tw4060076525769278989:=Nat
def tw17095783407126313092:=Nat
def tw7682215977874864863:=Nat
def tw7182022615756924986:=Nat
def tw2694116809781970989:=Nat
def tw15503913195695041686:=Nat
def tw10947079325495677415:=Nat
def tw1129840247721668973:=Nat
def tw3992748361963134232:=Nat
def tw13267499545952555900:=Nat
def tw9689999889824493923:=Nat
def tw9252409046204310773:=Nat
def tw5690748089335146788:=Nat
def tw5412777710206709520:=Nat
def tw5489079953107854015:=Nat
def tw6704928510180729945:=Nat
def tw9441365187572723107:=Nat
def tw16294192204872769668:=Nat
def tw9384641372687047782:=Nat
def tw2264336407945644500:=Nat
def tw16289858315484057973:=Nat
def tw11339098265570330800:=Nat
def tw5960044026017888657:=Nat
def tw18292730054288393266:=Nat
def tw18125993058383811699:=Nat
def tw17339141181784428353:=Nat
def tw16900862644550591259:=Nat
def tw16595619008597577864:=Nat
def tw1591226874828449413:=Nat
def tw5441801398828903576:=Nat
def tw9678380629434569783:=Nat
def tw8515947432589801727:=Nat
def tw7920251699345365335:=Nat
def tw7124826482315330692:=Nat
def tw5220239388195079714:=Nat
def tw4893772119604510964:=Nat
def tw4239862249984558331:=Nat
def tw2886874193809750912:=Nat
def tw17074062826729425098:=Nat
def tw16934482301126894584:=Nat
def tw12455265656014787839:=Nat
def tw10660586833879502885:=Nat
def tw6075463525353836787:=Nat
def tw4879456069844672917:=Nat
def tw4327643945508817897:=Nat
def tw3617728016894439605:=Nat
def tw17219494414267197396:=Nat
def tw15784142700212264409:=Nat
def tw14765491250069724335:=Nat
def tw12799288061527404693:=Nat
def tw12212315079209195758:=Nat
def tw1186810161389560931:=Nat
def tw1139003599199201680:=Nat
def tw12906013945954763361:=Nat
def tw8563653650594440175:=Nat
def tw8406165027564089752:=Nat
def tw9816313493039262264:=Nat
def tw9703011074165355813:=Nat
def tw4997371173498328379:=Nat
def tw3772385494114960890:=Nat
def tw2780192203794955666:=Nat
def tw18119373013656812747:=Nat
def tw9591312714270676743:=Nat
def tw9540483158456733363:=Nat
def tw8874566846390116565:=Nat
def tw7482442196856168981:=Nat
def tw7011810138088772541:=Nat
def tw5628992242996957033:=Nat
def tw5379092231234858890:=Nat
def tw15272220891631522985:=Nat
def tw13797864385378771967:=Nat
def tw13654857654199025867:=Nat
def tw13345462333004484543:=Nat
def tw7902806079940209180:=Nat
def tw4242155195645667710:=Nat
def tw14731033232642710194:=Nat
def tw12917386224272981011:=Nat
def tw9949532847821451722:=Nat
def tw9830679805272440227:=Nat
def tw9689434978806130141:=Nat
def tw9426231816679584323:=Nat
def tw9344526672485383239:=Nat
def tw9229752644619340311:=Nat
def tw8875936958471041558:=Nat
def tw8850116893885012192:=Nat
def tw8828882114351668372:=Nat
def tw8791861196050389532:=Nat
def tw8767438148097013728:=Nat
def tw8632197605594173044:=Nat
def tw8576467803758088271:=Nat
def tw8471658086555018956:=Nat
def tw8431128740875896336:=Nat
def tw8388301033386936243:=Nat
def tw8346100055612989581:=Nat
def tw8345138710321575738:=Nat
def tw8338089550462582559:=Nat
def tw8233558519983399081:=Nat
def tw8221208070985199983:=Nat
def tw8204720621263206794:=Nat
def tw8171355043370992273:=Nat
def tw8145831958762762025:=Nat
def tw8105146726221129934:=Nat
def tw7910932825860189238:=Nat
def tw7674606121662097456:=Nat
def tw7673213892555168389:=Nat
def tw7609949599064531669:=Nat
def tw7525186839001676484:=Nat
def tw7427450267071058970:=Nat
def tw7353800718564665657:=Nat
def tw719178402414556715:=Nat
def tw6952196063256739955:=Nat
def tw6861109691355741068:=Nat
def tw6827487604732589504:=Nat
def tw6783297260231530319:=Nat
def tw6480892548405651064:=Nat
def tw6480491041539286706:=Nat
def tw6206756478452225447:=Nat
def tw6180071430231418212:=Nat
def tw6100835749742444452:=Nat
def tw5858235106191246266:=Nat
def tw5712800257318580798:=Nat
def tw5686364476867891833:=Nat
def tw5652588904872208757:=Nat
def tw5597176372703498805:=Nat
def tw557431077742266330:=Nat
def tw5532868062395253915:=Nat
def tw5515603740950129389:=Nat
def tw5410024787781133232:=Nat
def tw5388316669158982212:=Nat
def tw5368573127452792430:=Nat
def tw5305614950781145351:=Nat
def tw5001778499865442363:=Nat
def tw4997319384480213629:=Nat
def tw4962390365122294296:=Nat
def tw4951245794042379558:=Nat
def tw4797535460313029299:=Nat
def tw4679459362386200424:=Nat
def tw4644612619981025681:=Nat
def tw461801698154030128:=Nat
def tw4569402582209117908:=Nat
def tw4547863861548143728:=Nat
def tw4530954949194369650:=Nat
def tw4508252894866415418:=Nat
def tw4486084088464456773:=Nat
def tw4477033844486494221:=Nat
def tw4407587925668172603:=Nat
def tw4355700399861396296:=Nat
def tw4279731687543945200:=Nat
def tw422680860279478992:=Nat
def tw4124603902507070222:=Nat
def tw4072638050286205177:=Nat
def tw3940192278083861884:=Nat
def tw3893404435457458669:=Nat
def tw3878359878413336289:=Nat
def tw3698842907973939237:=Nat
def tw3698104739624673346:=Nat
def tw3540640788972827243:=Nat
def tw3534267332169727886:=Nat
def tw3470546349161544597:=Nat
def tw3124158080528224902:=Nat
def tw3099724988851751376:=Nat
def tw3022358081431946762:=Nat
def tw3020094325359315944:=Nat
def tw3016372974499676402:=Nat
def tw2978775271369151299:=Nat
def tw2791701386560609842:=Nat
def tw2491297317820216958:=Nat
def tw2376243434096772330:=Nat
def tw2086847435655582956:=Nat
def tw2066993803109966433:=Nat
def tw2038350477811578654:=Nat
def tw1976104514407932529:=Nat
def tw1953798674676633633:=Nat
def tw19109052125287167:=Nat
def tw1900422503235246569:=Nat
def tw1876951858170232025:=Nat
def tw18432447177044366122:=Nat
def tw18380761398857057751:=Nat
def tw18225964857433335830:=Nat
def tw18094102464151352096:=Nat
def tw18000783410020650271:=Nat
def tw17831638559722223736:=Nat
def tw17798743847136280524:=Nat
def tw17579503581494645874:=Nat
def tw17575339147137883674:=Nat
def tw17204784803576950371:=Nat
def tw17201577702478324787:=Nat
def tw17142611663805582797:=Nat
def tw17080463035964589593:=Nat
def tw16959487292471171412:=Nat
def tw16922637013877447765:=Nat
def tw16744225650734342121:=Nat
def tw16736934499680505741:=Nat
def tw16697786790438888151:=Nat
def tw16691477303424058774:=Nat
def tw16595487988457632873:=Nat
def tw1644750241257172486:=Nat
def tw16306799044163822159:=Nat
def tw16243879550206517331:=Nat
def tw16198830486217090700:=Nat
def tw15578480000674775845:=Nat
def tw15531187923009583165:=Nat
def tw15517673699022936907:=Nat
def tw15510534782473395765:=Nat
def tw15284259091882624817:=Nat
def tw15222982353565497660:=Nat
def tw15100617874769552880:=Nat
def tw15045452970498260511:=Nat
def tw15020570481816900103:=Nat
def tw14935243251096775638:=Nat
def tw14917755632035893222:=Nat
def tw1480449381192293190:=Nat
def tw14796497422677843055:=Nat
def tw14774365346094715087:=Nat
def tw14729869328426639835:=Nat
def tw14414541891238279396:=Nat
def tw14219108365114626757:=Nat
def tw14139125749116042340:=Nat
def tw14130568872340831346:=Nat
def tw1405619822670859233:=Nat
def tw14039746175521712746:=Nat
def tw13968043529527126357:=Nat
def tw13654462657481339783:=Nat
def tw13614792152439789216:=Nat
def tw13507263719431709577:=Nat
def tw13369145186657369915:=Nat
def tw13336562027156152877:=Nat
def tw12795364335175450294:=Nat
def tw1257030937517922974:=Nat
def tw12568677526240204339:=Nat
def tw12487535765092959825:=Nat
def tw12435088596497432654:=Nat
def tw12343156204403127440:=Nat
def tw12342069186646587324:=Nat
def tw12267637954195607567:=Nat
def tw1225674296611450387:=Nat
def tw12155788237925038458:=Nat
def tw12019566396895605663:=Nat
def tw12008194542111380511:=Nat
def tw11938349561797132996:=Nat
def tw11925364195526108334:=Nat
def tw11874588484111515281:=Nat
def tw11826245570197106050:=Nat
def tw11794357654883645791:=Nat
def tw11627080719975562854:=Nat
def tw11580094643086954472:=Nat
def tw11560951975269793372:=Nat
def tw11521532395759344222:=Nat
def tw11509632116760779552:=Nat
def tw11342725469237982167:=Nat
def tw11116414605548943547:=Nat
def tw11114191377875858306:=Nat
def tw11005438133375690540:=Nat
def tw11003835362154324410:=Nat
def tw10994451253596899154:=Nat
def tw10746734334570633908:=Nat
def tw10695441364952539778:=Nat
def tw10524640826716478674:=Nat
def tw10524059472629100481:=Nat
def tw10468345417679392091:=Nat
def tw10433932840021224307:=Nat
def tw10333048163951709872:=Nat
def tw10152805730391323444:=Nat
def tw1013336348877322284:=Nat
def tw10065702009759456106:=Nat
end PySem.W.Fast
open PySem PySem.W PyProof.Rows
set_option maxRecDepth 100000 in
set_option maxHeartbeats 0 in
theorem PySem.Challenge.cw_growbook_k12_whole_keys_behind_holds : PySem.Challenge.rw_growbook_k12_whole_keys_behind.Holds := by
 w_on;o_law;k_head;(case hw=>w_witness2)
 k_fill
 refine' L2.X6 (l:=PySem.Challenge.rw_growbook_k12_whole_keys_behind) (n:=63) (k:=100) (x:="_law_script") (xn:="_law_numbering") (sp:=My.R1) rfl (by decide) rfl ⟨rfl,by decide,by decide⟩ (fun w h Y=>PySem.W.km_in_of Y) rfl ?ht ?hnt ?F ?S
 case ht=>
  intro w
  refine' L2.Za ?a ?l ?c ?lc ?v
  (case a=>k_is);(case l=>k_is);(case c=>exact rfl);(case lc=>k_is);(case v=>exact rfl)
 case hnt=>intro w;kernel_rfl
 case F=>
  intro w mg fa h KX G hmg TB
  obtain⟨F_split,F_none,F_leaf,F_pair,F_book,F_top,F_path,F_turns,F_risen,F_ind,F_row,F_fork,F_tabs,F_part,F_topp,F_isk,F_rdk,F_rda,F_tks,F_chg,F_ckp,F_same,F_lst,F_isn,F_ise,F_isw,F_ikp,F_fits,F_topw,F_wst,F_cell,F_plain,F_turned,F_numbering,F_sealby,F_draw,F_word,F_lsplit,F_ltop,F_lpath,F_lpart,F_ltab,F_lway,F_text,F_behind,F_filled,F_lpap,F_lbt,F_bent,F_one,F_law⟩:L2.gp (L2.Ap KX) mg "split" My.OA/\L2.gp (L2.Ap KX) mg "none_seal" My.MM/\L2.gp (L2.Ap KX) mg "leaf_seal" My.Ow/\L2.gp (L2.Ap KX) mg "pair_seal" My.Mz/\L2.gp (L2.Ap KX) mg "book_seal" My.Oc/\L2.gp (L2.Ap KX) mg "top_of" My.NN/\L2.gp (L2.Ap KX) mg "path_of" My.Os/\L2.gp (L2.Ap KX) mg "turns_of" My.OH/\L2.gp (L2.Ap KX) mg "risen" My.LH/\L2.gp (L2.Ap KX) mg "in_depth" My.MV/\L2.gp (L2.Ap KX) mg "row_seal" My.N2/\L2.gp (L2.Ap KX) mg "fork_seal" My.Om/\L2.gp (L2.Ap KX) mg "table_seal" My.Mo/\L2.gp (L2.Ap KX) mg "part_of" My.OF/\L2.gp (L2.Ap KX) mg "top_of_part" My.Mg/\L2.gp (L2.Ap KX) mg "is_key" My.NE/\L2.gp (L2.Ap KX) mg "read_key" My.Mf/\L2.gp (L2.Ap KX) mg "read_at" My.Nt/\L2.gp (L2.Ap KX) mg "take_step" My.On/\L2.gp (L2.Ap KX) mg "changed" My.O7/\L2.gp (L2.Ap KX) mg "check_place" My.Ny/\L2.gp (L2.Ap KX) mg "same" My.JT/\L2.gp (L2.Ap KX) mg "leaf_stands" My.NZ/\L2.gp (L2.Ap KX) mg "is_number" My.NJ/\L2.gp (L2.Ap KX) mg "is_end" My.JL/\L2.gp (L2.Ap KX) mg "is_way" My.Lz/\L2.gp (L2.Ap KX) mg "is_key_paper" My.La/\L2.gp (L2.Ap KX) mg "way_fits" My.LW/\L2.gp (L2.Ap KX) mg "top_of_way" My.NV/\L2.gp (L2.Ap KX) mg "way_stands" My.LG/\L2.gp (L2.Ap KX) mg "_law_cell_at" My.LX/\L2.gp (L2.Ap KX) mg "_law_plain" My.Kh/\L2.gp (L2.Ap KX) mg "_law_turned" My.JM/\L2.gp (L2.Ap KX) mg "_law_numbering" My.F5/\L2.gp (L2.Ap KX) mg "_law_seal_by" My.MZ/\L2.gp (L2.Ap KX) mg "_law_draw" My.GU/\L2.gp (L2.Ap KX) mg "_law_word" My.GW/\L2.gp (L2.Ap KX) mg "_law_split" My.NM/\L2.gp (L2.Ap KX) mg "_law_top" My.Md/\L2.gp (L2.Ap KX) mg "_law_path" My.MP/\L2.gp (L2.Ap KX) mg "_law_part" My.N1/\L2.gp (L2.Ap KX) mg "_law_table" My.NB/\L2.gp (L2.Ap KX) mg "_law_way" My.IG/\L2.gp (L2.Ap KX) mg "_law_text" My.LB/\L2.gp (L2.Ap KX) mg "_law_behind" My.MA/\L2.gp (L2.Ap KX) mg "_law_filled" My.HX/\L2.gp (L2.Ap KX) mg "_law_paper" My.Oq/\L2.gp (L2.Ap KX) mg "_law_list_bent" My.ME/\L2.gp (L2.Ap KX) mg "_law_bent" My.Oy/\L2.gp (L2.Ap KX) mg "_law_one" My.CF/\L2.gp (L2.Ap KX) mg "law" My.GN:=by
   refine' ⟨?_,?_,?_,?_,?_,?_,?_,?_,?_,?_,?_,?_,?_,?_,?_,?_,?_,?_,?_,?_,?_,?_,?_,?_,?_,?_,?_,?_,?_,?_,?_,?_,?_,?_,?_,?_,?_,?_,?_,?_,?_,?_,?_,?_,?_,?_,?_,?_,?_,?_,?_⟩
   all_goals (dsimp only[L2.Ap];refine' L2.Z2 KX G ?a ?l ?c ?k;case a | l | c | k=>k_is)
  have z0:mg "len" = none:=by
   refine' PySem.W.mg_none_of KX G ?z;(case z=>k_is)
  have z1:mg "range" = none:=by
   refine' PySem.W.mg_none_of KX G ?z;(case z=>k_is)
  have z2:mg "str" = none:=by
   refine' PySem.W.mg_none_of KX G ?z;(case z=>k_is)
  have z3:mg "sorted" = none:=by
   refine' PySem.W.mg_none_of KX G ?z;(case z=>k_is)
  have z4:mg "min" = none:=by
   refine' PySem.W.mg_none_of KX G ?z;(case z=>k_is)
  have z5:mg "max" = none:=by
   refine' PySem.W.mg_none_of KX G ?z;(case z=>k_is)
  have z6:mg "int" = none:=by
   refine' PySem.W.mg_none_of KX G ?z;(case z=>k_is)
  have z7:mg "all" = none:=by
   refine' PySem.W.mg_none_of KX G ?z;(case z=>k_is)
  have z8:mg "enumerate" = none:=by
   refine' PySem.W.mg_none_of KX G ?z;(case z=>k_is)
  have z9:mg "list" = none:=by
   refine' PySem.W.mg_none_of KX G ?z;(case z=>k_is)
  have z10:mg "tuple" = none:=by
   refine' PySem.W.mg_none_of KX G ?z;(case z=>k_is)
  have z11:mg "isinstance" = none:=by
   refine' PySem.W.mg_none_of KX G ?z;(case z=>k_is)
  have z12:mg "bool" = none:=by
   refine' PySem.W.mg_none_of KX G ?z;(case z=>k_is)
  have z13:mg "dict" = none:=by
   refine' PySem.W.mg_none_of KX G ?z;(case z=>k_is)
  have z14:mg "zip" = none:=by
   refine' PySem.W.mg_none_of KX G ?z;(case z=>k_is)
  have z15:mg "reversed" = none:=by
   refine' PySem.W.mg_none_of KX G ?z;(case z=>k_is)
  obtain⟨tf,tm,FG,MF0⟩:∃ tf tm,mg "FIGURES" = some (.str "0123456789" tf)/\mg "MOST_FIGURES" = some (.int 9 tm):=by
   refine' My.WS KX G ?f ?m
   case f | m=>k_is
  obtain⟨cP,XC,HP⟩:∃ cP,L2.Ei (L2.Ap KX) cP/\mg "BadPaper" = some (.ref cP):=by
   dsimp only[L2.Ap]
   refine' My.Vy "BadPaper" KX G ?a1 ?lB ?lk ?l1 ?l2 ?e1 ?e2 ?b1 ?b2 ?b3 ?b4 ?c1 ?c2 ?c3 ?c4 ?ga ?gn ?fo ?sp ?tk ?mo
   (case a1 | lk | lB | l1 | l2=>k_is);(case e1=>rfl);(case e2=>rfl);(case b1 | b2 | b3 | b4 | c1 | c2 | c3 | c4 | ga | gn | fo | sp | tk | mo=>k_is)
  obtain⟨cE,XE,HE⟩:∃ cP,L2.Ei (L2.Ap KX) cP/\mg "NoPlace" = some (.ref cP):=by
   dsimp only[L2.Ap]
   refine' My.Vy "NoPlace" KX G ?a1 ?lB ?lk ?l1 ?l2 ?e1 ?e2 ?b1 ?b2 ?b3 ?b4 ?c1 ?c2 ?c3 ?c4 ?ga ?gn ?fo ?sp ?tk ?mo
   (case a1 | lk | lB | l1 | l2=>k_is);(case e1=>rfl);(case e2=>rfl);(case b1 | b2 | b3 | b4 | c1 | c2 | c3 | c4 | ga | gn | fo | sp | tk | mo=>k_is)
  obtain⟨cT,TT,MT,T_init,T_check,T_put,T_cut,T_head,T_way,T_twin,T_rows⟩:∃ C,My.Txt (L2.Ap KX) mg C/\(∃ fI,L2.Mk (L2.Ap KX) C fI)/\L2.KF (L2.Ap KX) C "__init__" "Table.__init__" My.Ja [8]/\L2.gq (L2.Ap KX) C "check" "Table.check" My.Jf/\L2.gq (L2.Ap KX) C "put" "Table.put" My.IQ/\L2.gq (L2.Ap KX) C "cut" "Table.cut" My.Ih/\L2.gq (L2.Ap KX) C "head" "Table.head" My.Jn/\L2.gq (L2.Ap KX) C "way" "Table.way" My.JD/\L2.gq (L2.Ap KX) C "twin" "Table.twin" My.Ir/\L2.gq (L2.Ap KX) C "rows" "Table.rows" My.II:=by
   dsimp only[L2.Ap]
   refine' My.dL KX G ?aC ?pg ?hd ?po ?sa ?mk ?kc ?n0 ?n1 ?n2 ?aI ?iI ?m0 ?m1 ?m2 ?m3 ?m4 ?m5 ?m6 ?m7
   (case aC | pg | hd | po | sa | mk | kc | n0 | n1 | n2 | aI | iI=>k_is)
   case m0=>
    refine' L2.gK ?a ?i ?l ?c ?k ?t
    case a | i | l | c | k | t=>k_is
   case m1 | m2 | m3 | m4 | m5 | m6 | m7=>(refine' L2.Hm ?a ?i ?l ?c ?k;case a | i | l | c | k=>k_is)
  obtain⟨C,TK,MK,K_init,K_add,K_sow,K_tb,K_text,K_th,K_path,K_way,K_paper⟩:∃ C,My.DW (L2.Ap KX) mg C/\(∃ fI,L2.Mk (L2.Ap KX) C fI)/\L2.iB (L2.Ap KX) C "__init__" "Keeper.__init__" My.IV (.int 8)/\L2.gq (L2.Ap KX) C "add" "Keeper.add" My.IY/\L2.gq (L2.Ap KX) C "size_or_whole" "Keeper.size_or_whole" My.Js/\L2.gq (L2.Ap KX) C "table_behind" "Keeper.table_behind" My.Jb/\L2.gq (L2.Ap KX) C "text" "Keeper.text" My.Jl/\L2.gq (L2.Ap KX) C "table_head" "Keeper.table_head" My.Jh/\L2.iB (L2.Ap KX) C "path" "Keeper.path" My.Il .non/\L2.gq (L2.Ap KX) C "way" "Keeper.way" My.IZ/\L2.iB (L2.Ap KX) C "paper" "Keeper.paper" My.J1 .non:=by
   dsimp only[L2.Ap]
   refine' My.fj KX G ?aC ?pg ?hd ?po ?sa ?mk ?kc ?n0 ?n1 ?n2 ?n3 ?n4 ?aI ?iI ?m0 ?m1 ?m2 ?m3 ?m4 ?m5 ?m6 ?m7 ?m8
   (case aC | pg | hd | po | sa | mk | kc | n0 | n1 | n2 | n3 | n4 | aI | iI=>k_is)
   case m0=>
    refine' L2.QD ?a ?i ?l ?c ?k ?t ?r
    case a | i | l | c | k | t=>k_is
    (case r=>exact⟨_,rfl⟩)
   case m1 | m2 | m3 | m4 | m5=>(refine' L2.Hm ?a ?i ?l ?c ?k;case a | i | l | c | k=>k_is)
   case m6=>
    refine' L2.QD ?a ?i ?l ?c ?k ?t ?r
    case a | i | l | c | k | t=>k_is
    (case r=>exact rfl)
   case m7=>(refine' L2.Hm ?a ?i ?l ?c ?k;case a | i | l | c | k=>k_is)
   case m8=>
    refine' L2.QD ?a ?i ?l ?c ?k ?t ?r
    case a | i | l | c | k | t=>k_is
    (case r=>exact rfl)
  obtain⟨cG,TG,MG,G_init,G_judged,G_none⟩:∃ C,My.Hl (L2.Ap KX) mg C/\(∃ fI,L2.Mk (L2.Ap KX) C fI)/\L2.gq (L2.Ap KX) C "__init__" "Grows.__init__" My.J5/\L2.gq (L2.Ap KX) C "judged" "Grows.judged" My.Ji/\L2.gq (L2.Ap KX) C "judged_from_none" "Grows.judged_from_none" My.J3:=by
   dsimp only[L2.Ap]
   refine' My.WL KX G ?aC ?pg ?hd ?po ?sa ?mk ?kc ?n0 ?n1 ?aI ?iI ?m0 ?m1 ?m2
   (case aC | pg | hd | po | sa | mk | kc | n0 | n1 | aI | iI=>k_is)
   case m0 | m1 | m2=>(refine' L2.Hm ?a ?i ?l ?c ?k;case a | i | l | c | k=>k_is)
  obtain⟨cF,TF,MF,F_finit,F_take,F_judge⟩:∃ C,My.Ga (L2.Ap KX) mg C/\(∃ fI,L2.Mk (L2.Ap KX) C fI)/\L2.gq (L2.Ap KX) C "__init__" "Follower.__init__" My.J8/\L2.gq (L2.Ap KX) C "take" "Follower.take" My.Iq/\L2.gq (L2.Ap KX) C "judge" "Follower.judge" My.HV:=by
   dsimp only[L2.Ap]
   refine' My.aG KX G ?aC ?pg ?hd ?po ?sa ?mk ?kc ?n0 ?n1 ?n2 ?aI ?iI ?m0 ?m1 ?m2
   (case aC | pg | hd | po | sa | mk | kc | n0 | n1 | n2 | aI | iI=>k_is)
   case m0 | m1 | m2=>(refine' L2.Hm ?a ?i ?l ?c ?k;case a | i | l | c | k=>k_is)
  obtain⟨cH,cC,TH,IH,MH,H_init,H_judged⟩:∃ C cC,My.Jy (L2.Ap KX) mg C/\My.DR (L2.Ap KX) mg C cC/\(∃ fI,L2.Mk (L2.Ap KX) C fI)/\L2.gq (L2.Ap KX) C "__init__" "Holds.__init__" My.Jz/\L2.gq (L2.Ap KX) C "judged" "Holds.judged" My.Hf:=by
   dsimp only[L2.Ap]
   refine' My.Yi KX G ?aC ?pg ?hd ?po ?sa ?mk ?kc ?n0 ?n1 ?n2 ?n3 ?aI ?iI ?aB ?lB ?fo ?sp ?tk ?mo ?kB ?ne ?m0 ?m1
   (case aC | pg | hd | po | sa | mk | kc | n0 | n1 | n2 | n3 | aI | iI | aB | lB | fo | sp | tk | mo | kB=>k_is);(case ne=>decide)
   case m0 | m1=>(refine' L2.Hm ?a ?i ?l ?c ?k;case a | i | l | c | k=>k_is)
  obtain⟨cL,cD,TL,IL,ML,L_init,L_judged⟩:∃ C cC,My.IE (L2.Ap KX) mg C/\My.DR (L2.Ap KX) mg C cC/\(∃ fI,L2.Mk (L2.Ap KX) C fI)/\L2.gq (L2.Ap KX) C "__init__" "Lacks.__init__" My.IC/\L2.gq (L2.Ap KX) C "judged" "Lacks.judged" My.Hk:=by
   dsimp only[L2.Ap]
   refine' My.Zk KX G ?aC ?pg ?hd ?po ?sa ?mk ?kc ?n0 ?n1 ?n2 ?aI ?iI ?aB ?lB ?fo ?sp ?tk ?mo ?kB ?ne ?m0 ?m1
   (case aC | pg | hd | po | sa | mk | kc | n0 | n1 | n2 | aI | iI | aB | lB | fo | sp | tk | mo | kB=>k_is);(case ne=>decide)
   case m0 | m1=>(refine' L2.Hm ?a ?i ?l ?c ?k;case a | i | l | c | k=>k_is)
  obtain⟨fd,hb,hF⟩:=L2.ZU (x:="_law_script") (ps:=["_law_script"]) hmg F_law (fun base kb nb hC hB=>My.Z8 (P:=PySem.Challenge.rw_growbook_k12_whole_keys_behind.prog) (w:=w) (base:=base) kb nb ⟨hC,hB,TB⟩ F_split F_none F_leaf F_pair F_book F_top F_path F_turns F_risen F_ind F_row F_fork F_tabs F_part F_topp F_isk F_rdk F_rda F_tks F_chg F_ckp F_same F_lst F_isn F_ise F_isw F_ikp F_fits F_topw F_wst F_cell F_plain F_turned F_numbering F_sealby F_draw F_word F_lsplit F_ltop F_lpath F_lpart F_ltab F_lway F_text F_behind F_filled F_lpap F_lbt F_bent F_one F_law z0 z1 z2 z3 z4 z5 z6 z7 z8 z9 z10 z11 z12 z13 z14 z15 FG MF0 XC HP XE HE TT MT T_init T_check T_put T_cut T_head T_way T_twin T_rows TK MK K_init K_add K_sow K_tb K_text K_th K_path K_way K_paper TG MG G_init G_judged G_none TF MF F_finit F_take F_judge TH IH MH H_init H_judged TL IL ML L_init L_judged)
  exact⟨fd,hb,hF⟩
 case S=>
  intro K mg Pt H a ns hl hS hScr hP
  exact⟨a,ns,rfl,My.ZS hS hScr,hl,hP,fun _=>rfl⟩
#print axioms PySem.Challenge.cw_growbook_k12_whole_keys_behind_holds
