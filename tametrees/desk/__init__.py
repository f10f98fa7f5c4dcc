"""A desk that keeps trees and promises about them."""
